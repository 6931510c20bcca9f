import PyProof.Rows.All
import Wide.All
import OpenK.AllK
import Wide.FinOn
import Lean
import PyProof.EqAt
import PyProof.EqKinds
import PyProof.TupleCall
import PyProof.NeKinds
import PyProof.IsiPairs
import PyProof.EnumMake
import PyProof.Draws
import PyProof.CompFree
import PyProof.CompUse
import PyProof.ConsumeWalk
import PyProof.NeData
import PyProof.P3In
import PyProof.Rows.ReprR
import PyProof.ZipIter
import PyProof.MinMaxWalk
import PyProof.Rows.TupAdd
import PyProof.ListMulRoad
import PyProof.FactsAll.tuple_2
import PyProof.Rows.FStr
import PyProof.StrCalls2
import PyProof.Rows.StrWeight2
import PyProof.Rows.StrSplitJoin
import PyProof.Rows.TupIter
import PyProof.Rows.SortStr
import KE.KSortTup
import PyProof.Rows.SortWalkRead
import PyProof.AttrMissSeq
import KE.KDictOf
import KE.KDictList
import KE.KDictSum
import PyProof.DictRoads
import PyProof.DictStraight
import PyProof.TupleOfSeq
import PyProof.DictTable
import PyProof.StrWalks
import PyProof.ListRange
import PyProof.TupleOfGen
import KE.KRevIter
import PyProof.FactsAll.dict_1
import PyProof.FactsAll.subtypes_3
import PyProof.FitsReplace
import PyProof.StrLawsOcc
import KE.KIntText
import PyProof.StrLawsTight
import PyProof.StrLawsChain
import PySem.Challenge.RW_hearsaybook_k74_rows_written
set_option Elab.async false
set_option linter.all false
set_option maxRecDepth 100000
set_option maxHeartbeats 4000000
section
open List (length_map length_cons mem_cons_self size_toArray mem_cons_of_mem length_append getElem?_append_left map_cons lookup_cons getElem?_set_ne mem_append_right getElem?_append_right getElem?_map not_mem_nil map_map length_set mem_cons getElem?_eq_getElem append_nil length_nil replicate_succ getElem?_set_self append_assoc getElem?_replicate filter_cons_of_pos zip_cons_cons length_replicate map_append flatten_cons length_drop forIn_cons length_take mem_of_getElem? all_eq_true drop_length sum_cons any_cons of_mem_zip nil_append forIn_nil zip_nil_left length_range map_nil filter_nil all_map set_set map_id)
open Nat (le_refl le_trans lt_of_lt_of_le ne_of_lt le_of_lt zero_le lt_trans lt_irrefl le_add_right)
open PySem.Heap (get?_push_of_some lt_size get?_push_size get?_update_self size_push)
open Int (toNat_natCast)
namespace L2
open PySem PySem.Spec PyProof.Rows
abbrev Key:=Sum Int Str
def ZDT:Key->Value->Bool
 |.inl k,v=>Value.isInt k v
 |.inr x,v=>Value.isStrOf x v
def keyH(w:World):Key->Int
 |.inl k=>hashInt k
 |.inr x=>hashStr w x
theorem ZP:∀{k:Key} {v:Value},ZDT k v=true->(∃i t,k=Sum.inl i/\v=Value.int i t)∨(∃x t,k=Sum.inr x/\v=Value.str x t)
 |.inl i,v,h=>by
  obtain⟨t,e⟩:=Value.isInt_shape (k:=i) (v:=v) h;exact .inl ⟨i,t,rfl,e⟩
 |.inr x,v,h=>by
  obtain⟨t,e⟩:=Value.isStrOf_shape (x:=x) (v:=v) h;exact .inr ⟨x,t,rfl,e⟩
theorem ZF3(i:Int)(t:Tok):ZDT (.inl i) (.int i t)=true:=by simp[ZDT,Value.isInt]
theorem ZGE(x:Str)(t:Tok):ZDT (.inr x) (.str x t)=true:=by simp[ZDT,Value.isStrOf]
theorem ZKk(a b:Int):decide ((Sum.inl a:Key)=Sum.inl b)=(a == b):=by
 by_cases e:a=b
 ·subst e;simp
 ·have h : ¬(Sum.inl a:Key)=Sum.inl b:=λq=>e (Sum.inl.inj q)
  rw[decide_eq_false h];exact(beq_eq_false_iff_ne.mpr e).symm
theorem ZL5(a b:Str):decide ((Sum.inr a:Key)=Sum.inr b)=decide (a=b):=by
 by_cases e:a=b
 ·subst e;simp
 ·have h : ¬(Sum.inr a:Key)=Sum.inr b:=λq=>e (Sum.inr.inj q)
  rw[decide_eq_false h,decide_eq_false e]
theorem ZKy(a:Int)(b:Str):decide ((Sum.inl a:Key)=Sum.inr b)=false:=decide_eq_false (λq=>nomatch q)
theorem ZLR(a:Str)(b:Int):decide ((Sum.inr a:Key)=Sum.inl b)=false:=decide_eq_false (λq=>nomatch q)
def ZAW(prog:Program)(w:World):PySem.KeyKind prog w Key where
 is:=ZDT
 hash:=keyH w
 inj:=λv a b ha hb=>by
  rcases ZP ha with ⟨i,t,rfl,rfl⟩|⟨x,t,rfl,rfl⟩
  ·rcases ZP hb with ⟨j,u,rfl,e⟩|⟨y,u,rfl,e⟩
   ·injection e with e1 _;rw[e1]
   ·exact nomatch e
  ·rcases ZP hb with ⟨j,u,rfl,e⟩|⟨y,u,rfl,e⟩
   ·exact nomatch e
   ·injection e with e1 _;rw[e1]
 byValue:=λk v h=>by
  rcases ZP h with ⟨i,t,rfl,rfl⟩|⟨x,t,rfl,rfl⟩ <;> rfl
 pyHash:=λhv h=>by
  rcases ZP hv with ⟨i,t,rfl,rfl⟩|⟨x,t,rfl,rfl⟩
  ·exact wpAny_pyHash_int h
  ·exact wpAny_pyHash_str h
 eqBool:=λhu hv h=>by
  rcases ZP hu with ⟨i,t,rfl,rfl⟩|⟨x,t,rfl,rfl⟩
  ·rcases ZP hv with ⟨j,u,rfl,rfl⟩|⟨y,u,rfl,rfl⟩
   ·rw[ZKk] at h;exact wpAny_eqBool_int h
   ·rw[ZKy] at h;exact SeqAt.EqAt.int_str i t y u _ _ _ _ h
  ·rcases ZP hv with ⟨j,u,rfl,rfl⟩|⟨y,u,rfl,rfl⟩
   ·rw[ZLR] at h;exact SeqAt.EqAt.str_int x t j u _ _ _ _ h
   ·rw[ZL5] at h;exact wpAny_eqBool_str h
 «strs»:=λk x t v h=>by
  rcases ZP h with ⟨i,u,rfl,e⟩|⟨y,u,rfl,e⟩
  ·exact nomatch e
  ·injection e with e1 _
   subst e1;cases v <;> rfl
theorem ZEV(prog:Program)(w:World)(i:Int)(t:Tok):(ZAW prog w).is (.inl i) (.int i t)=true:=ZF3 i t
theorem ZEg(prog:Program)(w:World)(x:Str)(t:Tok):(ZAW prog w).is (.inr x) (.str x t)=true:=ZGE x t
inductive V where
 |non|bl (b:Bool)|int (i:Int)|str (x:Str)|byt (b:Array UInt8)|flt (b:UInt64)|ref (a:Addr)|ty (n:String)
 deriving DecidableEq
def ZS:V->Value->Prop
 |.non,u=>u=Value.none
 |.bl b,u=>u=Value.bool b
 |.int i,u=>∃t,u=Value.int i t
 |.str x,u=>∃t,u=Value.str x t
 |.byt b,u=>∃t,u=Value.bytes b t
 |.flt b,u=>∃t,u=Value.float b t
 |.ref a,u=>u=Value.ref a
 |.ty n,u=>u=Value.type n
abbrev ZI:List V->List Value->Prop:=Paired ZS
theorem ZI.length{xs:List V}{us:List Value}(r:ZI xs us):xs.length=us.length:=Paired.length r
theorem ZI.get:∀{xs:List V} {us:List Value} {i:Nat} {x:V},ZI xs us->xs[i]? = some x->∃u,us[i]? = some u/\ZS x u
 |_,_,_,_,.nil,e=>by simp at e
 |_,_,0,_,.cons r _,e=>by simp at e;subst e;exact⟨_,rfl,r⟩
 |_,_,i+1,x,.cons _ t,e=>by
  obtain⟨u,h1,h2⟩:=ZI.get (i:=i) (x:=x) t (by simpa using e);exact⟨u,by simpa using h1,h2⟩
theorem ZI.set{x:V}{u:Value}(r:ZS x u):∀{xs:List V} {us:List Value} (i:Nat),ZI xs us->ZI (xs.set i x) (us.set i u)
 |_,_,_,.nil=>.nil
 |_,_,0,.cons _ t=>.cons r t
 |_,_,i+1,.cons q t=>.cons q (ZI.set r i t)
theorem ZI.append:∀{xs ys:List V} {us ws:List Value},ZI xs us->ZI ys ws->ZI (xs++ys) (us++ws)
 |_,_,_,_,.nil,s=>s
 |_,_,_,_,.cons r t,s=>.cons r (ZI.append t s)
theorem ZI.take:∀{xs:List V} {us:List Value} (n:Nat),ZI xs us->ZI (xs.take n) (us.take n)
 |_,_,0,_=>.nil
 |_,_,_+1,.nil=>.nil
 |_,_,n+1,.cons r t=>.cons r (ZI.take n t)
theorem ZI.drop:∀{xs:List V} {us:List Value} (n:Nat),ZI xs us->ZI (xs.drop n) (us.drop n)
 |_,_,0,r=>r
 |_,_,_+1,.nil=>.nil
 |_,_,n+1,.cons _ t=>ZI.drop n t
def ZMK:Option V->Option Value->Prop
 |some v,some u=>ZS v u
 |none,none=>True
 |_,_=>False
def KV{κ : Type}:List (κ×V)->List (κ×Value)->Prop:=Paired λ(p : κ×V) (q : κ×Value)=>p.1=q.1/\ZS p.2 q.2
def kV:Key->V
 |.inl i=>.int i
 |.inr x=>.str x
inductive HO where
 /-- a list -/
 |lst (xs:List V)
 /-- a tuple (never changes) -/
 |tup (xs:List V)
 /-- a dict whose keys are ints and texts;one whose keys are tuples of ints and texts (the empty one is both) -/
 |dK (kvs:List (Key×V))|dT (kvs:List (List Key×V))
 /-- a set of ints: its members,its size -/
 |set (S:Int->Bool) (n:Nat)
 /-- an instance of the class at C,its dict at dx,its attributes -/
 |ins (C dx:Addr) (fs:List (Str×V))
 /-- the dict of the instance at x -/
 |own (x:Addr)
 /-- the dict of an exception -/
 |xd (fs:List (Str×V))
 /-- a bound method,f of x -/
 |met (f x:Addr)
 /-- a range object lo,lo+1,.. below hi -/
 |rng (lo hi:Int)
 /-- a thing that is known to the object (the script;a dict while a loop walks it): read,never written while it is so -/
 |frz (o:Obj) (u:HO)
 /-- a code object's table -/
 |tbl (ps:Array Value)
 /-- any other thing,by what is true of its one object (a def of one's own: SetO a S n:=HO.ext λh=>..) -/
 |ext (φ : Heap->Prop)
abbrev Hp:=Addr->Option HO
def upd(H:Hp)(a:Addr)(o:HO):Hp:=λb=>if b=a then some o else H b
theorem ZG{H:Hp}{a:Addr}{o:HO}:upd H a o a=some o:=by unfold upd;rw[if_pos rfl]
theorem ZE{H:Hp}{a b:Addr}{o:HO}(h:b≠a):upd H a o b=H b:=by unfold upd;rw[if_neg h]
theorem ZF{H:Hp}{a b:Addr}{o:HO}(h:H a=some o)(h':H b=none):a≠b:=by
 intro e;subst e;rw[h] at h';cases h'
section
variable(P:Program)(w:World)
def ZAM(H:Hp)(h:Heap)(a:Addr):HO->Prop
 |.lst xs=>xs.length<=sizeLine/\∃(its:List Value) (n:Nat),ZI xs its/\h.get? a=some { cls:=.type "list",data:=.seq its.toArray n }
 |.tup xs=>xs.length<=sizeLine/\∃its:List Value,ZI xs its/\IsTup h a its.toArray
 |.dK kvs=>kvs.length<=sizeLine/\(a == sysModules)=false/\∃vs,KV kvs vs/\h.DictOf (ZAW P w) a vs
 |.dT kvs=>kvs.length<=sizeLine/\(a == sysModules)=false/\∃xs:List (List Key×Addr×Value),
   Paired (λ(p:List Key×V) (q:List Key×Addr×Value)=>p.1=q.1/\H q.2.1=some (.tup (p.1.map kV))/\ZS p.2 q.2.2) kvs xs /\
   ∃o es ep,h.get? a=some o/\o.ExactDict/\o.data=.dict es ep/\es.toList=xs.map (entryOfKey (tupleKind (ZAW P w)))/\(xs.map (·.1)).Nodup
 |.set S n=>h.SetOf (intKind P w) a S n
 |.ins C dx fs=>H dx=some (.own a)/\fs.length<=1000/\dx≠a/\h.get? a=some (PySem.W.instObj C dx) /\
   ∃mA,h.Ns1 dx mA/\(∀f,ZMK (fs.lookup f) (mA f))/\PySem.Within mA (fs.map (·.1))
 |.own _=>∃o,h.get? a=some o
 |.xd fs=>∃mA,h.Ns1 a mA/\∀f,ZMK (fs.lookup f) (mA f)
 |.rng lo hi=>∃t u v,h.get? a=some { cls:=.type "range",data:=.fields #[.int lo t,.int hi u,.int 1 v] }
 |.frz o u=>h.get? a=some o/\ZAM H h a u
 |.tbl ps=>h.get? a=some { cls:=.none,data:=.fields ps }
 |.met f x=>h.get? a=some (PySem.W.methodObj (.ref f) (.ref x))
 |.ext φ=>φ h/\(∃o,h.get? a=some o)/\∀h1 h2:Heap,φ h1->(∀o,h1.get? a=some o->h2.get? a=some o)->φ h2
def HOk(H:Hp)(h:Heap):Prop:=∀a o,H a=some o->ZAM P w H h a o
end
section
variable{P:Program}{w:World}{H H':Hp}{h h':Heap}{a:Addr}{o:HO}
theorem ZAM.lt(x:ZAM P w H h a o):a<h.objs.size:=by
 cases o with
 |lst xs=>obtain⟨_,_,_,_,e⟩:=x;exact lt_size e
 |tup xs=>obtain⟨_,_,_,p⟩:=x;exact p.lt
 |dK kvs=>obtain⟨_,_,_,_,o,_,_,e,_⟩:=x;exact lt_size e
 |dT kvs=>obtain⟨_,_,_,_,o,_,_,e,_⟩:=x;exact lt_size e
 |set S n=>obtain⟨o,_,_,_,e,_⟩:=x;exact lt_size e
 |ins C dx fs=>obtain⟨_,_,_,e,_⟩:=x;exact lt_size e
 |own y=>obtain⟨_,e⟩:=x;exact lt_size e
 |xd fs=>obtain⟨_,⟨_,_,_,e,_⟩,_⟩:=x;exact lt_size e
 |rng lo hi=>obtain⟨_,_,_,e⟩:=x;exact lt_size e
 |frz ob u=>obtain⟨e,_⟩:=x;exact lt_size e
 |tbl ps=>exact lt_size (show h.get? a=some _ from x)
 |met f y=>exact lt_size (show h.get? a=some _ from x)
 |ext φ=>obtain⟨_,⟨_,e⟩,_⟩:=x;exact lt_size e
theorem Paired.mapP{α β : Type}{F G : α->β->Prop}:∀{l₁ : List α} {l₂ : List β},Paired F l₁ l₂->(∀a b,F a b->G a b)->Paired G l₁ l₂
 |_,_,.nil,_=>.nil
 |_,_,.cons r t,f=>.cons (f _ _ r) (Paired.mapP t f)
theorem ZAM.stay(x:ZAM P w H h a o)(k:∀b u,(b=a∨H b=some (.own a))->h.get? b=some u->h'.get? b=some u)
  (ho:∀b,H b=some (.own a)->H' b=some (.own a))(ht:∀b xs,H b=some (.tup xs)->H' b=some (.tup xs)):ZAM P w H' h' a o:=by
 induction o with
 |lst xs=>obtain⟨z,its,n,r,e⟩:=x;exact⟨z,its,n,r,k _ _ (.inl rfl) e⟩
 |tup xs=>obtain⟨z,its,r,ob,e,c⟩:=x;exact⟨z,its,r,ob,k _ _ (.inl rfl) e,c⟩
 |dK kvs=>obtain⟨z,y,vs,r,ob,es,ep,e,c⟩:=x;exact⟨z,y,vs,r,ob,es,ep,k _ _ (.inl rfl) e,c⟩
 |dT kvs =>
  obtain⟨z,y,xs,r,ob,es,ep,e,c⟩:=x;exact⟨z,y,xs,Paired.mapP r λp q z=>⟨z.1,ht _ _ z.2.1,z.2.2⟩,ob,es,ep,k _ _ (.inl rfl) e,c⟩
 |set S n=>obtain⟨ob,es,ep,t,e,c⟩:=x;exact⟨ob,es,ep,t,k _ _ (.inl rfl) e,c⟩
 |ins C dx fs =>
  obtain⟨d,z,ne,e,mA,⟨od,es,ep,e2,c⟩,r⟩:=x;exact⟨ho _ d,z,ne,k _ _ (.inl rfl) e,mA,⟨od,es,ep,k _ _ (.inr d) e2,c⟩,r⟩
 |own y=>obtain⟨ob,e⟩:=x;exact⟨ob,k _ _ (.inl rfl) e⟩
 |xd fs=>obtain⟨mA,⟨od,es,ep,e,c⟩,r⟩:=x;exact⟨mA,⟨od,es,ep,k _ _ (.inl rfl) e,c⟩,r⟩
 |rng lo hi=>obtain⟨t,u,v,e⟩:=x;exact⟨t,u,v,k _ _ (.inl rfl) e⟩
 |frz ob u ih=>obtain⟨e,q⟩:=x;exact⟨k _ _ (.inl rfl) e,ih q⟩
 |tbl ps =>
  have e:h.get? a=some { cls:=.none,data:=.fields ps }:=x;show h'.get? a=some { cls:=.none,data:=.fields ps };exact k a _ (.inl rfl) e
 |met f y =>
  have e:h.get? a=some (PySem.W.methodObj (.ref f) (.ref y)):=x;show h'.get? a=some (PySem.W.methodObj (.ref f) (.ref y));exact k a _ (.inl rfl) e
 |ext φ=>obtain⟨p,⟨o,e⟩,st⟩:=x;exact⟨st _ _ p λo q=>k _ _ (.inl rfl) q,⟨o,k _ _ (.inl rfl) e⟩,st⟩
theorem HOk.lt(x:HOk P w H h)(e:H a=some o):a<h.objs.size:=(x a o e).lt
theorem HOk.fresh(x:HOk P w H h)(e:h.objs.size<=a):H a=none:=by
 cases q:H a with
 |none=>rfl
 |some u=>exact absurd (lt_of_lt_of_le (x.lt q) e) (lt_irrefl _)
theorem HOk.kept(x:HOk P w H h)(k:∀b u,h.get? b=some u->h'.get? b=some u):HOk P w H h':=λa o e =>
 (x a o e).stay (λb u _ q=>k b u q) (λ_ q=>q) λ_ _ q=>q
theorem HOk.laid(x:HOk P w H h)(k:∀b u,h.get? b=some u->h'.get? b=some u)(hp:h.objs.size<=a)(new:ZAM P w (upd H a o) h' a o):HOk P w (upd H a o) h':=λb u e=>by
 have hn:=x.fresh hp
 by_cases hb:b=a
 ·subst hb;rw[ZG] at e;cases e;exact new
 ·rw[ZE hb] at e
  exact(x b u e).stay (λc v _ q=>k c v q) (λc q=>by rw[ZE (ZF q hn)];exact q) λc xs q=>by rw[ZE (ZF q hn)];exact q
end
def Rd(H:Hp)(a:Addr)(u:HO):Prop:=H a=some u∨∃o,H a=some (.frz o u)
theorem Rd.ok{P:Program}{w:World}{H:Hp}{h:Heap}{a:Addr}{u:HO}(r:Rd H a u)(x:HOk P w H h):ZAM P w H h a u:=by
 rcases r with r|⟨o,r⟩
 ·exact x a u r
 ·obtain⟨_,q⟩:=x a _ r
  exact q
def Mut:Option HO->Prop
 |some (.lst _)=>True
 |some (.dK _)=>True
 |some (.dT _)=>True
 |some (.set _ _)=>True
 |some (.ins _ _ _)=>True
 |some (.ext _)=>True
 |_=>False
section
variable{P:Program}{w:World}{H:Hp}{h h':Heap}{x e:Addr}{o':HO}
theorem HOk.write(ok:HOk P w H h)(mu:Mut (H x))(he:e=x∨H e=some (.own x))(k:∀b u,b≠e->h.get? b=some u->h'.get? b=some u)(heo:∃u,h'.get? e=some u)
  (new:ZAM P w (upd H x o') h' x o'):HOk P w (upd H x o') h':=λb u q=>by
 have nown:∀c y,H c=some (.own y)->c≠x:=λc y r z=>by subst z;rw[r] at mu;exact mu
 have ntup:∀c xs,H c=some (.tup xs)->c≠x:=λc xs r z=>by subst z;rw[r] at mu;exact mu
 by_cases hb:b=x
 ·subst hb;rw[ZG] at q;cases q;exact new
 ·rw[ZE hb] at q
  by_cases hbe:b=e
  ·have q':H b=some (.own x):=by
    rcases he with z|z
    ·exact absurd (hbe.trans z) hb
    ·rw[hbe];exact z
   rw[q] at q';cases q';obtain⟨v,hv⟩:=heo;exact⟨v,by rw[hbe];exact hv⟩
  ·refine(ok b u q).stay (λc v hc r=>k c v ?_ r) (λc r=>by rw[ZE (nown c b r)];exact r) λc xs r=>by rw[ZE (ntup c xs r)];exact r
   rcases hc with rfl|hc
   ·exact hbe
   ·rintro rfl
    rcases he with z|z
    ·exact nown c b hc z
    ·rw[hc] at z;cases z;exact hb rfl
end
structure Un (fs ex:List Addr) (H H':Hp) (h h':Heap):Prop where
 keep:∀b o,h.get? b=some o->H b=none->b∉fs->b∉ex->h'.get? b=some o
 slot:∀b o,h.get? b=some o->H b=none->b∈fs->b∉ex->∃sl,h'.get? b=some { o with slots:=sl }
 free:∀b o,h.get? b=some o->H b=none->b∉ex->H' b=none
 there:∀b o,h.get? b=some o->b∉ex->∃o',h'.get? b=some o'
 tups:∀b xs,H b=some (.tup xs)->H' b=some (.tup xs)
 frzs:∀b o u,H b=some (.frz o u)->H' b=some (.frz o u)
 tbls:∀b ps,H b=some (.tbl ps)->∃more,H' b=some (.tbl (ps++more))
section
variable{fs fs' ex ex':List Addr}{H H1 H2:Hp}{h h1 h2 h':Heap}{a x e:Addr}{o:HO}
theorem Un.any(u:Un fs ex H H1 h h1){b:Addr}{ob:Obj}(q:h.get? b=some ob)(n:H b=none)(hx:b∉ex):∃sl,h1.get? b=some { ob with slots:=sl }:=by
 by_cases hb:b∈fs
 ·exact u.slot b ob q n hb hx
 ·exact⟨ob.slots,u.keep b ob q n hb hx⟩
theorem Un.kept(k:∀b u,h.get? b=some u->h'.get? b=some u):Un fs ex H H h h' :=
 ⟨λb ob q _ _ _=>k b ob q,λb ob q _ _ _=>⟨ob.slots,k b ob q⟩,λ_ _ _ n _=>n,λb ob q _=>⟨ob,k b ob q⟩,λ_ _ q=>q,λ_ _ _ q=>q,λ_ ps q=>⟨#[],by rw[q];simp⟩⟩
theorem Un.refl:Un fs ex H H h h:=Un.kept λ_ _ q=>q
theorem Un.laid(k:∀b u,h.get? b=some u->h'.get? b=some u)(hp:h.objs.size<=a)(hn:H a=none):Un fs ex H (upd H a o) h h' where
 keep:=λb u q _ _ _=>k b u q
 slot:=λb u q _ _ _=>⟨u.slots,k b u q⟩
 free:=λb u q n _=>by rw[ZE (ne_of_lt (lt_of_lt_of_le (lt_size q) hp))];exact n
 there:=λb u q _=>⟨u,k b u q⟩
 tups:=λb xs q=>by rw[ZE (ZF q hn)];exact q
 frzs:=λb u xs q=>by rw[ZE (ZF q hn)];exact q
 tbls:=λb ps q=>⟨#[],by rw[ZE (ZF q hn),q];simp⟩
theorem Un.write(mu:Mut (H x))(he:e=x∨H e=some (.own x))(k:∀b u,b≠e->h.get? b=some u->h'.get? b=some u)(heo:∃u,h'.get? e=some u):Un fs ex H (upd H x o) h h':=by
 have hx:∀b,H b=none->b≠x:=λb n z=>by subst z;rw[n] at mu;exact mu
 have hb:∀b,H b=none->b≠e:=λb n z=>by
  subst z;rcases he with r|r
  ·exact hx b n r
  ·rw[n] at r;cases r
 have hm:∀b u,H b=some u->¬Mut (some u)->b≠x:=λb u q nm z=>by subst z;rw[q] at mu;exact nm mu
 refine⟨λb u q n _ _=>k b u (hb b n) q,λb u q n _ _=>⟨u.slots,k b u (hb b n) q⟩,λb u q n _=>by rw[ZE (hx b n)];exact n,λb u q _=>?_,
  λb xs q=>by rw[ZE (hm b _ q λz=>z)];exact q,λb u xs q=>by rw[ZE (hm b _ q λz=>z)];exact q,λb ps q=>⟨#[],by rw[ZE (hm b _ q λz=>z),q];simp⟩⟩
 by_cases hbe:b=e
 ·subst hbe;exact heo
 ·exact⟨u,k b u hbe q⟩
end
def trk(h:Heap)(H:Hp):List Addr:=(List.range h.objs.size).filter λa=>(H a).isSome
def ZEI(h:Heap)(H:Hp):Heap:=PySem.W.hideAll h (trk h H)
theorem ZGD(h:Heap)(H:Hp):(ZEI h H).objs.size=h.objs.size:=PySem.W.hideAll_size _ _
theorem ZHq{h:Heap}{H:Hp}{b:Addr}{o:Obj}(e:h.get? b=some o)(n:H b=none):(ZEI h H).get? b=some o :=
 PySem.W.hideAll_get _ e λhm=>by
  have q:(H b).isSome=true:=(List.mem_filter.mp hm).2;rw[n] at q;simp at q
theorem ZI2{h:Heap}{H:Hp}{b:Addr}{o:Obj}(e:(ZEI h H).get? b=some o):h.get? b=some o/\H b=none:=by
 have e':h.get? b=some o:=PySem.W.of_hideAll (trk h H) e;refine⟨e',?_⟩;cases q:H b with
 |none=>rfl
 |some x =>
  have hm:b∈trk h H:=List.mem_filter.mpr ⟨List.mem_range.mpr (lt_size e'),by simp[q]⟩;have z:(ZEI h H).get? b=none:=PySem.W.hideAll_none (trk h H) hm;rw[z] at e;cases e
structure Mod (K:PySem.W.Frag) (mg:Str->Option Value) (base:Heap):Prop where
 kin:K.In base
 glob:base.Ns mainGlobals mg
 blt:∃mb,base.Ns builtinsNs mb/\∀x:Str,x≠"__name__"->mb x=bootBuiltins x
 nolimit:base.NoLimit
structure Cx where
 prog:Program
 w:World
 K:PySem.W.Frag
 mg:Str->Option Value
 base:Heap
 A:Around
 N:List Str
 s₀ : Shared
 H₀ : Hp
 env:Env
 outer:List Env
 stack:List Env
 ex:List Addr
 fn:Str->Bool
 calm:Bool
 pn:List (Addr×Obj)
 xe:Value->Shared->Prop
def frs(l:List Env):List Addr:=l.filterMap (·.frame)
abbrev Cx.fs(X:Cx):List Addr:=frs X.outer
def Vis(sc:Scope)(x:Str):Prop:=sc.names.lookup x=some .local∨sc.names.lookup x=some .cell∨sc.names.lookup x=some .free
def Loc(sc:Scope)(x:Str):Prop:=sc.names.lookup x=some .local∨sc.names.lookup x=some .cell
def Look(env:Env)(h:Heap)(m:Str->Option Value)(x:Str)(u:Value):Prop :=
 (env.kindOf x=some .local/\m x=some u)∨((env.kindOf x=some .cell∨env.kindOf x=some .free)/\∃c,env.cells.lookup x=some c/\h.IsCell c (some u))
structure Cx.Ok (X:Cx):Prop where
 mod:Mod X.K X.mg X.base
 kind:X.env.scope.kind=.function
 glob:X.env.globals=mainGlobals
 blt:X.env.builtins=builtinsNs
 above:X.s₀.heap.objs.size<=X.env.locals
 inj:∀x y c,X.env.cells.lookup x=some c->X.env.cells.lookup y=some c->x=y
 has:∀x,(X.env.kindOf x=some .cell∨X.env.kindOf x=some .free)->∃c,X.env.cells.lookup x=some c
 cab:∀x c,X.fn x=true->X.env.cells.lookup x=some c->X.s₀.heap.objs.size<=c
 hd:X.calm=true->X.A.handled=none
 frames:X.A.frames=some X.stack
 stk:X.stack=X.outer∨(X.stack=X.env::X.outer/\X.env.frame=some X.env.locals)
 exf:∀b∈X.ex,b≠X.env.locals/\∀x c,X.env.cells.lookup x=some c->c≠b
 bs:∀b o,X.base.get? b=some o->X.s₀.heap.get? b=some o/\X.H₀ b=none
 bsz:X.base.objs.size<=X.s₀.heap.objs.size
 noex:∀b o,X.base.get? b=some o->b∉X.ex
 exfs:∀b∈X.ex,b∉X.fs
 funs:X.s₀.heap.FunFrames X.base X.outer
 frf:∀b∈X.fs,X.H₀ b=none
structure Inv (X:Cx) (pins:List (Addr×Obj)) (σ : List (Option V)) (H:Hp) (s:Shared):Prop where
 ok:X.Ok
 os:s.os=X.s₀.os
 bare:AllBare s.gens
 base:Un X.fs X.ex X.H₀ H X.s₀.heap s.heap
 loc:∃m,s.heap.Ns X.env.locals m/\∀(i:Nat) (x:Str) (v:V),X.N[i]? = some x->σ[i]? = some (some v)->Vis X.env.scope x->∃u,ZS v u/\Look X.env s.heap m x u
 cell:∀x c,X.env.cells.lookup x=some c->∃v,s.heap.IsCell c v
 free:H X.env.locals=none
 freeC:∀x c,X.env.cells.lookup x=some c->H c=none
 pin:∀p∈X.pn++pins,s.heap.get? p.1=some p.2/\H p.1=none/\p.1≠X.env.locals/\p.1∉X.fs/\∀v,p.2.data≠.cell v
 hok:HOk X.prog X.w H s.heap
 len : σ.length=X.N.length
section
variable{X:Cx}{pins:List (Addr×Obj)}{σ : List (Option V)}{H H':Hp}{s:Shared}{h':Heap}
theorem Cx.Ok.nofr(ok:X.Ok){b:Addr}{o:Obj}(e:X.base.get? b=some o):b∉X.fs:=λhb=>by
 have:=(ok.funs.mem hb).1;rw[e] at this;cases this
theorem Inv.bs(I:Inv X pins σ H s):∀b o,X.base.get? b=some o->s.heap.get? b=some o/\H b=none:=λb o e =>
 ⟨I.base.keep b o (I.ok.bs b o e).1 (I.ok.bs b o e).2 (I.ok.nofr e) (I.ok.noex b o e),I.base.free b o (I.ok.bs b o e).1 (I.ok.bs b o e).2 (I.ok.noex b o e)⟩
theorem Inv.bk(I:Inv X pins σ H s):∀b o,X.base.get? b=some o->s.heap.get? b=some o:=λb o e=>(I.bs b o e).1
theorem Inv.mod(I:Inv X pins σ H s):Mod X.K X.mg X.base:=I.ok.mod
theorem Inv.kIn(I:Inv X pins σ H s):X.K.In s.heap:=I.ok.mod.kin.keeps I.bk
theorem Inv.lt(I:Inv X pins σ H s):X.env.locals<s.heap.objs.size:=let ⟨_,hn,_⟩:=I.loc;hn.lt
theorem Inv.sz(I:Inv X pins σ H s):X.s₀.heap.objs.size<=s.heap.objs.size:=le_trans I.ok.above (le_of_lt I.lt)
theorem Inv.nofs(I:Inv X pins σ H s){a:Addr}(h:s.heap.objs.size<=a):a∉X.fs:=λhb=>by
 obtain⟨_,o,ho,_⟩:=I.ok.funs.mem hb;exact absurd (lt_of_lt_of_le (lt_size ho) (le_trans I.sz h)) (lt_irrefl _)
theorem Inv.cne(I:Inv X pins σ H s):∀x c,X.env.cells.lookup x=some c->c≠X.env.locals:=λx c e z=>by
 obtain⟨v,o,ho,hd⟩:=I.cell x c e;obtain⟨m,⟨o',es,ep,ho',hd',_⟩,_⟩:=I.loc;rw[z,ho'] at ho;cases ho;rw[hd'] at hd;cases hd
theorem Inv.funs(I:Inv X pins σ H s):s.heap.FunFrames X.base X.outer:=by
 have all:∀(l:List Env),(∀b∈frs l,b∈X.fs)->X.s₀.heap.FunFrames X.base l->s.heap.FunFrames X.base l:=by
  intro l
  induction l with
  |nil=>intro _ _;trivial
  |cons env r ih =>
   intro hs hl;obtain⟨hk,⟨L,o,hf,hn,ho,hd⟩,hr⟩:=hl;have hL:L∈X.fs:=hs L (by unfold frs;rw[List.filterMap_cons,hf];exact mem_cons_self);obtain⟨sl,e⟩:=I.base.slot L o ho (I.ok.frf L hL) hL λz=>I.ok.exfs L z hL
   exact⟨hk,⟨L,_,hf,hn,e,hd⟩,ih (λb hb=>hs b (by unfold frs;rw[List.filterMap_cons,hf];exact mem_cons_of_mem _ hb)) hr⟩
 exact all X.outer (λ_ hb=>hb) I.ok.funs
theorem Inv.stack(I:Inv X pins σ H s):s.heap.FunFrames X.base X.stack:=by
 rcases I.ok.stk with e|⟨e,hf⟩
 ·rw[e];exact I.funs
 ·rw[e]
  obtain⟨m,hn,_⟩:=I.loc;refine .cons (by rw[I.ok.kind];decide) hf hn ?_ I.funs;exact Heap.get?_none_of_le (le_trans I.ok.bsz I.ok.above)
theorem Inv.stkSub(I:Inv X pins σ H s):∀b∈frs X.stack,b∈X.env.locals::X.fs:=λb hb=>by
 rcases I.ok.stk with e|⟨e,hf⟩
 ·rw[e] at hb;exact mem_cons_of_mem _ hb
 ·rw[e] at hb
  unfold frs at hb;rw[List.filterMap_cons,hf] at hb;exact hb
theorem Inv.stkFree(I:Inv X pins σ H s):∀b∈frs X.stack,H b=none:=λb hb=>by
 rcases List.mem_cons.mp (I.stkSub b hb) with e|hb
 ·rw[e];exact I.free
 ·obtain⟨_,o,ho,_⟩:=I.ok.funs.mem hb
  exact I.base.free b o ho (I.ok.frf b hb) λz=>I.ok.exfs b z hb
theorem Inv.step{g':Array GenState}{t':Nat}{d':Drawn}{ch:List Addr}(I:Inv X pins σ H s)
  (hch:∀b∈ch,(b∈X.ex∨X.s₀.heap.objs.size<=b)/\b≠X.env.locals/\(∀x c,X.env.cells.lookup x=some c->c≠b)/\∀p∈X.pn++pins,p.1≠b)
  (keep:∀b o,b≠X.env.locals->b∉X.fs->b∉ch->s.heap.get? b=some o->H b=none->h'.get? b=some o)
  (slot:∀b o,b≠X.env.locals->b∈X.fs->b∉ch->s.heap.get? b=some o->H b=none->∃sl,h'.get? b=some { o with slots:=sl })(free:∀b o,b∉ch->s.heap.get? b=some o->H b=none->H' b=none)
  (there:∀b o,b∉ch->s.heap.get? b=some o->∃o',h'.get? b=some o')
  (tups:∀b xs,H b=some (.tup xs)->H' b=some (.tup xs))(frzs:∀b o u,H b=some (.frz o u)->H' b=some (.frz o u))(tbls:∀b ps,H b=some (.tbl ps)->∃more,H' b=some (.tbl (ps++more)))
  (ns:∀m,s.heap.Ns X.env.locals m->h'.Ns X.env.locals m)(hok:HOk X.prog X.w H' h')(hg:AllBare g') :
  Inv X pins σ H' { s with heap:=h',gens:=g',drawn:=d',toks:=t' }:=by
 have neL:∀b o,X.s₀.heap.get? b=some o->b≠X.env.locals:=λb o e=>ne_of_lt (lt_of_lt_of_le (lt_size e) I.ok.above)
 have neC:∀b o,X.s₀.heap.get? b=some o->b∉X.ex->b∉ch:=λb o e hx hb=>by
  rcases(hch b hb).1 with z|z
  ·exact hx z
  ·exact absurd (lt_of_lt_of_le (lt_size e) z) (lt_irrefl _)
 have cellK:∀x c,X.env.cells.lookup x=some c->∀v,s.heap.IsCell c v->h'.IsCell c v:=λx c e v ⟨o,ho,hd⟩=>by
  have nch:c∉ch:=λz=>(hch c z).2.2.1 x c e rfl
  by_cases hc:c∈X.fs
  ·obtain⟨sl,q⟩:=slot c o (I.cne x c e) hc nch ho (I.freeC x c e)
   exact⟨_,q,hd⟩
  ·exact⟨o,keep c o (I.cne x c e) hc nch ho (I.freeC x c e),hd⟩
 refine⟨I.ok,I.os,hg,⟨λb o e n hb hx=>?_,λb o e n hb hx=>?_,λb o e n hx=>?_,λb o e hx=>?_,λb xs e=>tups b xs (I.base.tups b xs e),λb o xs e=>frzs b o xs (I.base.frzs b o xs e),λb ps e=>?_⟩,?_,λx c e=>?_,?_,λx c e=>?_,λp hp=>?_,hok,I.len⟩
 ·exact keep b o (neL b o e) hb (neC b o e hx) (I.base.keep b o e n hb hx) (I.base.free b o e n hx)
 ·obtain⟨sl,e1⟩:=I.base.slot b o e n hb hx
  obtain⟨sl',e2⟩:=slot b _ (neL b o e) hb (neC b o e hx) e1 (I.base.free b o e n hx);exact⟨sl',e2⟩
 ·obtain⟨o',e1⟩:=I.base.there b o e hx
  exact free b o' (neC b o e hx) e1 (I.base.free b o e n hx)
 ·obtain⟨o',e1⟩:=I.base.there b o e hx
  exact there b o' (neC b o e hx) e1
 ·obtain⟨m1,e1⟩:=I.base.tbls b ps e
  obtain⟨m2,e2⟩:=tbls b _ e1;exact⟨m1++m2,by rw[e2,Array.append_assoc]⟩
 ·obtain⟨m,hn,hl⟩:=I.loc
  refine⟨m,ns m hn,λi x v e1 e2 e3=>?_⟩;obtain⟨u,r,l⟩:=hl i x v e1 e2 e3;refine⟨u,r,?_⟩;rcases l with l|⟨k,c,e,z⟩
  ·exact .inl l
  ·exact .inr ⟨k,c,e,cellK x c e _ z⟩
 ·obtain⟨v,z⟩:=I.cell x c e
  exact⟨v,cellK x c e v z⟩
 ·obtain⟨m,⟨o,_,_,ho,_⟩,_⟩:=I.loc
  exact free _ o (λz=>(hch _ z).2.1 rfl) ho I.free
 ·obtain⟨v,o,ho,hd⟩:=I.cell x c e
  exact free c o (λz=>(hch c z).2.2.1 x c e rfl) ho (I.freeC x c e)
 ·obtain⟨e,n,ne,nf,d⟩:=I.pin p hp
  have nch:p.1∉ch:=λz=>(hch p.1 z).2.2.2 p hp rfl
  exact⟨keep p.1 p.2 ne nf nch e n,free p.1 p.2 nch e n,ne,nf,d⟩
theorem Inv.un{t':Nat}(I:Inv X pins σ H s)(u:Un X.fs [] H H' s.heap h')(hok:HOk X.prog X.w H' h'):Inv X pins σ H' { s with heap:=h',toks:=t' }:=by
 obtain ⟨m,⟨o,es,ep,ho,r⟩,_⟩:=id I.loc;obtain ⟨sl,hL⟩:=u.any ho I.free (by simp);exact I.step (g':=s.gens) (d':=s.drawn) (ch:=[]) (λ _ z=>nomatch z) (λ b o _ hb _ e n=>u.keep b o e n hb (by simp)) (λ b o _ hb _ e n=>u.slot b o e n hb (by simp)) (λ b o _ e n=>u.free b o e n (by simp)) (λ b o _ e=>u.there b o e (by simp)) u.tups u.frzs u.tbls (λ m' hm=>by
  obtain⟨o',es',ep',ho',r'⟩:=hm;rw[ho] at ho';cases ho';exact⟨_,es',ep',hL,r'⟩) hok I.bare
theorem Inv.call{g':Array GenState}{t':Nat}{d':Drawn}{ch:List Addr}(I:Inv X pins σ H s)(u:Un (frs X.stack) ch H H' s.heap h')(hok:HOk X.prog X.w H' h')(hg:AllBare g')
  (hch:∀b∈ch,(b∈X.ex∨X.s₀.heap.objs.size<=b)/\b≠X.env.locals/\(∀x c,X.env.cells.lookup x=some c->c≠b)/\∀p∈X.pn++pins,p.1≠b) :
  Inv X pins σ H' { s with heap:=h',gens:=g',drawn:=d',toks:=t' }:=by
 obtain⟨m,⟨o,es,ep,ho,r⟩,_⟩:=id I.loc;obtain⟨sl,hL⟩:=u.any ho I.free λz=>(hch _ z).2.1 rfl
 exact I.step (ch:=ch) hch (λ b o hL hb hc e n=>u.keep b o e n (λ z=>(List.mem_cons.mp (I.stkSub b z)).elim hL hb) hc) (λ b o _ _ hc e n=>u.any e n hc) (λ b o hc e n=>u.free b o e n hc) (λ b o hc e=>u.there b o e hc) u.tups u.frzs u.tbls (λ m' hm=>by
  obtain⟨o',es',ep',ho',r'⟩:=hm;rw[ho] at ho';cases ho';exact⟨_,es',ep',hL,r'⟩) hok hg
theorem Inv.turned{t':Nat}{it:Addr}(I:Inv X pins σ H s)(k:∀b o,b≠it->s.heap.get? b=some o->h'.get? b=some o)(hn:H it=none)(hL:it≠X.env.locals)
  (h1:it∈X.ex∨X.s₀.heap.objs.size<=it)(h2:∀x c,X.env.cells.lookup x=some c->c≠it)(h3:∀p∈X.pn++pins,p.1≠it):Inv X pins σ H { s with heap:=h',toks:=t' }:=by
 have nit:∀b u,H b=some u->b≠it:=λb u e z=>by rw[z,hn] at e;cases e
 refine I.step (g':=s.gens) (d':=s.drawn) (ch:=[it]) (λb hb=>?_) (λb o _ _ hc e _=>k b o (λz=>hc (by simp[z])) e) (λb o _ _ hc e _=>⟨o.slots,k b o (λz=>hc (by simp[z])) e⟩) (λ_ _ _ _ n=>n)
  (λb o hc e=>⟨o,k b o (λz=>hc (by simp[z])) e⟩) (λ_ _ e=>e) (λ_ _ _ e=>e) (λb ps e=>⟨#[],by rw[e];simp⟩) (λm hm=>?_) (λb u e=>?_) I.bare
 ·have e:b=it:=by simpa using hb
  subst e;exact⟨h1,hL,h2,h3⟩
 ·obtain⟨o,es,ep,ho,r⟩:=hm
  exact⟨o,es,ep,k _ o (Ne.symm hL) ho,r⟩
 ·refine(I.hok b u e).stay (λc v hc q=>k c v ?_ q) (λ_ q=>q) λ_ _ q=>q
  rcases hc with z|z
  ·rw[z];exact nit b u e
  ·exact nit c _ z
theorem Inv.tok(I:Inv X pins σ H s)(t:Nat):Inv X pins σ H { s with toks:=t }:=I.un (h':=s.heap) (t':=t) Un.refl I.hok
theorem Inv.kept{t':Nat}(I:Inv X pins σ H s)(k:∀b u,s.heap.get? b=some u->h'.get? b=some u):Inv X pins σ H { s with heap:=h',toks:=t' }:=I.un (Un.kept k) (I.hok.kept k)
theorem Inv.laid{a:Addr}{o:HO}{t':Nat}(I:Inv X pins σ H s)(k:∀b u,s.heap.get? b=some u->h'.get? b=some u)(hp:s.heap.objs.size<=a)(new:ZAM X.prog X.w (upd H a o) h' a o) :
  Inv X pins σ (upd H a o) { s with heap:=h',toks:=t' }:=I.un (Un.laid k hp (I.hok.fresh hp)) (I.hok.laid k hp new)
theorem Inv.write{x e:Addr}{o:HO}{t':Nat}(I:Inv X pins σ H s)(mu:Mut (H x))(he:e=x∨H e=some (.own x))(k:∀b u,b≠e->s.heap.get? b=some u->h'.get? b=some u)(heo:∃u,h'.get? e=some u)
  (new:ZAM X.prog X.w (upd H x o) h' x o):Inv X pins σ (upd H x o) { s with heap:=h',toks:=t' }:=I.un (Un.write mu he k heo) (I.hok.write mu he k heo new)
theorem Inv.weak{σ':List (Option V)}(I:Inv X pins σ H s)(hl : σ'.length = σ.length)(w:∀(i:Nat) v,σ'[i]? = some (some v)->σ[i]? = some (some v)):Inv X pins σ' H s :=
 ⟨I.ok,I.os,I.bare,I.base,let ⟨m,hn,hl'⟩:=I.loc;⟨m,hn,λi x v e1 e2 e3=>hl' i x v e1 (w i v e2) e3⟩,I.cell,I.free,I.freeC,I.pin,I.hok,hl.trans I.len⟩
theorem Inv.pins_of{pins':List (Addr×Obj)}(I:Inv X pins σ H s)(h:∀p∈pins',s.heap.get? p.1=some p.2/\H p.1=none/\p.1≠X.env.locals/\p.1∉X.fs/\∀v,p.2.data≠.cell v):Inv X pins' σ H s :=
 ⟨I.ok,I.os,I.bare,I.base,I.loc,I.cell,I.free,I.freeC,λp hp=>(List.mem_append.mp hp).elim (λz=>I.pin p (List.mem_append_left _ z)) (h p),I.hok,I.len⟩
theorem ZEb{N:List Str}(hN:N.Nodup){i j:Nat}{x:Str}(a:N[i]? = some x)(b:N[j]? = some x):i=j:=by
 obtain⟨h1,e1⟩:=List.getElem?_eq_some_iff.mp a;obtain⟨h2,e2⟩:=List.getElem?_eq_some_iff.mp b;exact(List.getElem_inj hN).mp (e1.trans e2.symm)
theorem ZDb{M:Model}{A:Around}{E:Value->Shared->Prop}{i:Nat}{x:Str}{v:V}{u:Value}{Q:Unit->Shared->Prop}(I:Inv X pins σ H s)(hN:X.N.Nodup)(hi:X.N[i]? = some x)(hx:Loc X.env.scope x)(r:ZS v u)
  (h:∀s',Inv X pins (σ.set i (some v)) H s'->(∃a,Heap.SameBut a s.heap s'.heap/\(a=X.env.locals∨X.env.cells.lookup x=some a))->Q () s')(hf:X.fn x=true∨X.env.scope.names.lookup x=some .local:=by first|exact .inl rfl|exact .inr rfl|assumption):wpAny M A (storeName X.env x u) Q E s:=by
 obtain⟨m,hn,hl⟩:=id I.loc;have hcls:(X.env.scope.kind == .class || (X.env.scope.kind == .module && X.env.locals != X.env.globals))=false:=by rw[I.ok.kind];rfl
 have hiσ : i<σ.length:=by rw[I.len];exact(List.getElem?_eq_some_iff.mp hi).1
 have cne:=I.cne;have tracked:∀{a:Addr} {h':Heap},(∃o,s.heap.get? a=some o/\H a=none)->Heap.SameBut a s.heap h'->HOk X.prog X.w H h':=λ{a h'} ha hs b ob e=>by
  obtain⟨_,_,hfree⟩:=ha;refine(I.hok b ob e).stay (λc w' hc q=>(hs.2 c ?_).trans q) (λ_ q=>q) λ_ _ q=>q
  rintro rfl
  rcases hc with rfl|hc
  ·rw[hfree] at e;cases e
  ·rw[hfree] at hc;cases hc
 rcases hx with hk|hk
 ·refine wpAny_storeName_local hk hn (λh' hn' hs=>?_) hcls
  obtain⟨oL,_,_,hoL,_⟩:=id hn;refine h _ ⟨I.ok,I.os,I.bare,⟨λb o e n hb hx=>?_,λb o e n hb hx=>?_,I.base.free,λb o e hx=>?_,I.base.tups,I.base.frzs,I.base.tbls⟩,⟨_,hn',λj y v' e1 e2 e3=>?_⟩,λy c e=>?_,I.free,I.freeC,λp hp=>?_,tracked ⟨oL,hoL,I.free⟩ hs,by simpa using I.len⟩ ⟨_,hs,.inl rfl⟩
  ·exact(hs.2 b (ne_of_lt (lt_of_lt_of_le (lt_size e) I.ok.above))).trans (I.base.keep b o e n hb hx)
  ·obtain⟨sl,e1⟩:=I.base.slot b o e n hb hx
   exact⟨sl,(hs.2 b (ne_of_lt (lt_of_lt_of_le (lt_size e) I.ok.above))).trans e1⟩
  ·obtain⟨o',e1⟩:=I.base.there b o e hx
   exact⟨o',(hs.2 b (ne_of_lt (lt_of_lt_of_le (lt_size e) I.ok.above))).trans e1⟩
  ·by_cases hj:j=i
   ·subst hj
    rw[hi] at e1;cases e1;rw[getElem?_set_self hiσ] at e2;cases e2;exact⟨u,r,.inl ⟨hk,by simp⟩⟩
   ·rw[getElem?_set_ne (Ne.symm hj)] at e2
    obtain⟨u',r',q⟩:=hl j y v' e1 e2 e3;refine⟨u',r',?_⟩;rcases q with ⟨k,e⟩|⟨k,c,e,z⟩
    ·refine .inl ⟨k,?_⟩
     have:y≠x:=λe=>hj (ZEb hN e1 (e ▸ hi))
     simp[this,e]
    ·exact .inr ⟨k,c,e,z.sameBut hs (cne y c e)⟩
  ·obtain⟨w',z⟩:=I.cell y c e
   exact⟨w',z.sameBut hs (cne y c e)⟩
  ·obtain⟨e,n,ne,nf,d⟩:=I.pin p hp
   exact⟨(hs.2 p.1 ne).trans e,n,ne,nf,d⟩
 ·have hfn:X.fn x=true:=by
   rcases hf with z|z
   ·exact z
   ·rw[z] at hk;cases hk
  obtain⟨c,hc⟩:=I.ok.has x (.inl hk);obtain⟨w',z⟩:=I.cell x c hc;refine wpAny_storeName_cell I.ok.kind hk hc z (λh' hc' hs=>?_);obtain⟨oc,hoc,hocd⟩:=id z;refine h { s with heap:=h' } ⟨I.ok,I.os,I.bare,⟨λb o e n hb hx=>?_,λb o e n hb hx=>?_,I.base.free,λb o e hx=>?_,I.base.tups,I.base.frzs,I.base.tbls⟩,⟨m,hn.sameBut hs (Ne.symm (cne x c hc)),λj y v' e1 e2 e3=>?_⟩,λy c' e=>?_,I.free,I.freeC,λp hp=>?_,tracked ⟨oc,hoc,I.freeC x c hc⟩ hs,by simpa using I.len⟩ ⟨c,hs,.inr hc⟩
  ·exact(hs.2 b (ne_of_lt (lt_of_lt_of_le (lt_size e) (I.ok.cab x c hfn hc)))).trans (I.base.keep b o e n hb hx)
  ·obtain⟨sl,e1⟩:=I.base.slot b o e n hb hx
   exact⟨sl,(hs.2 b (ne_of_lt (lt_of_lt_of_le (lt_size e) (I.ok.cab x c hfn hc)))).trans e1⟩
  ·obtain⟨o',e1⟩:=I.base.there b o e hx
   exact⟨o',(hs.2 b (ne_of_lt (lt_of_lt_of_le (lt_size e) (I.ok.cab x c hfn hc)))).trans e1⟩
  ·by_cases hj:j=i
   ·subst hj
    rw[hi] at e1;cases e1;rw[getElem?_set_self hiσ] at e2;cases e2;exact⟨u,r,.inr ⟨.inl hk,c,hc,hc'⟩⟩
   ·rw[getElem?_set_ne (Ne.symm hj)] at e2
    obtain⟨u',r',q⟩:=hl j y v' e1 e2 e3;refine⟨u',r',?_⟩;rcases q with q|⟨k,c',e,z'⟩
    ·exact .inl q
    ·refine .inr ⟨k,c',e,z'.sameBut hs ?_⟩
     rintro rfl
     exact hj (ZEb hN e1 (I.ok.inj _ _ _ e hc ▸ hi))
  ·by_cases hcc:c'=c
   ·subst hcc;exact⟨_,hc'⟩
   ·obtain⟨w2,z2⟩:=I.cell y c' e
    exact⟨w2,z2.sameBut hs hcc⟩
  ·obtain⟨e,n,ne,nf,d⟩:=I.pin p hp
   refine⟨(hs.2 p.1 ?_).trans e,n,ne,nf,d⟩;intro q;rw[q,hoc] at e;have q':oc=p.2:=Option.some.inj e;exact d w' (by rw[←q'];exact hocd)
theorem ZEt{M:Model}{A:Around}{E:Value->Shared->Prop}{i:Nat}{x:Str}{v:V}{u:Value}{Q:Unit->Shared->Prop}(I:Inv X pins σ H s)(hN:X.N.Nodup)(hi:X.N[i]? = some x)(hx:Loc X.env.scope x)(r:ZS v u)
  (h:∀s',Inv X pins (σ.set i (some v)) H s'->Q () s')(hf:X.fn x=true∨X.env.scope.names.lookup x=some .local:=by first|exact .inl rfl|exact .inr rfl|assumption):wpAny M A (storeName X.env x u) Q E s :=
 ZDb I hN hi hx r (λs' I' _=>h s' I') hf
theorem Inv.call'{s':Shared}{ch:List Addr}(I:Inv X pins σ H s)(ho:s'.os=s.os)(u:Un (frs X.stack) ch H H' s.heap s'.heap)(hok:HOk X.prog X.w H' s'.heap)(hg:AllBare s'.gens)
  (hch:∀b∈ch,(b∈X.ex∨X.s₀.heap.objs.size<=b)/\b≠X.env.locals/\(∀x c,X.env.cells.lookup x=some c->c≠b)/\∀p∈X.pn++pins,p.1≠b):Inv X pins σ H' s':=by
 obtain⟨h',g',d',t',o'⟩:=s';have e:o'=s.os:=ho;subst e;exact I.call (g':=g') (t':=t') (d':=d') u hok hg hch
end
abbrev XK:=Value->Option Addr->Hp->Prop
abbrev St:=List (Option V)
abbrev VK:=V->Hp->Prop
abbrev TE:=St->Hp->VK->Prop
abbrev TT:=St->Hp->(Bool->Hp->Prop)->Prop
abbrev TA:=St->Hp->(List V->Hp->Prop)->Prop
structure Ends where
 nx:St->Hp->Prop
 rt:VK
 bk:St->Hp->Prop:=λ_ _=>False
 ct:St->Hp->Prop:=λ_ _=>False
abbrev TS:=Ends->St->Hp->Prop
def EP(X:Cx)(pins:List (Addr×Obj))(σ : St)(Q:VK)(u:Value)(s':Shared):Prop:=∃v H',Inv X pins σ H' s'/\ZS v u/\Q v H'
def TP(X:Cx)(pins:List (Addr×Obj))(σ : St)(Q:Bool->Hp->Prop)(b:Bool)(s':Shared):Prop:=∃H',Inv X pins σ H' s'/\Q b H'
def AP(X:Cx)(pins:List (Addr×Obj))(σ : St)(Q:List V->Hp->Prop)(us:List Value)(s':Shared):Prop:=∃vs H',Inv X pins σ H' s'/\ZI vs us/\Q vs H'
def SP(X:Cx)(pins:List (Addr×Obj))(D:Ends)(f:Flow)(s':Shared):Prop :=
 match f with
 |.next=>∃σ' H',Inv X pins σ' H' s'/\D.nx σ' H'
 |.brk=>∃σ' H',Inv X pins σ' H' s'/\D.bk σ' H'
 |.cont=>∃σ' H',Inv X pins σ' H' s'/\D.ct σ' H'
 |.ret u=>∃v σ' H',Inv X pins σ' H' s'/\ZS v u/\D.rt v H'
def PE(X:Cx)(e:Expr)(t:TE):Prop :=
 ∀(pins:List (Addr×Obj)) (s:Shared) (σ : St) (H:Hp) (Q:VK),Inv X pins σ H s->t σ H Q->wpAny (model X.prog X.w) X.A (eval e X.env) (EP X pins σ Q) X.xe s
def PT(X:Cx)(e:Expr)(t:TT):Prop :=
 ∀(pins:List (Addr×Obj)) (s:Shared) (σ : St) (H:Hp) (Q:Bool->Hp->Prop),Inv X pins σ H s->t σ H Q->wpAny (model X.prog X.w) X.A (isTrue e X.env (eval e X.env)) (TP X pins σ Q) X.xe s
def PW(X:Cx)(e:Expr)(t:TT):Prop :=
 ∀(whole:Sem Value) (pins:List (Addr×Obj)) (s:Shared) (σ : St) (H:Hp) (Q:Bool->Hp->Prop),Inv X pins σ H s->t σ H Q->wpAny (model X.prog X.w) X.A (isTrue e X.env whole) (TP X pins σ Q) X.xe s
theorem PW.pt{X:Cx}{e:Expr}{t:TT}(h:PW X e t):PT X e t:=h _
def PA(X:Cx)(es:List Expr)(t:TA):Prop :=
 ∀(pos:Pos) (pins:List (Addr×Obj)) (s:Shared) (σ : St) (H:Hp) (Q:List V->Hp->Prop),Inv X pins σ H s->t σ H Q->wpAny (model X.prog X.w) X.A (spliced (backTo pos (starEach es X.env))) (AP X pins σ Q) X.xe s
def PS(X:Cx)(st:Stmt)(t:TS):Prop :=
 ∀(pins:List (Addr×Obj)) (s:Shared) (σ : St) (H:Hp) (D:Ends),Inv X pins σ H s->t D σ H->wpAny (model X.prog X.w) X.A (exec st X.env) (SP X pins D) X.xe s
def PSs(X:Cx)(st:List Stmt)(t:TS):Prop :=
 ∀(pins:List (Addr×Obj)) (s:Shared) (σ : St) (H:Hp) (D:Ends),Inv X pins σ H s->t D σ H->wpAny (model X.prog X.w) X.A (execs st X.env) (SP X pins D) X.xe s
theorem thn{α : Type}{t:Sem α}{Q Q' : α->Shared->Prop}{M:Model}{A:Around}{E:Value->Shared->Prop}{s:Shared}(h:wpAny M A t Q E s)(hQ:∀a s,Q a s->Q' a s):wpAny M A t Q' E s:=wpAny_mono h hQ λ_ _ x=>x
section
variable{X:Cx}
def tVar(i:Nat):TE:=λσ H Q=>∃v,σ[i]? = some (some v)/\Q v H
def tC(v:V):TE:=λ_ H Q=>Q v H
theorem ZK3{i:Nat}{x:Str}{pos:Pos}(hN:X.N[i]? = some x)(hv:Vis X.env.scope x)(hd:(x == ("__debug__" : Str))=false:=by decide)(hcd:(x == ("__classdict__" : Str))=false:=by decide):PE X (.Name x pos) (tVar i):=by
 intro pins s σ H Q I h;obtain⟨v,e,h⟩:=h;obtain⟨m,hn,hl⟩:=I.loc;obtain⟨u,r,l⟩:=hl i x v hN e hv;have fin:EP X pins σ Q u s:=⟨v,H,I,r,h⟩;rcases l with ⟨hk,hm⟩|⟨hk,c,hc,hcell⟩
 ·exact wpAny_Name (wpAny_loadName_local I.ok.kind hk hn hm fin) hd
 ·rcases hk with hk|hk
  ·exact wpAny_Name (wpAny_loadName_cell I.ok.kind hk hc hcell fin) hd
  ·exact wpAny_Name (wpAny_loadName_free I.ok.kind hk hc hcell fin hcd) hd
theorem ZFT{i j pos}:PE X (.Constant (.int i) j pos) (tC (.int i)):=λ_ _ _ H _ I h=>wpAny_Constant_int ⟨.int i,H,I.tok _,⟨_,rfl⟩,h⟩
theorem pe_bl{b j pos}:PE X (.Constant (.bool b) j pos) (tC (.bl b)):=λ_ _ _ H _ I h=>Constant_bool ⟨.bl b,H,I,rfl,h⟩
theorem ZKQ{x j pos}:PE X (.Constant (.str x) j pos) (tC (.str x)):=λ_ _ _ H _ I h=>Calls.Constant_str ⟨.str x,H,I.tok _,⟨_,rfl⟩,h⟩
def Gl(X:Cx)(x:Str):Prop:=X.env.kindOf x=some .globalImplicit
theorem ZFm{E:Value->Shared->Prop}{pins:List (Addr×Obj)}{s:Shared}{σ : St}{H:Hp}{x:Str}{u:Value}{pos:Pos}{Q:Value->Shared->Prop}(I:Inv X pins σ H s)(hg:Gl X x)(hm:X.mg x=some u)(h:Q u s)
  (hd:(x == ("__debug__" : Str))=false:=by decide):wpAny (model X.prog X.w) X.A (eval (.Name x pos) X.env) Q E s :=
 Calls.Name_function_global I.ok.kind hg (Calls.loadGlobal_global (by rw[I.ok.glob];exact I.mod.glob.keeps I.bk) hm h) hd
theorem ZCY{E:Value->Shared->Prop}{pins:List (Addr×Obj)}{s:Shared}{σ : St}{H:Hp}{x:Str}{u:Value}{pos:Pos}{Q:Value->Shared->Prop}(I:Inv X pins σ H s)(hg:Gl X x)(hm:X.mg x=none)(hv:bootBuiltins x=some u)(h:Q u s)
  (hn:x≠"__name__":=by decide)(hd:(x == ("__debug__" : Str))=false:=by decide):wpAny (model X.prog X.w) X.A (eval (.Name x pos) X.env) Q E s:=by
 obtain⟨mb,h1,h2⟩:=I.mod.blt;exact Calls.Name_function_global I.ok.kind hg (Calls.loadGlobal_builtin (by rw[I.ok.glob];exact I.mod.glob.keeps I.bk) hm (by rw[I.ok.blt];exact h1.keeps I.bk) ((h2 x hn).trans hv) h) hd
theorem ZFp{x:Str}{v:V}{u:Value}{pos:Pos}(hg:Gl X x)(hm:X.mg x=some u)(r:ZS v u)(hd:(x == ("__debug__" : Str))=false:=by decide):PE X (.Name x pos) (tC v) :=
 λ_ _ _ H _ I h=>ZFm I hg hm ⟨v,H,I,r,h⟩ hd
theorem ZIb{x:Str}{v:V}{u:Value}{pos:Pos}(hg:Gl X x)(hm:X.mg x=none)(hv:bootBuiltins x=some u)(r:ZS v u)(hn:x≠"__name__":=by decide)(hd:(x == ("__debug__" : Str))=false:=by decide):PE X (.Name x pos) (tC v) :=
 λ_ _ _ H _ I h=>ZCY I hg hm hv ⟨v,H,I,r,h⟩ hn hd
variable{a b:Expr}{ta tb:TE}{pos:Pos}
def tB(t:TE):TT:=λσ H Q=>t σ H λx H1=>∃c,x=.bl c/\Q c H1
theorem ZLS{e:Expr}{t:TE}(h:PE X e t)(he:∀whole,isTrue e X.env whole=(do let v ←whole;standAt e.pos;holding [v] (truthy v)):=by intro _;rfl):PT X e (tB t):=by
 intro pins s σ H Q I hw;refine isTrue_plain (thn (h pins s σ H _ I hw) λv s1 ⟨x,H1,I1,r1,q1⟩=>?_) (he _);obtain⟨d,rfl,q⟩:=q1;cases r1;exact wpAny_truthy_bool ⟨H1,I1,q⟩
variable{tA tB':TT}{rest:List Expr}
def tAnd(t u:TT):TT:=λσ H Q=>t σ H λc H1=>if c=true then u σ H1 Q else Q false H1
def tOr(t u:TT):TT:=λσ H Q=>t σ H λc H1=>if c=true then Q true H1 else u σ H1 Q
def tNot(t:TT):TT:=λσ H Q=>t σ H λc H1=>Q (!c) H1
theorem ZIh(ha:PT X a tA):PW X (.BoolOp .And [a] pos) tA:=by
 intro wh pins s σ H Q I h;refine isTrue_and (thn (ha pins s σ H Q I h) λc s1 e=>?_);cases c with
 |true=>exact isTrue_and_nil e
 |false=>exact e
theorem ZLn(ha:PT X a tA):PW X (.BoolOp .Or [a] pos) tA:=by
 intro wh pins s σ H Q I h;refine isTrue_or (thn (ha pins s σ H Q I h) λc s1 e=>?_);cases c with
 |false=>exact isTrue_or_nil e
 |true=>exact e
theorem ZLP(ha:PT X a tA)(hb:PW X (.BoolOp .And (b::rest) pos) tB'):PW X (.BoolOp .And (a::b::rest) pos) (tAnd tA tB'):=by
 intro wh pins s σ H Q I h;refine isTrue_and (thn (ha pins s σ H _ I h) λc s1 ⟨H1,I1,q1⟩=>?_);cases c with
 |true=>exact hb wh pins s1 σ H1 Q I1 q1
 |false=>exact⟨H1,I1,q1⟩
theorem pw_or(ha:PT X a tA)(hb:PW X (.BoolOp .Or (b::rest) pos) tB'):PW X (.BoolOp .Or (a::b::rest) pos) (tOr tA tB'):=by
 intro wh pins s σ H Q I h;refine isTrue_or (thn (ha pins s σ H _ I h) λc s1 ⟨H1,I1,q1⟩=>?_);cases c with
 |true=>exact⟨H1,I1,q1⟩
 |false=>exact hb wh pins s1 σ H1 Q I1 q1
theorem ZLW(ha:PT X a tA):PT X (.UnaryOp .Not a pos) (tNot tA):=by
 intro pins s σ H Q I h;exact isTrue_not (ha pins s σ H (λc H1=>Q (!c) H1) I h)
def tAndV(ta tb:TE):TE:=λσ H Q=>ta σ H λx H1=>∃c,x=.bl c/\if c=true then tb σ H1 Q else Q (.bl false) H1
def tOrV(ta tb:TE):TE:=λσ H Q=>ta σ H λx H1=>∃c,x=.bl c/\if c=true then Q (.bl true) H1 else tb σ H1 Q
def tNotV(ta:TE):TE:=λσ H Q=>ta σ H λx H1=>∃c,x=.bl c/\Q (.bl (!c)) H1
theorem ZLT{op}{t:TE}(h:PE X a t):PE X (.BoolOp op [a] pos) t:=λpins s σ H Q I hw=>BoolOp_one (h pins s σ H Q I hw)
theorem ZLB(ha:PE X a ta)(hb:PE X (.BoolOp .And (b::rest) pos) tb):PE X (.BoolOp .And (a::b::rest) pos) (tAndV ta tb):=by
 intro pins s σ H Q I h;refine BoolOp_and (thn (ha pins s σ H _ I h) λv s1 ⟨x,H1,I1,r1,q1⟩=>?_);obtain⟨c,rfl,q1⟩:=q1;cases r1;refine wpAny_truthy_bool ?_;cases c with
 |true=>exact hb pins s1 σ H1 Q I1 q1
 |false=>exact⟨.bl false,H1,I1,rfl,q1⟩
theorem pe_or(ha:PE X a ta)(hb:PE X (.BoolOp .Or (b::rest) pos) tb):PE X (.BoolOp .Or (a::b::rest) pos) (tOrV ta tb):=by
 intro pins s σ H Q I h;refine BoolOp_or (thn (ha pins s σ H _ I h) λv s1 ⟨x,H1,I1,r1,q1⟩=>?_);obtain⟨c,rfl,q1⟩:=q1;cases r1;refine wpAny_truthy_bool ?_;cases c with
 |false=>exact hb pins s1 σ H1 Q I1 q1
 |true=>exact⟨.bl true,H1,I1,rfl,q1⟩
theorem ZLv(ha:PE X a ta):PE X (.UnaryOp .Not a pos) (tNotV ta):=by
 intro pins s σ H Q I h;refine UnaryOp_ (thn (ha pins s σ H _ I h) λv s1 ⟨x,H1,I1,r1,q1⟩=>?_);obtain⟨c,rfl,q1⟩:=q1;cases r1;exact not_of (wpAny_truthy_bool ⟨.bl (!c),H1,I1,rfl,q1⟩)
def tIf(t:TT)(ta tb:TE):TE:=λσ H Q=>t σ H λc H1=>if c=true then ta σ H1 Q else tb σ H1 Q
theorem ZHY{c:Expr}(hc:PT X c tA)(ha:PE X a ta)(hb:PE X b tb):PE X (.IfExp c a b pos) (tIf tA ta tb):=by
 intro pins s σ H Q I h;refine wpAny_IfExp (thn (hc pins s σ H _ I h) λd s1 ⟨H1,I1,q1⟩=>?_);cases d with
 |true=>exact ha pins s1 σ H1 Q I1 q1
 |false=>exact hb pins s1 σ H1 Q I1 q1
end
def SqL(K:PySem.W.Frag)(H:Hp)(a:Addr)(xs:List V):Prop :=
 Rd H a (.lst xs) ∨
  ∃(o:Obj) (its:Array Value) (n:Nat),K.lookup a=some o/\o.cls=.type "list"/\o.dict=none/\o.data=.seq its n/\its.size<=sizeLine/\ZI xs its.toList
def SqT(K:PySem.W.Frag)(H:Hp)(a:Addr)(xs:List V):Prop :=
 Rd H a (.tup xs) ∨
  ∃(o:Obj) (its:Array Value) (n:Nat),K.lookup a=some o/\o.cls=.type "tuple"/\o.data=.seq its n/\its.size<=sizeLine/\ZI xs its.toList
def absV:Value->Option V
 |.none=>some .non
 |.bool b=>some (.bl b)
 |.int i _=>some (.int i)
 |.str x _=>some (.str x)
 |.bytes b _=>some (.byt b)
 |.float b _=>some (.flt b)
 |.ref a=>some (.ref a)
 |.type n=>some (.ty n)
 |_=>none
theorem ZS.abs{x:V}{u:Value}(r:ZS x u):absV u=some x:=by
 cases x with
 |non=>cases r;rfl
 |bl _=>cases r;rfl
 |int _=>obtain⟨t,rfl⟩:=r;rfl
 |str _=>obtain⟨t,rfl⟩:=r;rfl
 |byt _=>obtain⟨t,rfl⟩:=r;rfl
 |flt _=>obtain⟨t,rfl⟩:=r;rfl
 |ref _=>cases r;rfl
 |ty _=>cases r;rfl
theorem ZS.inj{x y:V}{u:Value}(r:ZS x u)(q:ZS y u):x=y:=Option.some.inj (r.abs.symm.trans q.abs)
theorem ZI.inj:∀{xs ys:List V} {us:List Value},ZI xs us->ZI ys us->xs=ys
 |_,_,_,.nil,.nil=>rfl
 |_,_,_,.cons r t,.cons r' t'=>by rw[r.inj r',ZI.inj t t']
section
variable{X:Cx}{pins:List (Addr×Obj)}{σ : St}{H:Hp}{s:Shared}{a:Addr}{xs ys:List V}
theorem SqL.of{K:PySem.W.Frag}(h:H a=some (.lst xs)):SqL K H a xs:=.inl (.inl h)
theorem Inv.list(I:Inv X pins σ H s)(h:SqL X.K H a xs):∃its:List Value,ZI xs its/\PlainL s.heap a its.toArray/\xs.length<=sizeLine:=by
 rcases h with h|⟨o,its,n,hk,hc,hd,hs,hz,r⟩
 ·obtain⟨z,its,n,r,e⟩:=h.ok I.hok
  exact⟨its,r,⟨_,n,e,rfl,rfl,rfl⟩,z⟩
 ·refine⟨its.toList,r,⟨o,n,I.kIn a o hk,hc,hd,by simpa using hs⟩,?_⟩
  have e:=r.length;simp only[Array.length_toList] at e;omega
theorem Inv.tuple(I:Inv X pins σ H s)(h:SqT X.K H a xs):∃its:List Value,ZI xs its/\IsTup s.heap a its.toArray/\xs.length<=sizeLine:=by
 rcases h with h|⟨o,its,n,hk,hc,hs,hz,r⟩
 ·obtain⟨z,its,r,p⟩:=h.ok I.hok
  exact⟨its,r,p,z⟩
 ·refine⟨its.toList,r,⟨o,I.kIn a o hk,hc,n,by simpa using hs⟩,?_⟩
  have e:=r.length;simp only[Array.length_toList] at e;omega
theorem Inv.list_inj(I:Inv X pins σ H s)(h:SqL X.K H a xs)(h':SqL X.K H a ys):xs=ys:=by
 obtain⟨its,r,⟨o,n,e,_,_,d⟩,_⟩:=I.list h;obtain⟨its',r',⟨o',n',e',_,_,d'⟩,_⟩:=I.list h';rw[e] at e';cases e';rw[d] at d';injection d' with d1 _
 have:its=its':=by simpa using congrArg Array.toList d1
 subst this
 exact r.inj r'
theorem Inv.tuple_inj(I:Inv X pins σ H s)(h:SqT X.K H a xs)(h':SqT X.K H a ys):xs=ys:=by
 obtain⟨its,r,⟨o,e,_,n,d⟩,_⟩:=I.tuple h;obtain⟨its',r',⟨o',e',_,n',d'⟩,_⟩:=I.tuple h';rw[e] at e';cases e';rw[d] at d';injection d' with d1 _
 have:its=its':=by simpa using congrArg Array.toList d1
 subst this
 exact r.inj r'
end
abbrev Cx.wish(X:Cx)(E:Value->Shared->Prop):Cx:={ X with xe:=E }
abbrev Cx.nox(X:Cx):Cx:=X.wish λ_ _=>False
theorem Cx.Ok.wish{X:Cx}(ok:X.Ok)(E:Value->Shared->Prop):(X.wish E).Ok :=
 ⟨ok.mod,ok.kind,ok.glob,ok.blt,ok.above,ok.inj,ok.has,ok.cab,ok.hd,ok.frames,ok.stk,ok.exf,ok.bs,ok.bsz,ok.noex,ok.exfs,ok.funs,ok.frf⟩
theorem Cx.Ok.unwish{X:Cx}{E:Value->Shared->Prop}(ok:(X.wish E).Ok):X.Ok :=
 ⟨ok.mod,ok.kind,ok.glob,ok.blt,ok.above,ok.inj,ok.has,ok.cab,ok.hd,ok.frames,ok.stk,ok.exf,ok.bs,ok.bsz,ok.noex,ok.exfs,ok.funs,ok.frf⟩
section
variable{X:Cx}{pins:List (Addr×Obj)}{σ : St}{H:Hp}{s:Shared}{E:Value->Shared->Prop}
theorem Inv.wish(I:Inv X pins σ H s)(E:Value->Shared->Prop):Inv (X.wish E) pins σ H s:=⟨I.ok.wish E,I.os,I.bare,I.base,I.loc,I.cell,I.free,I.freeC,I.pin,I.hok,I.len⟩
theorem Inv.unwish(I:Inv (X.wish E) pins σ H s):Inv X pins σ H s:=⟨I.ok.unwish,I.os,I.bare,I.base,I.loc,I.cell,I.free,I.freeC,I.pin,I.hok,I.len⟩
theorem SP.unwish{D:Ends}{f:Flow}{s':Shared}(h:SP (X.wish E) pins D f s'):SP X pins D f s':=by
 cases f with
 |next=>obtain⟨σ',H',I,q⟩:=h;exact⟨σ',H',I.unwish,q⟩
 |brk=>obtain⟨σ',H',I,q⟩:=h;exact⟨σ',H',I.unwish,q⟩
 |cont=>obtain⟨σ',H',I,q⟩:=h;exact⟨σ',H',I.unwish,q⟩
 |ret u=>obtain⟨v,σ',H',I,r,q⟩:=h;exact⟨v,σ',H',I.unwish,r,q⟩
theorem PSs.nox{st:List Stmt}{t:TS}(h:PSs X.nox st t):PSs X st t:=λpins s σ H D I hw =>
 wpAny_mono (h pins s σ H D (I.wish _) hw) (λ_ _ q=>q.unwish) λ_ _ z=>False.elim z
end
section
variable{X:Cx}{st:Stmt}{rest:List Stmt}{t u:TS}{e:Expr}{te:TE}{pos:Pos}
def tNext:TS:=λD σ H=>D.nx σ H
def tSeq(t u:TS):TS:=λD σ H=>t { D with nx:=u D } σ H
theorem ZJa:PSs X [] tNext:=λ_ _ σ H _ I h=>wpAny_execs_nil ⟨σ,H,I,h⟩
theorem ZHT(h1:PS X st t)(h2:PSs X rest u):PSs X (st::rest) (tSeq t u):=by
 intro pins s σ H D I h;refine wpAny_execs_cons (thn (h1 pins s σ H { D with nx:=u D } I h) λf s1 q=>?_);cases f with
 |next =>
  obtain⟨σ',H',I',q⟩:=q;exact h2 pins s1 σ' H' D I' q
 |ret v=>exact q
 |brk=>exact q
 |cont=>exact q
theorem ZIo(h1:PS X st t):PSs X [st] t:=by
 intro pins s σ H D I h;refine wpAny_execs_cons (thn (h1 pins s σ H D I h) λf s1 q=>?_);cases f with
 |next=>exact wpAny_execs_nil q
 |ret v=>exact q
 |brk=>exact q
 |cont=>exact q
theorem Inv.quiet{pins:List (Addr×Obj)}{σ : St}{H:Hp}{s:Shared}(I:Inv X pins σ H s):interactive X.env=false:=by simp[interactive,I.ok.kind]
def tDrop(te:TE):TS:=λD σ H=>te σ H λ_ H1=>D.nx σ H1
theorem ZI0(he:PE X e te)(hs:swapsWith e none pos.line X.env=pure false:=by rfl):PS X (.Expr e pos) (tDrop te):=by
 intro pins s σ H D I h;exact wpAny_Expr_any (thn (he pins s σ H _ I h) λv s1 ⟨x,H1,I1,r1,q1⟩=>⟨σ,H1,I1,q1⟩) I.quiet hs
def tRet(te:TE):TS:=λD σ H=>te σ H D.rt
theorem ZKz(he:PE X e te):PS X (.Return (some e) pos) (tRet te):=by
 intro pins s σ H D I h;exact wpAny_Return_some (thn (he pins s σ H _ I h) λv s1 ⟨x,H1,I1,r1,q1⟩=>⟨x,σ,H1,I1,r1,q1⟩)
def tIfS(c:TT)(t u:TS):TS:=λD σ H=>c σ H λb H1=>if b=true then t D σ H1 else u D σ H1
theorem ps_if{c:Expr}{a b:List Stmt}{tc:TT}(hc:PT X c tc)(ha:PSs X a t)(hb:PSs X b u):PS X (.If c a b pos) (tIfS tc t u):=by
 intro pins s σ H D I h;refine wpAny_If (thn (hc pins s σ H _ I h) λd s1 ⟨H1,I1,q1⟩=>?_);cases d with
 |true=>exact ha pins s1 σ H1 D I1 q1
 |false=>exact hb pins s1 σ H1 D I1 q1
end
abbrev TG:=V->St->Hp->(St->Hp->Prop)->Prop
abbrev TGs:=List V->St->Hp->(St->Hp->Prop)->Prop
def PG(X:Cx)(target:Expr)(t:TG):Prop :=
 ∀(pins:List (Addr×Obj)) (s:Shared) (σ : St) (H:Hp) (v:V) (u:Value) (Q:St->Hp->Prop),Inv X pins σ H s->ZS v u->t v σ H Q ->
  wpAny (model X.prog X.w) X.A (assign target X.env u) (λ_ s'=>∃σ' H',Inv X pins σ' H' s'/\Q σ' H') X.xe s
def PGs(X:Cx)(ts:List Expr)(t:TGs):Prop :=
 ∀(pins:List (Addr×Obj)) (s:Shared) (σ : St) (H:Hp) (vs:List V) (us:List Value) (Q:St->Hp->Prop),Inv X pins σ H s->ZI vs us->t vs σ H Q ->
  wpAny (model X.prog X.w) X.A (assignInOrder ((assignEach ts X.env).map (·.2)) us) (λ_ s'=>∃σ' H',Inv X pins σ' H' s'/\Q σ' H') X.xe s
abbrev ZK8:=V->V->V->Hp->(Hp->Prop)->Prop
def ZKS(X:Cx)(t:ZK8):Prop :=
 ∀(pins:List (Addr×Obj)) (s:Shared) (σ : St) (H:Hp) (o i v:V) (ov iv u:Value) (Q:Hp->Prop),Inv X pins σ H s->ZS o ov->ZS i iv->ZS v u->t o i v H Q ->
  wpAny (model X.prog X.w) X.A (setItem ov iv u) (λ_ s'=>∃H',Inv X pins σ H' s'/\Q H') X.xe s
section
variable{X:Cx}{pos:Pos}
def ZEm(i:Nat):TG:=λv σ H Q=>Q (σ.set i (some v)) H
theorem ZJh{i:Nat}{x:Str}(hN:X.N.Nodup)(hi:X.N[i]? = some x)(hx:Loc X.env.scope x)(hf:X.fn x=true∨X.env.scope.names.lookup x=some .local:=by first|exact .inl rfl|exact .inr rfl|assumption):PG X (.Name x pos) (ZEm i):=by
 intro pins s σ H v u Q I r h;exact wpAny_assign_Name (ZEt I hN hi hx r (λs' I'=>⟨_,H,I',h⟩) hf)
def ZMM:TGs:=λvs σ H Q=>vs=[]/\Q σ H
def ZKF(t:TG)(u:TGs):TGs:=λvs σ H Q=>∃v r,vs=v::r/\t v σ H λσ' H'=>u r σ' H' Q
theorem ZJq:PGs X [] ZMM:=by
 intro pins s σ H vs us Q I r h;obtain⟨e,h⟩:=h;subst e;cases r;exact assignInOrder_nil ⟨σ,H,I,h⟩
theorem ZHV{e:Expr}{es:List Expr}{t:TG}{u:TGs}(h1:PG X e t)(h2:PGs X es u)
  (hs:(assignEach (e::es) X.env).map (·.2)=assign e X.env::(assignEach es X.env).map (·.2):=by rfl):PGs X (e::es) (ZKF t u):=by
 intro pins s σ H vs us Q I r h;obtain⟨v,vr,e1,h⟩:=h;subst e1;cases r with
 |cons r rr =>
  rw[hs];refine assignInOrder_cons (thn (h1 pins s σ H _ _ _ I r h) λ_ s1 ⟨σ1,H1,I1,q1⟩=>?_);exact h2 pins s1 σ1 H1 _ _ Q I1 rr q1
def ZMX(K:PySem.W.Frag)(n:Nat)(t:TGs):TG:=λv σ H Q=>∃a xs,v=.ref a/\SqT K H a xs/\xs.length=n/\t xs σ H Q
theorem ZKe{es:List Expr}{k:Nat}{t:TGs}{n:Nat}(hc:X.calm=true)(h:PGs X es t)
  (hn:(assignEach es X.env).length=n:=by rfl)(hst:(assignEach es X.env).findIdx? (·.1)=none:=by rfl):PG X (.Tuple es k pos) (ZMX X.K n t):=by
 intro pins s σ H v u Q I r hw;obtain⟨a,xs,e1,hq,hl,hw⟩:=hw;subst e1;cases r;obtain⟨its,rv,ht,hz⟩:=I.tuple hq;refine assign_Tuple_tuple (I.ok.hd hc) ht (by simp[hn,←hl,rv.length]) hst λh' hx=>?_
 have I1:Inv X pins σ H { s with heap:=h' }:=I.kept (t':=s.toks) λb o e=>hx b o (ne_of_lt (lt_size e)) e
 exact h pins _ σ H xs _ Q I1 (by simpa using rv) hw
def gSub(to ti:TE)(t:ZK8):TG:=λv σ H Q=>to σ H λo H1=>ti σ H1 λi H2=>t o i v H2 λH3=>Q σ H3
theorem ZHX{o i:Expr}{to ti:TE}{t:ZK8}(ho:PE X o to)(hi:PE X i ti)(hs:ZKS X t)
  (ha:∀ v,assign (.Subscript o i pos) X.env v=(do
   let ov ←holding [v] (eval o X.env)
   let iv ←holding [v,ov] (eval i X.env)
   standAt pos
   holding [v,ov,iv] (setItem ov iv v)
   release [v,ov,iv] []):=by intro _;rfl):PG X (.Subscript o i pos) (gSub to ti t):=by
 intro pins s σ H v u Q I r h;rw[ha];refine wpAny_bind (wpAny_holding (thn (ho pins s σ H _ I h) λov s1 ⟨x,H1,I1,r1,q1⟩=>?_));refine wpAny_bind (wpAny_holding (thn (hi pins s1 σ H1 _ I1 q1) λiv s2 ⟨y,H2,I2,r2,q2⟩=>?_));refine wpAny_bind (wpAny_standAt (wpAny_bind (wpAny_holding (thn (hs pins s2 σ H2 x y v ov iv u _ I2 r1 r2 r q2) λ_ s3 ⟨H3,I3,q3⟩=>?_))));exact wpAny_release ⟨σ,H3,I3,q3⟩
def ZKq(te:TE)(g:TG):TS:=λD σ H=>te σ H λx H1=>g x σ H1 D.nx
theorem ZFL{tg e:Expr}{te:TE}{g:TG}(he:PE X e te)(hg:PG X tg g)(hs:swapsWithSole [tg] e pos.line X.env=pure false:=by rfl)(hw:swappedStores [tg] e X.env=pure none:=by rfl)
  (h1:(assignEach [tg] X.env).map (·.2)=[assign tg X.env]:=by rfl):PS X (.Assign [tg] e pos) (ZKq te g):=by
 intro pins s σ H D I h;refine wpAny_Assign_stores (thn (he pins s σ H _ I h) λv s1 ⟨x,H1,I1,r1,q1⟩=>?_) hs hw;rw[h1];exact thn (hg pins s1 σ H1 x v _ I1 r1 q1) λ_ s2 q=>q
theorem ZMA{i:Nat}{x:Str}{e:Expr}{te:TE}{pos':Pos}(hN:X.N.Nodup)(hi:X.N[i]? = some x)(hx:Loc X.env.scope x)(he:PE X e te)(hs:swapsWith e (some (.Name x pos')) pos.line X.env=pure false:=by rfl)(hf:X.fn x=true∨X.env.scope.names.lookup x=some .local:=by first|exact .inl rfl|exact .inr rfl|assumption) :
  PS X (.Assign [.Name x pos'] e pos) (ZKq te (ZEm i)):=by
 intro pins s σ H D I h;refine wpAny_Assign_Name (thn (he pins s σ H _ I h) λv s1 ⟨y,H1,I1,r1,q1⟩=>?_) hs;exact ZEt I1 hN hi hx r1 (λs2 I2=>⟨_,H1,I2,q1⟩) hf
end
structure It where
 go:Nat->Hp->Prop
 yld:Nat->Hp->V->Hp->Prop
 stop:Nat->Hp->Prop
def ZCK(X:Cx)(pins:List (Addr×Obj))(H:Hp)(b:Addr):Prop :=
 H b=none/\b≠X.env.locals/\b∉X.fs/\(b∈X.ex∨X.s₀.heap.objs.size<=b)/\(∀x c,X.env.cells.lookup x=some c->c≠b)/\∀p∈X.pn++pins,p.1≠b
theorem Inv.fpOk{X:Cx}{pins:List (Addr×Obj)}{σ : St}{H H':Hp}{s:Shared}{b:Addr}(I:Inv X pins σ H s)(hb:s.heap.objs.size<=b)(hn:H' b=none):ZCK X pins H' b:=by
 refine⟨hn,Nat.ne_of_gt (lt_of_lt_of_le I.lt hb),I.nofs hb,.inr (le_trans I.sz hb),λx c e z=>?_,λp hp z=>?_⟩
 ·obtain⟨v,q⟩:=I.cell x c e
  exact absurd (lt_of_lt_of_le q.lt (by rw[z];exact hb)) (lt_irrefl _)
 ·exact absurd (lt_of_lt_of_le (lt_size (I.pin p hp).1) (by rw[z];exact hb)) (lt_irrefl _)
structure Turn (P:Program) (w:World) (K:PySem.W.Frag) (tg:Expr) (J:It) (fp:List Addr) (it:Addr) (tn:Nat->Heap->Prop):Prop where
  mem:it∈fp
  obj:∀i h,tn i h->∀b∈fp,∃o,h.get? b=some o/\∀v,o.data≠.cell v
  keep:∀i h h',tn i h->(∀b∈fp,∀o,h.get? b=some o->h'.get? b=some o)->tn i h'
  item:∀(X:Cx),X.prog=P->X.w=w->X.K=K->X.calm=true->∀(i:Nat) (pins:List (Addr×Obj)) (s:Shared) (σ : St) (H:Hp) (E:Value->Shared->Prop),Inv X pins σ H s->(∀b∈fp,ZCK X pins H b)->tn i s.heap->J.go i H ->
    wpAny (model P w) X.A (pyNext (.ref it)) (λ r s1=>∃ u,r=some u /\
      wpAny (model P w) X.A (letOwnedTupleGo tg (.ref it) u) (λ_ s2=>∃x H',Inv X pins σ H' s2/\ZS x u/\J.yld i H x H'/\tn (i+1) s2.heap/\∀b∈fp,H' b=none) E s1) E s
  done:∀(X:Cx),X.prog=P->X.w=w->X.K=K->X.calm=true->∀(i:Nat) (pins:List (Addr×Obj)) (s:Shared) (σ : St) (H:Hp) (E:Value->Shared->Prop),Inv X pins σ H s->(∀b∈fp,ZCK X pins H b)->tn i s.heap->J.stop i H ->
    wpAny (model P w) X.A (pyNext (.ref it)) (λr s1=>r=none/\Inv X pins σ H s1) E s
  self:∀(A:Around) (i:Nat) (s:Shared) (Q:Value->Shared->Prop) (E:Value->Shared->Prop),tn i s.heap->Q (.ref it) s->wpAny (model P w) A (pyIter (.ref it)) Q E s
abbrev TI:=St->Hp->(It->Hp->Prop)->Prop
def PIE(X:Cx)(pins:List (Addr×Obj))(σ : St)(tg:Expr)(R:It->Hp->Prop)(itv:Value)(s2:Shared):Prop :=
 ∃(it:Addr) (fp:List Addr) (tn:Nat->Heap->Prop) (J:It) (H':Hp),itv=.ref it/\Inv X pins σ H' s2/\Turn X.prog X.w X.K tg J fp it tn/\tn 0 s2.heap/\(∀b∈fp,ZCK X pins H' b)/\R J H'
def PI(X:Cx)(tg iter:Expr)(wi:TI):Prop :=
 ∀(pins:List (Addr×Obj)) (s:Shared) (σ : St) (H:Hp) (R:It->Hp->Prop),Inv X pins σ H s->wi σ H R ->
  wpAny (model X.prog X.w) X.A (eval iter X.env) (λv s1=>wpAny (model X.prog X.w) X.A (pyIter v) (PIE X pins σ tg R) X.xe s1) X.xe s
theorem ZFk{M:Model}{A:Around}{E:Value->Shared->Prop}{s:Shared}{tg:Expr}{it:Addr}{u:Value}{o:Obj}{n:String}{vs:Array Value}{Q:Unit->Shared->Prop}(ho:s.heap.get? it=some o)(hc:o.cls=.type n)(hd:o.data=.fields vs)
    (hn:["enumerate","zip","dict_itemiterator","dict_reverseitemiterator","odict_iterator","itertools.zip_longest","itertools.pairwise"].contains n=false)(hQ:Q () s):wpAny M A (letOwnedTupleGo tg (.ref it) u) Q E s:=by
  unfold letOwnedTupleGo;cases tg <;> first
    |exact wpAny_pure hQ
    | (cases u <;> first
        |exact wpAny_pure hQ
        | (refine wpAny_bind (wpAny_load ho ?_)
           rw[hc,hd];show wpAny M A (if (["enumerate","zip","dict_itemiterator","dict_reverseitemiterator","odict_iterator","itertools.zip_longest","itertools.pairwise"].contains n && vs[0]? == some (rawInt _))=true then _ else _) Q E s;rw[if_neg (by intro h;rw[hn,Bool.false_and] at h;cases h)];exact wpAny_pure hQ))
def Itl(K:PySem.W.Frag)(a:Addr):It :=
 ⟨λi H=>∃xs x,SqL K H a xs/\xs[i]? = some x,λi H x H'=>H'=H/\∀xs,SqL K H a xs->xs[i]? = some x,λi H=>∃xs,SqL K H a xs/\xs.length<=i⟩
def Itt(K:PySem.W.Frag)(a:Addr):It :=
 ⟨λi H=>∃xs x,SqT K H a xs/\xs[i]? = some x,λi H x H'=>H'=H/\∀xs,SqT K H a xs->xs[i]? = some x,λi H=>∃xs,SqT K H a xs/\xs.length<=i⟩
def Itr(lo:Int)(n:Nat):It:=⟨λi _=>i<n,λi H x H'=>H'=H/\x=.int (lo+i),λi _=>n<=i⟩
theorem ZF6{P:Program}{w:World}{K:PySem.W.Frag}{tg:Expr}(a it:Addr):Turn P w K tg (Itl K a) [it] it (λi h=>h.IsListIter it a i) where
 mem:=by simp
 obj:=λi h st b hb=>by
  have e:b=it:=by simpa using hb
  subst e;obtain⟨o,e,c,d⟩:=st;exact⟨o,e,λv z=>by rw[d] at z;cases z⟩
 keep:=λi h h' st k=>st.at λo e=>k it (by simp) o e
 item:=by
  intro X hP hw hK hc i pins s σ H E I hf st hg;subst hP hw hK;obtain⟨xs,x,hq,hx⟩:=hg;obtain⟨its,rv,p,hz⟩:=I.list hq;obtain⟨u,hu,ru⟩:=rv.get hx;obtain⟨f0,f1,f2,f3,f4,f5⟩:=hf it (by simp);refine wpAny_pyNext_list_item st p.isList (x:=u) (by simpa using hu) λh' st' sb=>?_
  have I1:Inv X pins σ H { s with heap:=h' }:=I.turned (t':=s.toks) (λb o hb e=>(sb.2 b hb).trans e) f0 f1 f3 f4 f5;obtain⟨o,e,c,d⟩:=id st';exact⟨u,rfl,ZFk (s:={ s with heap:=h' }) e c d (by decide) ⟨x,H,I1,ru,⟨rfl,λys hy=>by rw[I.list_inj hy hq];exact hx⟩,st',λb hb=>(hf b hb).1⟩⟩
 done:=by
  intro X hP hw hK hc i pins s σ H E I hf st hg;subst hP hw hK;obtain⟨xs,hq,hx⟩:=hg;obtain⟨its,rv,p,hz⟩:=I.list hq;obtain⟨f0,f1,f2,f3,f4,f5⟩:=hf it (by simp);have hl:=rv.length;exact wpAny_pyNext_list_end (I.ok.hd hc) st p.isList (by simp;omega) λh' eb=>⟨rfl,I.turned (t':=s.toks) (λb o hb e=>eb b o hb e) f0 f1 f3 f4 f5⟩
 self:=λ_ _ _ _ _ st h=>wpAny_pyIter_listiter st h
theorem ZFB{P:Program}{w:World}{K:PySem.W.Frag}{tg:Expr}(a it:Addr):Turn P w K tg (Itt K a) [it] it (λi h=>h.IsTupleIter it a i) where
 mem:=by simp
 obj:=λi h st b hb=>by
  have e:b=it:=by simpa using hb
  subst e;obtain⟨o,e,c,d⟩:=st;exact⟨o,e,λv z=>by rw[d] at z;cases z⟩
 keep:=λi h h' st k=>st.at λo e=>k it (by simp) o e
 item:=by
  intro X hP hw hK hc i pins s σ H E I hf st hg;subst hP hw hK;obtain⟨xs,x,hq,hx⟩:=hg;obtain⟨its,rv,p,hz⟩:=I.tuple hq;obtain⟨u,hu,ru⟩:=rv.get hx;obtain⟨f0,f1,f2,f3,f4,f5⟩:=hf it (by simp);refine wpAny_pyNext_tuple_item st (show s.heap.IsTuple a its.toArray from p) (x:=u) (by simpa using hu) λh' st' sb=>?_
  have I1:Inv X pins σ H { s with heap:=h' }:=I.turned (t':=s.toks) (λb o hb e=>(sb.2 b hb).trans e) f0 f1 f3 f4 f5;obtain⟨o,e,c,d⟩:=id st';exact⟨u,rfl,ZFk (s:={ s with heap:=h' }) e c d (by decide) ⟨x,H,I1,ru,⟨rfl,λys hy=>by rw[I.tuple_inj hy hq];exact hx⟩,st',λb hb=>(hf b hb).1⟩⟩
 done:=by
  intro X hP hw hK hc i pins s σ H E I hf st hg;subst hP hw hK;obtain⟨xs,hq,hx⟩:=hg;obtain⟨its,rv,p,hz⟩:=I.tuple hq;obtain⟨f0,f1,f2,f3,f4,f5⟩:=hf it (by simp);have hl:=rv.length;exact wpAny_pyNext_tuple_end (I.ok.hd hc) st (show s.heap.IsTuple a its.toArray from p) (by simp;omega) λh' eb=>⟨rfl,I.turned (t':=s.toks) (λb o hb e=>eb b o hb e) f0 f1 f3 f4 f5⟩
 self:=λ_ _ _ _ _ st h=>wpAny_pyIter_tupleiter st h
theorem ZFA{P:Program}{w:World}{K:PySem.W.Frag}{tg:Expr}(it:Addr)(lo:Int)(n:Nat):Turn P w K tg (Itr lo n) [it] it (λi h=>IsRangeIter h it (lo+(i:Nat)*1) ((n:Int)-(i:Nat)) 1) where
 mem:=by simp
 obj:=λi h st b hb=>by
  have e:b=it:=by simpa using hb
  subst e;exact⟨_,st,λv z=>by
   have z':Data.fields _=Data.cell v:=z;cases z'⟩
 keep:=λi h h' st k=>k it (by simp) _ st
 item:=by
  intro X hP hw hK hc i pins s σ H E I hf st hg;subst hP hw hK;obtain⟨f0,f1,f2,f3,f4,f5⟩:=hf it (by simp);have W:=Walks.range (prog:=X.prog) (w:=X.w) (I.ok.hd hc) it lo 1 n;refine W.item i s _ _ hg st λv h' tk hv st' kk=>?_
  obtain⟨t,rfl⟩:=hv;have I1:Inv X pins σ H { s with heap:=h',toks:=tk }:=I.turned (λb o hb e=>kk b o (by simpa using hb) e) f0 f1 f3 f4 f5;refine⟨_,rfl,ZFk (s:={ s with heap:=h',toks:=tk }) (n:="range_iterator") st' rfl rfl (by decide) ⟨.int (lo+i),H,I1,⟨t,?_⟩,⟨rfl,rfl⟩,st',λb hb=>(hf b hb).1⟩⟩;rw[Int.mul_one]
 done:=by
  intro X hP hw hK hc i pins s σ H E I hf st hg;subst hP hw hK;obtain⟨f0,f1,f2,f3,f4,f5⟩:=hf it (by simp);exact wpAny_pyNext_range_end (I.ok.hd hc) st (by have:n<=i:=hg;omega) λh' eb=>⟨rfl,I.turned (t':=s.toks) (λb o hb e=>eb b o hb e) f0 f1 f3 f4 f5⟩
 self:=λ_ _ _ _ _ st h=>wpAny_pyIter_rangeiter st h
section
variable{X:Cx}{tg:Expr}
theorem ZH0{pins:List (Addr×Obj)}{σ : St}{H:Hp}{s:Shared}{R:It->Hp->Prop}{E:Value->Shared->Prop}{lo hi:Int}{t u v:Tok}{tk:Nat}(I:Inv X pins σ H s)(h1 : -(2 ^ 62)<=lo)(h2:lo<2 ^ 62)(h3 : -(2 ^ 62)<=hi)(h4:hi<2 ^ 62)
  (q:R (Itr lo (hi-lo).toNat) H):wpAny (model X.prog X.w) X.A (pyIter (.ref s.heap.objs.size)) (PIE X pins σ tg R) E { s with heap:=s.heap.push { cls:=.type "range",data:=.fields #[.int lo t,.int hi u,.int 1 v] },toks:=tk }:=by
 refine wpAny_pyIter_range (IsRange.new ..) (small_one h1 h2 h3 h4) ?_;have I1:Inv X pins σ H { s with heap:=s.heap.push { cls:=.type "range",data:=.fields #[.int lo t,.int hi u,.int 1 v] },toks:=tk }:=I.kept λb o e=>get?_push_of_some _ e
 refine⟨(s.heap.push { cls:=.type "range",data:=.fields #[.int lo t,.int hi u,.int 1 v] }).objs.size,[(s.heap.push { cls:=.type "range",data:=.fields #[.int lo t,.int hi u,.int 1 v] }).objs.size],_,_,H,rfl,
  I1.kept (t':=tk) λb o e=>get?_push_of_some _ e,ZFA _ lo (hi-lo).toNat,?_,λb hb=>?_,q⟩
 ·have e1:lo+((0:Nat):Int)*1=lo:=by simp
  have e2:(((hi-lo).toNat:Nat):Int)-((0:Nat):Int)=Builtin.Range.rangeSize lo hi 1:=by rw[rangeSize_one];split <;> omega
  show IsRangeIter _ _ (lo+((0:Nat):Int)*1) ((((hi-lo).toNat:Nat):Int)-((0:Nat):Int)) 1;rw[e1,e2];exact get?_push_size _ rfl
 ·have e:b=(s.heap.push { cls:=.type "range",data:=.fields #[.int lo t,.int hi u,.int 1 v] }).objs.size:=by simpa using hb
  subst e;exact I1.fpOk (le_refl _) (I1.hok.fresh (le_refl _))
def iRng1(ta:TA):TI:=λσ H R=>ta σ H λvs H1=>∃j:Int,vs=[.int j]/\-(2 ^ 62)<=j/\j<2 ^ 62/\R (Itr 0 j.toNat) H1
theorem ZGL{a:Expr}{ta:TA}{p pos:Pos}(hg:Gl X "range")(hm:X.mg "range" = none)(ha:PA X [a] ta)(hs:starEach [a] X.env=[(false,eval a X.env)]:=by rfl):PI X tg (.Call (.Name "range" p) [a] [] pos) (iRng1 ta):=by
 intro pins s σ H R I h;refine Call_ (ZCY I hg hm boot_range (PyProof.Rows.callWith_type1 (thn (ha pos pins s σ H _ I h) λus s1 ⟨vs,H1,I1,r1,q1⟩=>?_) hs rfl));obtain⟨j,e,q1,q2,q⟩:=q1;subst e;cases r1 with
 |cons r rr =>
  cases rr;obtain⟨t,rfl⟩:=r;exact call_range_1 (ZH0 I1 (by omega) (by omega) q1 q2 (by simpa using q))
def tFor(wi:TI)(g:TG)(tb:TS):TS:=λD σ H=>wi σ H λJ H1=>∃W:Nat->Nat->St->Hp->Prop,(∃m,W 0 m σ H1)/\∀i m σ H,W i m σ H ->
 (J.stop i H/\D.nx σ H)∨(J.go i H/\∃N:St->Hp->Prop,(∀σ' H',N σ' H'->∃m',m'<m/\W (i+1) m' σ' H')/\∀x H',J.yld i H x H'->g x σ H' λσ2 H2=>tb { D with nx:=N,ct:=N,bk:=D.nx } σ2 H2)
def ZB2(fp:List Addr)(h:Heap):List (Addr×Obj):=fp.filterMap λb=>(h.get? b).map λo=>(b,o)
theorem ZAr{fp:List Addr}{h:Heap}{b:Addr}{o:Obj}(hb:b∈fp)(e:h.get? b=some o):(b,o)∈ZB2 fp h:=List.mem_filterMap.mpr ⟨b,hb,by rw[e];rfl⟩
theorem ZGl{fp:List Addr}{h:Heap}{p:Addr×Obj}(hp:p∈ZB2 fp h):p.1∈fp/\h.get? p.1=some p.2:=by
 obtain⟨b,hb,e⟩:=List.mem_filterMap.mp hp;cases q:h.get? b with
 |none=>rw[q] at e;cases e
 |some o =>
  rw[q] at e;have e':(b,o)=p:=Option.some.inj e;subst e';exact⟨hb,q⟩
theorem Inv.pinned{pins:List (Addr×Obj)}{σ : St}{H:Hp}{s:Shared}{fp:List Addr}(I:Inv X pins σ H s)(hf:∀b∈fp,ZCK X pins H b)(ho:∀b∈fp,∃o,s.heap.get? b=some o/\∀v,o.data≠.cell v):Inv X (pins++ZB2 fp s.heap) σ H s :=
 I.pins_of λp hp=>(List.mem_append.mp hp).elim (λz=>I.pin p (mem_append_right _ z)) λz=>by
  obtain⟨hb,e⟩:=ZGl z;obtain⟨f0,f1,f2,_⟩:=hf p.1 hb;obtain⟨o,e',d⟩:=ho p.1 hb;rw[e] at e';cases e';exact⟨e,f0,f1,f2,d⟩
theorem Inv.unpinned{pins pl:List (Addr×Obj)}{σ : St}{H:Hp}{s:Shared}(I:Inv X (pins++pl) σ H s):Inv X pins σ H s:=I.pins_of λp hp=>I.pin p (mem_append_right _ (List.mem_append_left _ hp))
theorem ZKu{iter:Expr}{body:List Stmt}{wi:TI}{g:TG}{tb:TS}{pos:Pos}(hp:PassesOwn (model X.prog X.w) X.A X.env X.xe)(hc:X.calm=true)(hi:PI X tg iter wi)(hg:PG X tg g)(hb:PSs X body tb)
  (hs:∀x,foldedSetIterable iter X.env x=pure x:=by intro _;rfl):PS X (.For tg iter body [] pos) (tFor wi g tb):=by
 intro pins s σ H D I h;refine wpAny_For (thn (hi pins s σ H _ I h) λv s1 h1=>thn h1 λitv s2 h2=>?_) hs;obtain⟨it,fp,tn,J,H2,e,I2,T,st2,f2,W,⟨m0,w0⟩,turn⟩:=h2;subst e
 -- what stays true of the iterator's objects through the loop
 have stat:∀{H':Hp},(∀b∈fp,H' b=none)->∀b∈fp,ZCK X pins H' b:=λhn b hb=>⟨hn b hb,(f2 b hb).2⟩
 refine codeAny_forLoop_any (λn s'=>∃i σ' H',Inv X pins σ' H' s'/\tn i s'.heap/\(∀b∈fp,H' b=none)/\W i n σ' H') ?_ m0 ⟨0,σ,H2,I2,st2,λb hb=>(f2 b hb).1,w0⟩
 rintro n s3 ⟨i,σ3,H3,I3,st3,fr3,w3⟩
 rcases turn i n σ3 H3 w3 with ⟨stop,qn⟩|⟨go,N,hN,step⟩
 ·refine wpAny_passesOwn hp (thn (T.done X rfl rfl rfl hc i pins s3 σ3 H3 X.xe I3 (stat fr3) st3 stop) λr s4 ⟨hr,I4⟩=>?_)
  subst hr;exact wpAny_execs_nil ⟨σ3,H3,I4,qn⟩
 ·refine wpAny_passesOwn hp (thn (T.item X rfl rfl rfl hc i pins s3 σ3 H3 X.xe I3 (stat fr3) st3 go) λr s4 ⟨u,hr,h4⟩=>?_)
  subst hr;refine wpAny_passesOwn hp (thn h4 λ_ s5 ⟨x,H5,I5,r5,y5,st5,fr5⟩=>?_);have I5':=I5.pinned (stat fr5) (T.obj _ _ st5);refine wpAny_passesOwn hp (thn (hg _ s5 σ3 H5 x u _ I5' r5 (step x H5 y5)) λ_ s6 ⟨σ6,H6,I6,q6⟩=>?_);refine wpAny_passesOwn hp (thn (hb _ s6 σ6 H6 _ I6 q6) λf s7 q7=>?_);have again:∀{σ7:St} {H7:Hp},Inv X (pins++ZB2 fp s5.heap) σ7 H7 s7->N σ7 H7->∃m,m<n/\∃i σ' H',Inv X pins σ' H' s7/\tn i s7.heap/\(∀b∈fp,H' b=none)/\W i m σ' H':=λ{σ7 H7} I7 n7=>by
   obtain⟨m',hm,w7⟩:=hN σ7 H7 n7;refine⟨m',hm,i+1,σ7,H7,I7.unpinned,T.keep _ _ _ st5 λb hb o e=>(I7.pin (b,o) (mem_append_right _ (mem_append_right _ (ZAr hb e)))).1,λb hb=>?_,w7⟩;obtain⟨o,e,d⟩:=T.obj _ _ st5 b hb;exact(I7.pin (b,o) (mem_append_right _ (mem_append_right _ (ZAr hb e)))).2.1
  cases f with
  |next=>obtain⟨σ7,H7,I7,n7⟩:=q7;exact again I7 n7
  |cont=>obtain⟨σ7,H7,I7,n7⟩:=q7;exact again I7 n7
  |brk=>obtain⟨σ7,H7,I7,q7⟩:=q7;exact⟨σ7,H7,I7.unpinned,q7⟩
  |ret v=>obtain⟨x7,σ7,H7,I7,r7,q7⟩:=q7;exact⟨x7,σ7,H7,I7.unpinned,r7,q7⟩
end
abbrev R2:=V->V->Hp->VK->Prop
def OpR(X:Cx)(f:Value->Value->Sem Value)(r:R2):Prop :=
 ∀(pins:List (Addr×Obj)) (s:Shared) (σ : St) (H:Hp) (x y:V) (v u:Value) (Q:VK),Inv X pins σ H s->ZS x v->ZS y u->r x y H Q ->
  wpAny (model X.prog X.w) X.A (f v u) (EP X pins σ Q) X.xe s
def ZJ(X:Cx)(f:Value)(r:List V->Hp->VK->Prop):Prop :=
 ∀(pins:List (Addr×Obj)) (s:Shared) (σ : St) (H:Hp) (xs:List V) (us:List Value) (Q:VK),Inv X pins σ H s->ZI xs us->r xs H Q ->
  wpAny (model X.prog X.w) X.A (call f us) (EP X pins σ Q) X.xe s
def tOp(r:R2)(ta tb:TE):TE:=λσ H Q=>ta σ H λx H1=>tb σ H1 λy H2=>r x y H2 Q
def rI(C:Int->Int->Prop)(g:Int->Int->V):R2:=λx y H Q=>∃i j,x=.int i/\y=.int j/\C i j/\Q (g i j) H
def rI0(g:Int->Int->V):R2:=λx y H Q=>∃i j,x=.int i/\y=.int j/\Q (g i j) H
section
variable{X:Cx}{a b c:Expr}{ta tb tc:TE}{pos:Pos}
theorem ZLk(ha:PE X a ta)(hb:PE X b tb){pins:List (Addr×Obj)}{s:Shared}{σ : St}{H:Hp}{R:V->V->Hp->Prop}(I:Inv X pins σ H s)
  (h:ta σ H λx H1=>tb σ H1 λy H2=>R x y H2){Q:Value->Shared->Prop}{f:Value->Value->Sem Value}
  (hf:∀v u s2 x y H2,Inv X pins σ H2 s2->ZS x v->ZS y u->R x y H2->wpAny (model X.prog X.w) X.A (f v u) Q X.xe s2) :
  wpAny (model X.prog X.w) X.A (eval a X.env) (λv s₁=>wpAny (model X.prog X.w) X.A (eval b X.env) (λu s₂=>wpAny (model X.prog X.w) X.A (f v u) Q X.xe s₂) X.xe s₁) X.xe s:=by
 refine thn (ha pins s σ H _ I h) λv s1 ⟨x,H1,I1,r1,q1⟩=>?_
 refine thn (hb pins s1 σ H1 _ I1 q1) λu s2 ⟨y,H2,I2,r2,q2⟩=>?_
 exact hf v u s2 x y H2 I2 r1 r2 q2
theorem ZJ8{op:Operator}{r:R2}(ho:OpR X (binaryOp op) r)(ha:PE X a ta)(hb:PE X b tb):PE X (.BinOp a op b pos) (tOp r ta tb):=by
 intro pins s σ H Q I h;exact wpAny_BinOp (ZLk ha hb I h λv u s2 x y H2 I2 rx ry q=>ho pins s2 σ H2 x y v u Q I2 rx ry q)
theorem opI{f:Value->Value->Sem Value}{C:Int->Int->Prop}{g:Int->Int->Int}
  (rule:∀(i j:Int) (t u:Tok) (s:Shared) (Q:Value->Shared->Prop) (E:Value->Shared->Prop),C i j->Q (.int (g i j) s.toks) { s with toks:=s.toks+1 }->wpAny (model X.prog X.w) X.A (f (.int i t) (.int j u)) Q E s) :
  OpR X f (rI C λi j=>.int (g i j)):=by
 intro pins s σ H x y v u Q I rx ry h;obtain⟨i,j,rfl,rfl,hc,q⟩:=h;obtain⟨t,rfl⟩:=rx;obtain⟨t',rfl⟩:=ry;exact rule i j t t' s _ _ hc ⟨.int (g i j),H,I.tok _,⟨_,rfl⟩,q⟩
theorem opI0{f:Value->Value->Sem Value}{g:Int->Int->Int}
  (rule:∀(i j:Int) (t u:Tok) (s:Shared) (Q:Value->Shared->Prop) (E:Value->Shared->Prop),Q (.int (g i j) s.toks) { s with toks:=s.toks+1 }->wpAny (model X.prog X.w) X.A (f (.int i t) (.int j u)) Q E s) :
  OpR X f (rI0 λi j=>.int (g i j)):=by
 intro pins s σ H x y v u Q I rx ry h;obtain⟨i,j,rfl,rfl,q⟩:=h;obtain⟨t,rfl⟩:=rx;obtain⟨t',rfl⟩:=ry;exact rule i j t t' s _ _ ⟨.int (g i j),H,I.tok _,⟨_,rfl⟩,q⟩
theorem ZJr{f:Value->Value->Sem Value}{g:Int->Int->Bool}
  (rule:∀(i j:Int) (t u:Tok) (s:Shared) (Q:Value->Shared->Prop) (E:Value->Shared->Prop),Q (.bool (g i j)) s->wpAny (model X.prog X.w) X.A (f (.int i t) (.int j u)) Q E s) :
  OpR X f (rI0 λi j=>.bl (g i j)):=by
 intro pins s σ H x y v u Q I rx ry h;obtain⟨i,j,rfl,rfl,q⟩:=h;obtain⟨t,rfl⟩:=rx;obtain⟨t',rfl⟩:=ry;exact rule i j t t' s _ _ ⟨.bl (g i j),H,I,rfl,q⟩
def ZML(i j:Int):Prop:=0<=j/\j<=1000000/\i.natAbs<2 ^ 64
def ZJD(i j:Int):Prop:=(-(2 ^ 64)<i/\i<2 ^ 64)∨(-(2 ^ 64)<j/\j<2 ^ 64)
theorem ZJD.ok{i j:Int}(h:ZJD i j):IntMulOk i j:=by
 rcases h with ⟨h1,h2⟩|⟨h1,h2⟩
 ·exact .of_left (intBits_le_64 h1 h2)
 ·exact .of_right (intBits_le_64 h1 h2)
theorem ZMB:OpR X (binaryOp .Add) (rI0 λi j=>.int (i+j)):=opI0 λ_ _ _ _ _ _ _ q=>add_int q
theorem ZKb:OpR X (binaryOp .Mult) (rI ZJD λi j=>.int (i*j)):=opI λ_ _ _ _ _ _ _ hc q=>mul_int q hc.ok
theorem ZKT:OpR X (binaryOp .Mod) (rI (λ_ j=>0<j) λi j=>.int (i % j)):=opI λi j _ _ _ _ _ hc q=>by
 have h1:(0:Int)<j:=hc;exact mod_int' (by omega) (by rw[Int.fmod_eq_emod_of_nonneg i (by omega)];exact q)
theorem ZLC:OpR X (binaryOp .Pow) (rI ZML λi j=>.int (i ^ j.toNat)):=opI λ_ _ _ _ _ _ _ hc q=>pow_int_small hc.1 hc.2.1 hc.2.2 q
end
def scal:V->V->Bool
 |.non,.non=>true|.non,.int _=>true|.int _,.non=>true|.non,.bl _=>true|.bl _,.non=>true|.non,.str _=>true|.str _,.non=>true
 |.int _,.int _=>true|.bl _,.bl _=>true|.str _,.str _=>true|.byt _,.byt _=>true
 |.int _,.str _=>true|.str _,.int _=>true|.bl _,.str _=>true|.str _,.bl _=>true
 |_,_=>false
def rNe:R2:=λx y H Q=>scal x y=true/\Q (.bl (!decide (x=y))) H
theorem ZIY{i j:Int}:decide (V.int i=V.int j)=(i == j):=by
 rw[Bool.eq_iff_iff];simp
theorem ZKx{i j:Bool}:decide (V.bl i=V.bl j)=(i == j):=by
 rw[Bool.eq_iff_iff];simp
theorem ZJ1{i j:Str}:decide (V.str i=V.str j)=(i == j):=by
 rw[Bool.eq_iff_iff];simp
theorem ZJL{i j:Array UInt8}:decide (V.byt i=V.byt j)=(i.toList == j.toList):=by
 rw[Bool.eq_iff_iff];cases i;cases j;simp
section
variable{X:Cx}{a b c:Expr}{ta tb tc:TE}{pos:Pos}
theorem Zl{pins:List (Addr×Obj)}{σ : St}{H:Hp}{s:Shared}{Q:VK}{k k':Bool}(I:Inv X pins σ H s)(q:Q (.bl k) H)(e:k=k'):EP X pins σ Q (.bool k') s:=by
 subst e;exact⟨.bl k,H,I,rfl,q⟩
theorem op_ne:OpR X (compareOp .NotEq) rNe:=by
 intro pins s σ H x y v u Q I rx ry h;obtain⟨hs,q⟩:=h;cases x with
 |non =>
  cases rx;cases y with
  |non=>cases ry;exact PySem.EqNone.ne_none_none (Zl I q (by simp))
  |bl j=>cases ry;exact PySem.EqNone.ne_none_bool (Zl I q (by simp))
  |int j=>obtain⟨t',rfl⟩:=ry;exact PySem.EqNone.ne_none_int (Zl I q (by simp))
  |str j=>obtain⟨t',rfl⟩:=ry;exact PySem.EqNone.ne_none_str (Zl I q (by simp))
  |_=>exact absurd (show false=true from hs) Bool.false_ne_true
 |bl i =>
  cases rx;cases y with
  |non=>cases ry;exact PySem.EqNone.ne_bool_none (Zl I q (by simp))
  |bl j=>cases ry;exact ne_bool (Zl I q (congrArg not ZKx))
  |str j=>obtain⟨t',rfl⟩:=ry;exact PySem.EqMixed.ne_bool_str (Zl I q (by simp))
  |_=>exact absurd (show false=true from hs) Bool.false_ne_true
 |int i =>
  obtain⟨t,rfl⟩:=rx;cases y with
  |non=>cases ry;exact PySem.EqNone.ne_int_none (Zl I q (by simp))
  |int j=>obtain⟨t',rfl⟩:=ry;exact ne_int (Zl I q (congrArg not ZIY))
  |str j=>obtain⟨t',rfl⟩:=ry;exact PySem.EqMixed.ne_int_str (Zl I q (by simp))
  |_=>exact absurd (show false=true from hs) Bool.false_ne_true
 |str i =>
  obtain⟨t,rfl⟩:=rx;cases y with
  |non=>cases ry;exact PySem.EqNone.ne_str_none (Zl I q (by simp))
  |bl j=>cases ry;exact PySem.EqMixed.ne_str_bool (Zl I q (by simp))
  |int j=>obtain⟨t',rfl⟩:=ry;exact PySem.EqMixed.ne_str_int (Zl I q (by simp))
  |str j=>obtain⟨t',rfl⟩:=ry;exact ne_str (Zl I q (congrArg not ZJ1))
  |_=>exact absurd (show false=true from hs) Bool.false_ne_true
 |byt i =>
  obtain⟨t,rfl⟩:=rx;cases y with
  |byt j=>obtain⟨t',rfl⟩:=ry;exact PySem.W.ne_bytes (Zl I q (congrArg not ZJL))
  |_=>exact absurd (show false=true from hs) Bool.false_ne_true
 |_=>cases y <;> exact absurd (show false=true from hs) Bool.false_ne_true
theorem op_lt:OpR X (compareOp .Lt) (rI0 λi j=>.bl (decide (i<j))):=ZJr λ_ _ _ _ _ _ _ q=>lt_int q
theorem op_le:OpR X (compareOp .LtE) (rI0 λi j=>.bl (decide (i<=j))):=ZJr λ_ _ _ _ _ _ _ q=>le_int q
theorem op_gt:OpR X (compareOp .Gt) (rI0 λi j=>.bl (decide (j<i))):=ZJr λ_ _ _ _ _ _ _ q=>gt_int q
theorem op_ge:OpR X (compareOp .GtE) (rI0 λi j=>.bl (decide (j<=i))):=ZJr λ_ _ _ _ _ _ _ q=>ge_int q
theorem ZGh:OpR X (compareOp .Lt) (λx y H Q=>∃i j,x=.str i/\y=.str j/\Q (.bl (decide (i.cps.toList<j.cps.toList))) H):=by
 intro pins s σ H x y v u Q I rx ry h;obtain⟨i,j,rfl,rfl,q⟩:=h;obtain⟨t,rfl⟩:=rx;obtain⟨t',rfl⟩:=ry;exact lt_str (Zl I q rfl)
theorem ZGj:OpR X (compareOp .In) (λx y H Q=>∃i j,x=.str i/\y=.str j/\Q (.bl (!(Builtin.Str.occurrences j i 0 j.length 1).isEmpty)) H):=by
 intro pins s σ H x y v u Q I rx ry h;obtain⟨i,j,rfl,rfl,q⟩:=h;obtain⟨t,rfl⟩:=rx;obtain⟨t',rfl⟩:=ry;exact in_str (Zl I q rfl)
theorem ZHG(b:Expr){op:CmpOp}(h:op≠.In:=by decide)(h2:op≠.NotIn:=by decide):behindInMarks op b=false:=by
 have e1:(op == CmpOp.In)=false:=by cases op <;> first|rfl|exact absurd rfl h
 have e2:(op == CmpOp.NotIn)=false:=by cases op <;> first|rfl|exact absurd rfl h2
 cases b <;> simp[behindInMarks,e1,e2]
theorem ZIj{op:CmpOp}{r:R2}(ho:OpR X (compareOp op) r)(ha:PE X a ta)(hb:PE X b tb)(hm:behindInMarks op b=false):PE X (.Compare a [op] [b] pos) (tOp r ta tb):=by
 intro pins s σ H Q I h;exact wpAny_Compare1 (ZLk ha hb I h λv u s2 x y H2 I2 rx ry q=>ho pins s2 σ H2 x y v u Q I2 rx ry q) hm
def ZHS(t:TE):TT:=λσ H Q=>t σ H λx H'=>∃k,x=.bl k/\Q k H'
theorem ZJI{op:CmpOp}{r:R2}(ho:OpR X (compareOp op) r)(ha:PE X a ta)(hb:PE X b tb)(hm:behindInMarks op b=false):PT X (.Compare a [op] [b] pos) (ZHS (tOp r ta tb)):=by
 intro pins s σ H Q I h;refine wpAny_isTrue_Compare1 (thn (ha pins s σ H _ I h) λ v s1 ⟨x,H1,I1,r1,q1⟩=>thn (hb pins s1 σ H1 _ I1 q1) λ u s2 ⟨y,H2,I2,r2,q2⟩ =>
  thn (ho pins s2 σ H2 x y v u _ I2 r1 r2 q2) λc s3 ⟨z,H3,I3,r3,k,e,q3⟩=>?_) hm
 subst e;cases r3;exact wpAny_truthy_bool ⟨H3,I3,q3⟩
def ZHR(r r':R2)(ta tb tc:TE):TE:=λσ H Q=>ta σ H λx H1=>tb σ H1 λy H2=>r x y H2 λz H3=>∃k,z=.bl k /\
 (if k=true then tc σ H3 λw' H4=>r' y w' H4 Q else Q (.bl false) H3)
theorem ZIW{op op':CmpOp}{r r':R2}(ho:OpR X (compareOp op) r)(ho':OpR X (compareOp op') r')(ha:PE X a ta)(hb:PE X b tb)(hc:PE X c tc)
  (hm:lastMarks [op,op'] [b,c]=false:=by with_unfolding_all rfl):PT X (.Compare a [op,op'] [b,c] pos) (ZHS (ZHR r r' ta tb tc)):=by
 intro pins s σ H Q I h;refine isTrue_chain (thn (ha pins s σ H _ I h) λ v s1 ⟨x,H1,I1,r1,q1⟩=>test_link (thn (hb pins s1 σ H1 _ I1 q1) λ u s2 ⟨y,H2,I2,r2,q2⟩ =>
  thn (ho pins s2 σ H2 x y v u _ I2 r1 r2 q2) λd s3 ⟨z,H3,I3,r3,k,e,q3⟩=>?_)) hm
 subst e;cases r3;refine wpAny_truthy_bool ?_;cases k with
 |false =>
  obtain⟨k',e',q'⟩:=q3;cases e';exact ite_ff ⟨H3,I3,q'⟩
 |true =>
  refine ite_tt (test_last (thn (hc pins s3 σ H3 _ I3 q3) λw' s4 ⟨z',H4,I4,r4,q4⟩=>thn (ho' pins s4 σ H4 y z' u w' _ I4 r2 r4 q4) λd' s5 ⟨z2,H5,I5,r5,k2,e2,q5⟩=>?_));subst e2;cases r5;exact wpAny_truthy_bool ⟨H5,I5,q5⟩
theorem ZBx:(sizeLine:Nat)<2 ^ 63:=by rw[sizeLine_eq];decide
theorem ZFD:OpR X (binaryOp .Add) (λx y H Q=>∃i j,x=.str i/\y=.str j/\i.length+j.length<=sizeLine/\Q (.str (i++j)) H):=by
 intro pins s σ H x y v u Q I rx ry h;obtain⟨i,j,rfl,rfl,hz,q⟩:=h;obtain⟨t,rfl⟩:=rx;obtain⟨t',rfl⟩:=ry;exact add_str (λt' tk=>⟨.str (i++j),H,I.tok _,⟨_,rfl⟩,q⟩) hz
theorem ZAp{x:V}{us:List Value}(r:ZI [x] us):∃u,us=[u]/\ZS x u:=by
 cases r with
 |cons r1 r2=>cases r2;exact⟨_,rfl,r1⟩
theorem ZH1{x y:V}{us:List Value}(r:ZI [x,y] us):∃u w',us=[u,w']/\ZS x u/\ZS y w':=by
 cases r with
 |cons r1 r2 =>
  cases r2 with
  |cons r3 r4=>cases r4;exact⟨_,_,rfl,r1,r3⟩
theorem ZHy:ZJ X (.builtin "abs") (λxs H Q=>∃i,xs=[.int i]/\Q (.int (if i<0 then -i else i)) H):=by
 intro pins s σ H xs us Q I r h;obtain⟨i,rfl,q⟩:=h;obtain⟨u,rfl,t,rfl⟩:=ZAp r;exact call_abs_int λu tk=>⟨.int (if i<0 then -i else i),H,I.tok _,⟨_,rfl⟩,q⟩
theorem ZGX(hc:X.calm=true):ZJ X (.builtin "max") (λxs H Q=>∃i j,xs=[.int i,.int j]/\Q (.int (if j > i then j else i)) H):=by
 intro pins s σ H xs us Q I r h;obtain⟨i,j,rfl,q⟩:=h;obtain⟨u,w',rfl,⟨t,rfl⟩,⟨t',rfl⟩⟩:=ZH1 r;refine max_two_ints (I.ok.hd hc) λh' tk k=>⟨_,H,I.kept k,?_,q⟩
 by_cases hj:j > i
 ·rw[if_pos hj,if_pos hj];exact⟨_,rfl⟩
 ·rw[if_neg hj,if_neg hj];exact⟨_,rfl⟩
theorem ZGW(hc:X.calm=true):ZJ X (.builtin "min") (λxs H Q=>∃i j,xs=[.int i,.int j]/\Q (.int (if j<i then j else i)) H):=by
 intro pins s σ H xs us Q I r h;obtain⟨i,j,rfl,q⟩:=h;obtain⟨u,w',rfl,⟨t,rfl⟩,⟨t',rfl⟩⟩:=ZH1 r;refine min_two_ints (I.ok.hd hc) λh' tk k=>⟨_,H,I.kept k,?_,q⟩
 by_cases hj:j<i
 ·rw[if_pos hj,if_pos hj];exact⟨_,rfl⟩
 ·rw[if_neg hj,if_neg hj];exact⟨_,rfl⟩
theorem ZGI:ZJ X (.type "int") (λxs H Q=>(∃i,xs=[.int i]/\Q (.int i) H)∨∃k,xs=[.bl k]/\Q (.int (if k then 1 else 0)) H):=by
 intro pins s σ H xs us Q I r h;rcases h with ⟨i,rfl,q⟩|⟨k,rfl,q⟩
 ·obtain⟨u,rfl,t,rfl⟩:=ZAp r
  exact call_int_int ⟨.int i,H,I,⟨_,rfl⟩,q⟩
 ·obtain⟨u,rfl,r1⟩:=ZAp r
  cases r1;exact call_int_bool ⟨.int (if k then 1 else 0),H,I.tok _,⟨_,rfl⟩,q⟩
theorem ZEB:ZJ X (.type "str") (λxs H Q=>∃i,xs=[.int i]/\i.natAbs.log2<1920/\Q (.str (toString i)) H):=by
 intro pins s σ H xs us Q I r h;obtain⟨i,rfl,hz,q⟩:=h;obtain⟨u,rfl,t,rfl⟩:=ZAp r;exact PySem.P.str_of_int hz ⟨.str _,H,I.tok _,⟨_,rfl⟩,q⟩
end
structure Room (k:Nat) (A:Around):Prop where
 hd:A.handled=none
 dp:A.depth+3*k+5<recursionLimit
 un:A.units+16*k+200<cLine
 gd:A.guards=some []
theorem Room.mono{j k:Nat}{A:Around}(r:Room k A)(h:j<=k):Room j A:=⟨r.hd,by have:=r.dp;omega,by have:=r.un;omega,r.gd⟩
theorem Room.deeper{k:Nat}{A:Around}(r:Room (k+1) A)(env:Env):Room k (A.deeper env) :=
 ⟨r.hd,by have:=r.dp;show A.depth+1+3*k+5<_;omega,by have:=r.un;show A.units+3+16*k+200<_;omega,r.gd⟩
theorem Room.depth{k:Nat}{A:Around}(r:Room k A):A.depth<recursionLimit:=by have:=r.dp;omega
theorem Room.units{k:Nat}{A:Around}(r:Room k A):A.units+64<cLine:=by have:=r.un;omega
def tNil:TA:=λ_ H Q=>Q [] H
def tCons(ta:TE)(tr:TA):TA:=λσ H Q=>ta σ H λx H1=>tr σ H1 λxs H2=>Q (x::xs) H2
section
variable{X:Cx}{e:Expr}{es:List Expr}{te:TE}{t:TA}{pos:Pos}
theorem ZKo:PA X [] tNil:=λ_ _ _ _ H Q I h=>Calls.spliced_nil ⟨[],H,I,.nil,h⟩
theorem ZIp(ha:PE X e te)(hr:PA X es t)(hs:starEach (e::es) X.env=(false,eval e X.env)::starEach es X.env:=by rfl):PA X (e::es) (tCons te t):=by
 intro pos pins s σ H Q I h;rw[hs];show wpAny _ _ (spliced ((false,eval e X.env)::backTo pos (starEach es X.env))) _ _ s;refine Calls.spliced_cons (thn (ha pins s σ H _ I h) λu s1 ⟨x,H1,I1,r1,q1⟩=>?_);exact thn (hr pos pins s1 σ H1 _ I1 q1) λus s2 ⟨xs,H2,I2,r2,q2⟩=>⟨x::xs,H2,I2,.cons r1 r2,q2⟩
def tTup(t:TA):TE:=λσ H Q=>t σ H λxs H1=>xs.length<=sizeLine/\∀p,H1 p=none->Q (.ref p) (upd H1 p (.tup xs))
def tLst(t:TA):TE:=λσ H Q=>t σ H λxs H1=>xs.length<=sizeLine/\∀p,H1 p=none->Q (.ref p) (upd H1 p (.lst xs))
theorem ZKM{x1}(h:PA X es t):PE X (.Tuple es x1 pos) (tTup t):=by
 intro pins s σ H Q I hq;refine wpAny_Tuple_spliced (thn (h pos pins s σ H _ I hq) λus s1 ⟨xs,H1,I1,r,z,q⟩=>⟨by rw[←r.length];exact z,?_⟩);have hf:H1 s1.heap.objs.size=none:=I1.hok.fresh (le_refl _);refine⟨.ref s1.heap.objs.size,upd H1 s1.heap.objs.size (.tup xs),I1.laid (t':=s1.toks) (λb u e=>get?_push_of_some _ e) (le_refl _) ?_,rfl,q _ hf⟩;exact⟨z,us,r,⟨_,get?_push_size _ rfl,rfl,_,rfl⟩⟩
theorem ZFU(h:PA X es t):PE X (.List es pos) (tLst t):=by
 intro pins s σ H Q I hq;refine wpAny_List_spliced (thn (h pos pins s σ H _ I hq) λus s1 ⟨xs,H1,I1,r,z,q⟩=>⟨by rw[←r.length];exact z,?_⟩);have hf:H1 s1.heap.objs.size=none:=I1.hok.fresh (le_refl _);refine⟨.ref s1.heap.objs.size,upd H1 s1.heap.objs.size (.lst xs),I1.laid (t':=s1.toks) (λb u e=>get?_push_of_some _ e) (le_refl _) ?_,rfl,q _ hf⟩;exact⟨z,us,0,r,get?_push_size _ rfl⟩
end
abbrev Sp:=List V->Hp->VK->XK->Prop
abbrev CXT:=List Env->Hp->Shared->XK->Value->Shared->Prop
structure Env0 (P:Program) (w:World) (K:PySem.W.Frag) (mg:Str->Option Value) (base:Heap) (A:Around) (outer:List Env) (s:Shared) (H:Hp):Prop where
 frames:A.frames=some outer
 mod:Mod K mg base
 bs:∀b o,base.get? b=some o->s.heap.get? b=some o/\H b=none
 bsz:base.objs.size<=s.heap.objs.size
 funs:s.heap.FunFrames base outer
 frf:∀b∈frs outer,H b=none
 hok:HOk P w H s.heap
 bare:AllBare s.gens
def CE(outer:List Env)(P:Program)(w:World)(H:Hp)(s:Shared)(Q:VK)(u:Value)(s':Shared):Prop :=
 ∃v H',s'.os=s.os/\AllBare s'.gens/\Un (frs outer) [] H H' s.heap s'.heap/\HOk P w H' s'.heap/\ZS v u/\Q v H'
def CR(CX:CXT)(outer:List Env)(P:Program)(w:World)(H:Hp)(s:Shared)(Q:VK)(E:XK)(r:Result)(s':Shared):Prop :=
 match r with
 |.ok (.ret u)=>CE outer P w H s Q u s'
 |.ok _=>False
 |.error e=>CX outer H s E e s'
structure FnOk (P:Program) (w:World) (K:PySem.W.Frag) (mg:Str->Option Value) (base:Heap) (CX:CXT) (k:Nat) (f:Addr) (fd:FuncData) (ps:List Str) (sp:Sp):Prop where
 len:∀vs H Q E,sp vs H Q E->vs.length=ps.length
 run:∀(A:Around) (outer:List Env) (s:Shared) (H:Hp) (args:Args) (us:List Value) (vs:List V) (Q:VK) (E:XK),Room k A->Env0 P w K mg base A outer s H->BindsTo s fd args (ps.zip us)->ZI vs us->sp vs H Q E ->
  codeAny (model P w) A (.call (.ref f) args) (CR CX outer P w H s Q E) s
theorem FnOk.imp{P:Program}{w:World}{K:PySem.W.Frag}{mg:Str->Option Value}{base:Heap}{CX:CXT}{k:Nat}{f:Addr}{fd:FuncData}{ps:List Str}{sp sp':Sp}(F:FnOk P w K mg base CX k f fd ps sp)
  (h:∀vs H Q E,sp' vs H Q E->sp vs H Q E):FnOk P w K mg base CX k f fd ps sp' :=
 ⟨λvs H Q E q=>F.len vs H Q E (h _ _ _ _ q),λA outer s H args us vs Q E hr he hb hv hs=>F.run A outer s H args us vs Q E hr he hb hv (h _ _ _ _ hs)⟩
section
variable{X:Cx}{pins:List (Addr×Obj)}{σ : St}{H:Hp}{s s':Shared}
theorem Inv.env0(I:Inv X pins σ H s):Env0 X.prog X.w X.K X.mg X.base X.A X.stack s H :=
 ⟨I.ok.frames,I.ok.mod,I.bs,le_trans I.ok.bsz I.sz,I.stack,I.stkFree,I.hok,I.bare⟩
theorem Inv.after{Q:VK}{u:Value}(I:Inv X pins σ H s)(h:CE X.stack X.prog X.w H s Q u s'):EP X pins σ Q u s':=by
 obtain⟨v,H',os,bare,un,hok,r,q⟩:=h;obtain⟨hh,g,d,t,os'⟩:=s';obtain rfl:os'=s.os:=os;exact⟨v,H',I.call (h':=hh) (g':=g) (d':=d) (t':=t) (ch:=[]) un hok bare (λb z=>absurd z (by simp)),r,q⟩
end
def ZKC(sp:Sp)(dvs:List V)(E:XK)(t:TA):TE:=λσ H Q=>t σ H λvs H1=>sp (vs++dvs) H1 Q E
def ZDf(K:PySem.W.Frag)(fd:FuncData)(ps:List Str)(ds:List Value):Prop :=
 ∀(s:Shared) (us:List Value),K.In s.heap->(us++ds).length=ps.length->BindsTo s fd ⟨us,[]⟩ (ps.zip (us++ds))
theorem ZDf.all{K:PySem.W.Frag}{fd:FuncData}{ps:List Str}(h:∀us:List Value,us.length=ps.length->bindArgs fd ⟨us,[]⟩=pure (ps.zip us)):ZDf K fd ps []:=λs us _ hl=>by
 rw[append_nil] at hl ⊢;exact .of_eq (h us hl)
def ZFK(CX:CXT)(X:Cx)(E:XK):Prop:=∀(pins:List (Addr×Obj)) (σ : St) (H:Hp) (s:Shared) (e:Value) (s':Shared),Inv X pins σ H s->CX X.stack H s E e s'->X.xe e s'
section
variable{X:Cx}{CX:CXT}{k:Nat}{f C:Addr}{fd:FuncData}{ps:List Str}{sp:Sp}{dvs:List V}{ds:List Value}{E:XK}{x m:Str}{p pos apos:Pos}{e o:Expr}{es:List Expr}{ta:TE}{t:TA}
theorem ZLl{pins:List (Addr×Obj)}{σ : St}{H:Hp}{s:Shared}{Q:VK}{us:List Value}{vs:List V}(F:FnOk X.prog X.w X.K X.mg X.base CX k f fd ps sp)(hr:Room k X.A)(hb:ZDf X.K fd ps ds)(hd:ZI dvs ds)(hx:ZFK CX X E)
  (I:Inv X pins σ H s)(r:ZI vs us)(h:sp (vs++dvs) H Q E):wpAny (model X.prog X.w) X.A (call (.ref f) us) (EP X pins σ Q) X.xe s:=by
 have r2:ZI (vs++dvs) (us++ds):=r.append hd;have hl:(us++ds).length=ps.length:=by rw[←r2.length];exact F.len _ _ _ _ h
 refine wpAny_call (codeAny_mono (F.run X.A X.stack s H ⟨us,[]⟩ (us++ds) (vs++dvs) Q E hr I.env0 (hb s us I.kIn hl) r2 h) λr s' hq=>?_);cases r with
 |error e=>exact hx pins σ H s e s' I hq
 |ok fl =>
  cases fl with
  |ret u=>exact I.after hq
  |next=>exact False.elim hq
  |brk=>exact False.elim hq
  |cont=>exact False.elim hq
theorem ZJN(F:FnOk X.prog X.w X.K X.mg X.base CX k f fd ps sp)(hr:Room k X.A)(hg:Gl X x)(hm:X.mg x=some (.ref f))(hk:PySem.W.keepIn X.K (.ref f)=true)(hb:ZDf X.K fd ps ds)(hd:ZI dvs ds)(hx:ZFK CX X E)
  (ha:PA X (e::es) t)(hdb:(x == ("__debug__" : Str))=false:=by decide)(he:starEach (e::es) X.env=(false,eval e X.env)::starEach es X.env:=by rfl)(hpl:(backTo pos (starEach es X.env)).any (·.1)=false:=by rfl) :
  PE X (.Call (.Name x p) (e::es) [] pos) (ZKC sp dvs E t):=by
 intro pins s σ H Q I h;refine wpAny_Call_Name_kw (ZFm I hg hm ?_ hdb);refine PySem.W.callWith_K (h₀:=X.base) I.ok.mod.kin hk (thn (ha pos pins s σ H _ I h) λus s1 ⟨vs,H1,I1,r,q⟩=>⟨I1.kIn,?_⟩) he hpl;exact ZLl F hr hb hd hx I1 r q
end
structure FnScope (N P:List Str) (sc:Scope):Prop where
 kind:sc.kind=.function
 co:sc.isCoroutine=false
 gen:sc.isGenerator=false
 nd:N.Nodup
 pre:N.take P.length=P
 par:∀x∈P,sc.names.lookup x=some .local∨sc.names.lookup x=some .cell
 nofree:∀y∈sc.names,y.2≠.free
theorem ZDn{kindOf:Str->Option NameKind}{x:Str}:∀{binds:List (Str×Value)} {m:Str->Option Value},(∀v,(x,v)∉binds)->bindL kindOf binds m x=m x
 |[],_,_=>rfl
 |(n,v)::r,m,h=>by
  unfold bindL;rw[ZDn λw hw=>h w (mem_cons_of_mem _ hw)]
  split
  ·have:x≠n:=by rintro rfl;exact h v mem_cons_self
   simp[this]
  ·rfl
theorem ZDU{kindOf:Str->Option NameKind}{x:Str}:∀{binds:List (Str×Value)} {m:Str->Option Value},(∀v,(x,v)∉binds)->bindC kindOf binds m x=m x
 |[],_,_=>rfl
 |(n,v)::r,m,h=>by
  unfold bindC;rw[ZDU λw hw=>h w (mem_cons_of_mem _ hw)]
  split
  ·rfl
  ·have:x≠n:=by rintro rfl;exact h v mem_cons_self
   simp[this]
theorem ZDk{kindOf:Str->Option NameKind}{x:Str}{v:Value}:∀{P:List Str} {vs:List Value} {i:Nat} {m:Str->Option Value},P.Nodup->P[i]? = some x->vs[i]? = some v->kindOf x=some .local ->
  bindL kindOf (P.zip vs) m x=some v
 |[],_,_,_,_,h,_,_=>by simp at h
 |_::_,[],_,_,_,_,h,_=>by simp at h
 |p::P,w::vs,0,m,nd,h1,h2,hk=>by
  simp at h1 h2;subst h1;subst h2;show bindL kindOf ((p,w)::P.zip vs) m p=_;unfold bindL;rw[ZDn λv hv=>(List.nodup_cons.mp nd).1 (of_mem_zip hv).1,if_pos hk];simp
 |p::P,w::vs,i+1,m,nd,h1,h2,hk=>by
  show bindL kindOf ((p,w)::P.zip vs) m x=_;unfold bindL;exact ZDk (i:=i) (List.nodup_cons.mp nd).2 (by simpa using h1) (by simpa using h2) hk
theorem ZDm{kindOf:Str->Option NameKind}{x:Str}{v:Value}:∀{P:List Str} {vs:List Value} {i:Nat} {m:Str->Option Value},P.Nodup->P[i]? = some x->vs[i]? = some v->kindOf x≠some .local ->
  bindC kindOf (P.zip vs) m x=some v
 |[],_,_,_,_,h,_,_=>by simp at h
 |_::_,[],_,_,_,_,h,_=>by simp at h
 |p::P,w::vs,0,m,nd,h1,h2,hk=>by
  simp at h1 h2;subst h1;subst h2;show bindC kindOf ((p,w)::P.zip vs) m p=_;unfold bindC;rw[ZDU λv hv=>(List.nodup_cons.mp nd).1 (of_mem_zip hv).1,if_neg hk];simp
 |p::P,w::vs,i+1,m,nd,h1,h2,hk=>by
  show bindC kindOf ((p,w)::P.zip vs) m x=_;unfold bindC;exact ZDm (i:=i) (List.nodup_cons.mp nd).2 (by simpa using h1) (by simpa using h2) hk
def ZBq(N:List Str)(vs:List V):St:=vs.map some++List.replicate (N.length-vs.length) none
def ZEw(CX:CXT)(P:Program)(w:World)(K:PySem.W.Frag)(mg:Str->Option Value)(base:Heap)(N:List Str)(qual:Str)(scope:Scope)(f:Addr)(cd:Value)(A:Around)(outer:List Env)(s:Shared)(H:Hp)(E:XK):Cx where
 prog:=P
 w:=w
 K:=K
 mg:=mg
 base:=base
 A:=A.deeper (envOfC qual scope s.heap.objs.size f cd)
 N:=N
 s₀:=s
 H₀:=H
 env:=envOfC qual scope s.heap.objs.size f cd
 outer:=outer
 stack:=envOfC qual scope s.heap.objs.size f cd::outer
 ex:=[]
 calm:=true
 fn:=λ_=>true
 pn:=[]
 xe:=λe s'=>wpAny (model P w) (A.deeper (envOfC qual scope s.heap.objs.size f cd)) (leaving (envOfC qual scope s.heap.objs.size f cd) e) (λ_ s''=>CX outer H s E e s'') (λe' s''=>CX outer H s E e' s'') s'
theorem ZEv{sc:Scope}{n:Nat}{x:Str}(h:sc.names.lookup x=some .cell):∃c,(cellsFrom n sc.names []).lookup x=some c:=by
 have q:=PySem.W.cellsFrom_some sc.names n [] (.inl h);exact Option.isSome_iff_exists.mp q
theorem ZGd{CX:CXT}{P:Program}{w:World}{K:PySem.W.Frag}{mg:Str->Option Value}{base:Heap}{N ps:List Str}{qual:Str}{scope:Scope}{f:Addr}{cd:Value}{A:Around}{outer:List Env}{s s1:Shared}{H:Hp}{E:XK}{us:List Value}{vs:List V}
  (S:FnScope N ps scope)(hd:A.handled=none)(e0:Env0 P w K mg base A outer s H)(hl:vs.length=ps.length)(r:ZI vs us)
  (x:InCallC s s.heap.objs.size (bindL (envOfC qual scope s.heap.objs.size f cd).kindOf (ps.zip us) λ_=>none) (cellsFrom (s.heap.objs.size+1) scope.names []) (bindC (envOfC qual scope s.heap.objs.size f cd).kindOf (ps.zip us) λ_=>none) s1) :
  Inv (ZEw CX P w K mg base N qual scope f cd A outer s H E) [] (ZBq N vs) H s1:=by
 have hpl:ps.length<=N.length:=by have:=congrArg List.length S.pre;rw[length_take] at this;omega
 obtain⟨h1,tk,rfl,hk⟩:=x.done;have noA:∀b:Addr,b∉(ZEw CX P w K mg base N qual scope f cd A outer s H E).ex:=λb z=>absurd (show b∈([]:List Addr) from z) (by simp)
 refine⟨⟨e0.mod,S.kind,rfl,rfl,le_refl _,λy z c h1 h2=>?_,λy hy=>?_,λy c _ h=>?_,λ_=>hd,Around.frames_deeper e0.frames,.inr ⟨rfl,rfl⟩,λb z=>absurd z (noA b),e0.bs,e0.bsz,λb _ _=>noA b,λb z=>absurd z (noA b),e0.funs,e0.frf⟩,
  rfl,e0.bare,Un.kept hk,⟨_,x.toInCall.ns,λi y v h1 h2 h3=>?_⟩,λy c h=>⟨_,x.cell y c h⟩,e0.hok.fresh (le_refl _),λy c h=>?_,λp hp=>absurd (show p∈([]:List (Addr×Obj)) from hp) (by simp),e0.hok.kept hk,?_⟩
 ·exact name_of_addr x.apart (PySem.mem_of_lookup h1) (PySem.mem_of_lookup h2)
 ·have hy:scope.names.lookup y=some .cell∨scope.names.lookup y=some .free:=hy
  rcases hy with hy|hy
  ·exact ZEv hy
  ·exact absurd rfl (S.nofree _ (PySem.mem_of_lookup hy))
 ·exact le_of_lt (x.above y c (PySem.mem_of_lookup h))
 ·have hi:i<vs.length:=by
   unfold ZBq at h2
   by_cases hi:i<vs.length
   ·exact hi
   ·rw[getElem?_append_right (by simpa using hi)] at h2
    rw[getElem?_replicate] at h2
    split at h2 <;> cases h2
  have ha:vs[i]? = some v:=by
   unfold ZBq at h2;rw[getElem?_append_left (by simpa using hi),getElem?_map] at h2;cases e:vs[i]? with
   |none=>rw[e] at h2;cases h2
   |some a=>rw[e] at h2;cases h2;rfl
  obtain⟨u,hu,rv⟩:=r.get ha;have hp:ps[i]? = some y:=by
   rw[←S.pre,List.getElem?_take_of_lt (by omega)];exact h1
  have ndP:ps.Nodup:=by rw[←S.pre];exact S.nd.sublist (List.take_sublist _ _)
  refine⟨u,rv,?_⟩;rcases S.par y (mem_of_getElem? hp) with k|k
  ·exact .inl ⟨k,ZDk ndP hp hu k⟩
  ·obtain⟨c,e⟩:=ZEv (n:=s.heap.objs.size+1) k
   refine .inr ⟨.inl k,c,e,?_⟩;have q:=x.cell y c e;rw[ZDm ndP hp hu (by show scope.names.lookup y≠_;rw[k];decide)] at q;exact q
 ·exact e0.hok.fresh (le_of_lt (x.above y c (PySem.mem_of_lookup h)))
 ·unfold ZBq
  show _=N.length;rw[length_append,length_map,length_replicate];omega
theorem fn_of{CX:CXT}{P:Program}{w:World}{K:PySem.W.Frag}{mg:Str->Option Value}{base:Heap}{k:Nat}{f:Addr}{name qual:Str}{params:Arguments}{body:List Stmt}{scope:Scope}{dV kV doc pm cdv ct oc:Value}{an od:Option Addr}
  {osl:Array (Option Value)}{N ps:List Str}{sp:Sp}(lk:K.lookup f=some ⟨oc,od,.func (PySem.W.fnOf name qual params body scope dV kV doc pm an cdv ct),osl⟩)(hcd:PySem.W.codeIn K cdv qual=true)(S:FnScope N ps scope)
  (len:∀vs H Q E,sp vs H Q E->vs.length=ps.length)
  (hbody:∀ (A:Around) (outer:List Env) (s:Shared) (H:Hp) (vs:List V) (Q:VK) (E:XK),Room k (A.deeper (envOfC qual scope s.heap.objs.size f cdv))->sp vs H Q E ->
   ∃t,PSs (ZEw CX P w K mg base N qual scope f cdv A outer s H E) body t/\t { nx:=λ_ H'=>Q .non H',rt:=Q } (ZBq N vs) H) :
  FnOk P w K mg base CX (k+1) f (PySem.W.fnOf name qual params body scope dV kV doc pm an cdv ct) ps sp:=by
 refine⟨len,λA outer s H args us vs Q E hr e0 hb r hsp=>?_⟩;have hl:=len _ _ _ _ hsp;have KX:K.In s.heap:=e0.mod.kin.keeps λb o e=>(e0.bs b o e).1
 have lim:s.heap.NoLimit:=e0.mod.nolimit.keeps λb o e=>(e0.bs b o e).1
 have hkind:∀y∈ps.zip us,scope.names.lookup y.1=some .local∨(scope.names.lookup y.1=some .cell/\((cellsFrom (s.heap.objs.size+1) scope.names []).lookup y.1).isSome=true):=λ⟨n,v⟩ hy=>by
  rcases S.par n (of_mem_zip hy).1 with q|q
  ·exact .inl q
  ·exact .inr ⟨q,PySem.W.cellsFrom_some _ _ _ (.inl q)⟩
 refine codeAny_call_function hr.depth (KX _ _ lk) rfl S.co S.gen rfl (PySem.W.codeRec_of KX hcd) (hb _ _ _ _ ?_);refine wpAny_newFunctionEnv_cells S.kind hkind λenv he s1 x=>?_
 subst he;refine⟨lim.keeps x.toInCall.keep,codeAny_func ?_⟩;obtain⟨t,ht,hq⟩:=hbody A outer s H vs Q E (hr.deeper _) hsp;have I:Inv (ZEw CX P w K mg base N qual scope f cdv A outer s H E) [] (ZBq N vs) H s1:=ZGd S hr.hd e0 hl r x;refine wpAny_mono (ht [] s1 (ZBq N vs) H _ I hq) (λfl s' hs=>?_) λe s' hs=>hs
 have fin:∀{σ':St} {H':Hp} {v:V} {u:Value},Inv (ZEw CX P w K mg base N qual scope f cdv A outer s H E) [] σ' H' s'->ZS v u->Q v H'->CE outer P w H s Q u s' :=
  λ{σ' H' v u} J rv q=>⟨v,H',J.os,J.bare,J.base,J.hok,rv,q⟩
 cases fl with
 |ret u =>
  obtain⟨v,σ',H',J,rv,q⟩:=hs;exact fin J rv q
 |next =>
  obtain⟨σ',H',J,q⟩:=hs;exact fin (v:=V.non) (u:=Value.none) J rfl q
 |brk =>
  obtain⟨_,_,_,q⟩:=hs;exact False.elim q
 |cont =>
  obtain⟨_,_,_,q⟩:=hs;exact False.elim q
section
variable{X:Cx}{x:Str}{p pos:Pos}{e:Expr}{es:List Expr}{t:TA}{id T:String}{r:List V->Hp->VK->Prop}
def tCB(r:List V->Hp->VK->Prop)(t:TA):TE:=λσ H Q=>t σ H λvs H1=>r vs H1 Q
theorem ZHo(hc:ZJ X (.builtin id) r)(hg:Gl X x)(hm:X.mg x=none)(hv:bootBuiltins x=some (.builtin id))(ha:PA X (e::es) t)(hn:x≠"__name__":=by decide)(hdb:(x == ("__debug__" : Str))=false:=by decide)
  (he:starEach (e::es) X.env=(false,eval e X.env)::starEach es X.env:=by rfl)(hpl:(backTo pos (starEach es X.env)).any (·.1)=false:=by rfl):PE X (.Call (.Name x p) (e::es) [] pos) (tCB r t):=by
 intro pins s σ H Q I h;refine wpAny_Call_Name_kw (ZCY I hg hm hv ?_ hn hdb);exact PyProof.Rows.callWith_builtin1 (thn (ha pos pins s σ H _ I h) λus s1 ⟨vs,H1,I1,r1,q1⟩=>hc pins s1 σ H1 vs us Q I1 r1 q1) he hpl
theorem ZGT(hc:ZJ X (.type T) r)(hg:Gl X x)(hm:X.mg x=none)(hv:bootBuiltins x=some (.type T))(ha:PA X (e::es) t)(hn:x≠"__name__":=by decide)(hdb:(x == ("__debug__" : Str))=false:=by decide)
  (he:starEach (e::es) X.env=(false,eval e X.env)::starEach es X.env:=by rfl)(hpl:(backTo pos (starEach es X.env)).any (·.1)=false:=by rfl):PE X (.Call (.Name x p) (e::es) [] pos) (tCB r t):=by
 intro pins s σ H Q I h;refine wpAny_Call_Name_kw (ZCY I hg hm hv ?_ hn hdb);exact PyProof.Rows.callWith_type1 (thn (ha pos pins s σ H _ I h) λus s1 ⟨vs,H1,I1,r1,q1⟩=>hc pins s1 σ H1 vs us Q I1 r1 q1) he hpl
end
end L2
namespace HT
open PySem PyProof.Rows
def lexLt:List Int->List Int->Bool
 |[],[]=>false
 |[],_::_=>true
 |_::_,[]=>false
 |x::xs,y::ys=>if x=y then lexLt xs ys else decide (x<y)
theorem ZE9(x y:Int)(xs ys:List Int):lexLt (x::xs) (y::ys)=if x=y then lexLt xs ys else decide (x<y):=rfl
theorem ZDO:lexLt [] []=false:=rfl
theorem ZCo(y:Int)(ys:List Int):lexLt [] (y::ys)=true:=rfl
theorem ZC2(x:Int)(xs:List Int):lexLt (x::xs) []=false:=rfl
theorem ZCp(A:Around)(s:Shared)(a:Int)(t:Tok)(c:Int)(u:Tok):∃e,SeqAt.EqAt A s (.int a t) (.int c u) e/\(e=true ↔ a=c) :=
 ⟨(a == c),SeqAt.EqAt.int_int a t c u,by simp⟩
theorem ZHA(A:Around)(s:Shared)(a:Int)(t:Tok)(c:Int)(u:Tok)(prog:Program)(w:World)(E:Value->Shared->Prop)(Q:Value->Shared->Prop)(h:Q (.bool (decide (a<c))) s) :
  wpAny (model prog w) A (richCompare .Lt (.int a t) (.int c u)) Q E s :=
 (PyProof.Rows.lt_int h:wpAny (model prog w) A (compareOp .Lt (.int a t) (.int c u)) Q E s)
section
open PySem.SeqAt
open PySem.AutoSeq1 (wpAny_loadPart')
open PySem.MeetsSeq PySem.MeetsSeq2 PySem.MeetsSeq3
theorem ZDB(l b:Addr)(items items2:Array Value)(n n2:Nat)(dd dd2:Option Addr)(sl sl2:Array (Option Value))(ns ms:List Int)(hi:IntsAre items.toList ns)(hj:IntsAre items2.toList ms) :
  Meets (Builtin.«tuple.__lt__» ⟨[.ref l,.ref b],[]⟩)
   (λ _ R s=>s.heap.get? l=some { cls:=.type "tuple",dict:=dd,data:=.seq items n,slots:=sl }/\s.heap.get? b=some { cls:=.type "tuple",dict:=dd2,data:=.seq items2 n2,slots:=sl2 } /\
    R (.ok (.ret (.bool (lexLt ns ms)))) s) :=
 .of_wp λprog w A R s h=>by
  obtain⟨hp,g,d,tk,os⟩:=s;obtain⟨hl,hb,h⟩:=h;have f2:=AutoSeq1.sub_tuple_tuple;have z1:items.size=ns.length:=by rw[←hi.length];simp
  have z2:items2.size=ms.length:=by rw[←hj.length];simp
  wp_walk using wpAny_loadPart' hl,wpAny_loadPart' hb,wpAny_forIn_list _ (λ rest b s'=>b.1=none/\s'=⟨hp,g,d,tk,os⟩/\∃ (vs ws:List Value) (ns' ms':List Int),rest=vs.zip ws /\
   IntsAre vs ns'/\IntsAre ws ms'/\ns'.length+items2.size=ms'.length+items.size/\R (.ok (.ret (.bool (lexLt ns' ms')))) ⟨hp,g,d,tk,os⟩) _
  case turn =>
   rintro ⟨y,x⟩ rest b s' ⟨hb',rfl,vs,ws,ns',ms',hz,hvi,hwi,hlen,hR⟩
   cases hvi with
   |nil=>rw[zip_nil_left] at hz;cases hz
   |cons a t hvi' =>
    cases hwi with
    |nil=>rw[List.zip_nil_right] at hz;cases hz
    |cons c u hwi' =>
     rw[zip_cons_cons] at hz;injection hz with hyx hrest
     injection hyx with hy hx
     subst hy hx;rw[ZE9] at hR;simp only[length_cons] at hlen;obtain⟨e,he,hiff⟩:=ZCp A.in1 ⟨hp,g,d,tk,os⟩ a t c u;refine wpAny_bind (he prog w _ _ ?_);cases e with
     |true =>
      rw[if_pos (hiff.mp rfl)] at hR
      wp_walk
      exact⟨rfl,rfl,_,_,_,_,hrest,hvi',hwi',by omega,hR⟩
     |false =>
      rw[if_neg (λq=>absurd (hiff.mpr q) Bool.false_ne_true)] at hR;have hri:=ZHA A.in1 ⟨hp,g,d,tk,os⟩ a t c u prog w
      wp_walk using hri
      exact⟨_,rfl,by simpa using hR⟩
  case fin =>
   rintro ⟨b1,b2⟩ s' ⟨hb',rfl,vs,ws,ns',ms',hz,hvi,hwi,hlen,hR⟩
   simp only at hb';subst hb';have hv:lexLt ns' ms'=decide (items.size<items2.size):=by
    cases hvi with
    |nil =>
     cases hwi with
     |nil =>
      simp only[length_nil] at hlen;rw[ZDO];exact(decide_eq_false (by omega)).symm
     |cons c u hw =>
      simp only[length_nil,length_cons] at hlen;rw[ZCo];exact(decide_eq_true (by omega)).symm
    |cons a t hv =>
     cases hwi with
     |nil =>
      simp only[length_nil,length_cons] at hlen;rw[ZC2];exact(decide_eq_false (by omega)).symm
     |cons c u hw =>
      rw[zip_cons_cons] at hz;cases hz
   rw[hv] at hR
   wp_walk
   exact⟨_,rfl,by simpa [Builtin.Tuple.tupleCompareSizes] using hR⟩
  case h =>
   exact⟨rfl,rfl,items.toList,items2.toList,ns,ms,rfl,hi,hj,by omega,h⟩
end
section
variable{prog:Program}{w:World}{A:Around}{E:Value->Shared->Prop}{s:Shared}
theorem lt_tupInts{l b:Addr}{items items2:Array Value}{ns ms:List Int}{Q:Value->Shared->Prop}(hl:IsTup s.heap l items)(hb:IsTup s.heap b items2)(hi:IntsAre items.toList ns)(hj:IntsAre items2.toList ms)
  (hu:A.units<cLine)(h:Q (.bool (lexLt ns ms)) s):wpAny (model prog w) A (compareOp .Lt (.ref l) (.ref b)) Q E s:=by
 obtain⟨⟨cls,dd,data,sl⟩,ho,hc,n,hd⟩:=id hl;obtain⟨⟨cls2,dd2,data2,sl2⟩,ho2,hc2,n2,hd2⟩:=id hb;simp only at hc hd hc2 hd2;subst hc hd hc2 hd2;exact richCompare_meets_room (op:=.Lt) ⟨_,ho,rfl⟩ ⟨_,ho2,rfl⟩ PySem.F.slot_tuple_lt PySem.F.entry_tuple_lt (PySem.F.args_tuple_lt_2 _ _) (ZDB l b items items2 n n2 dd dd2 sl sl2 ns ms hi hj)
  ⟨ho,ho2,show Value.bool (lexLt ns ms)≠Value.notImplemented/\Q (.bool (lexLt ns ms)) s from ⟨(λx=>nomatch x),h⟩⟩ hu
theorem ZIZ{t b:Addr}{vs ws:List Value}{Q:Value->Shared->Prop}(ht:IsTup s.heap t vs.toArray)(hb:IsTup s.heap b ws.toArray)(hv:vs≠[])
  (h1:ws=[]->Q (.ref t) s)(h2:ws≠[]->Q (.ref s.heap.objs.size) { s with heap:=s.heap.push { cls:=.type "tuple",data:=.seq (vs++ws).toArray } })
  (hsz:vs.length+ws.length<=sizeLine):wpAny (model prog w) A (binaryOp .Add (.ref t) (.ref b)) Q E s:=by
 obtain⟨⟨cls,dd,data,sl⟩,ho,hc,n,hd⟩:=id ht;obtain⟨⟨cls2,dd2,data2,sl2⟩,ho2,hc2,n2,hd2⟩:=id hb;simp only at hc hd hc2 hd2;subst hc hd hc2 hd2;have e:vs.toArray++ws.toArray=(vs++ws).toArray:=by simp
 by_cases hw:ws=[]
 ·exact concat_meets ⟨_,ho,rfl⟩ ⟨_,ho2,rfl⟩ noFill_tuple_add seq_tuple_add PySem.F.slot_tuple_add PySem.F.entry_tuple_add (PySem.F.args_tuple_add_2 _ _)
   (tuple_addW1 t b vs.toArray ws.toArray n n2 dd dd2 sl sl2 (by simpa using hv) (by simp[hw])) ⟨ho,ho2,h1 hw⟩
 ·refine concat_meets ⟨_,ho,rfl⟩ ⟨_,ho2,rfl⟩ noFill_tuple_add seq_tuple_add PySem.F.slot_tuple_add PySem.F.entry_tuple_add (PySem.F.args_tuple_add_2 _ _)
   (tuple_addW2 t b vs.toArray ws.toArray n n2 dd dd2 sl sl2 (by simpa using hv) (by simpa using hw) (by rw[size_toArray,size_toArray];exact hsz)) ⟨ho,ho2,?_⟩
  rw[e];exact h2 hw
def sIx(n d:Nat):Option Int->Nat
 |none=>d
 |some v=>if v<0 then (v+(n:Int)).toNat else min v.toNat n
theorem sIx_none(n d:Nat):sIx n d none=d:=rfl
theorem sIx_nat(n d k:Nat):sIx n d (some (k:Int))=min k n:=by
 show(if (k:Int)<0 then ((k:Int)+(n:Int)).toNat else min (k:Int).toNat n)=min k n;rw[if_neg (by omega),toNat_natCast]
theorem ZK5(n d:Nat)(hd:d<=n)(o:Option Int):sIx n d o<=n:=by
 cases o with
 |none=>exact hd
 |some v =>
  show(if v<0 then (v+(n:Int)).toNat else min v.toNat n)<=n
  by_cases hv:v<0
  ·rw[if_pos hv];omega
  ·rw[if_neg hv];exact Nat.min_le_right _ _
theorem ZF2(v:Int)(n d:Nat):(if v<0 then max (v+(n:Int)) 0 else min v (n:Int))=((sIx n d (some v):Nat):Int):=by
 show(if v<0 then max (v+(n:Int)) 0 else min v (n:Int))=(((if v<0 then (v+(n:Int)).toNat else min v.toNat n):Nat):Int)
 by_cases hv:v<0
 ·simp only[if_pos hv];omega
 ·simp only[if_neg hv];omega
theorem ZFG(lo hi:Option Int)(n:Nat):Builtin.Slice.sliceAdjust lo hi 1 (n:Int)=(((sIx n 0 lo:Nat):Int),((sIx n n hi:Nat):Int)):=by
 have h1 : ¬((1:Int)<0):=by omega
 unfold Builtin.Slice.sliceAdjust;simp only[h1,if_false];refine Prod.ext ?_ ?_
 ·cases lo with
  |none=>rfl
  |some v=>exact ZF2 v n 0
 ·cases hi with
  |none=>rfl
  |some v=>exact ZF2 v n n
theorem ZE8(i j:Nat):Builtin.Slice.slicePlaces (i:Int) (j:Int) 1=j-i:=by
 unfold Builtin.Slice.slicePlaces;have h1:(1:Int) > 0:=by omega
 simp only[h1,if_true,Int.ediv_one]
 split <;> omega
theorem ZCf{v:Value}{o:Option Int}{Q:Option Int->Shared->Prop}(p:IsPart v o)(h:Q o s):wpAny (model prog w) A (Builtin.Slice.slicePartIndex v) Q E s:=by
 cases p with
 |none=>exact slicePart_none h
 |int i t=>exact slicePart_int h
theorem ZAo{sl:Addr}{vl vu:Value}{lo hi:Option Int}{n:Nat}{Q:Int×Int×Nat->Shared->Prop}(hs:s.heap.IsSliceOf sl vl vu .none)(pl:IsPart vl lo)(pu:IsPart vu hi)
  (h:Q (((sIx n 0 lo:Nat):Int),1,sIx n n hi-sIx n 0 lo) s):wpAny (model prog w) A (Builtin.Slice.sliceApplied (.ref sl) (pure (n:Int))) Q E s:=by
 obtain⟨os,hos,hcs,hds⟩:=id hs;unfold Builtin.Slice.sliceApplied Builtin.Slice.sliceFields;refine wpAny_bind (wpAny_bind (wpAny_field hos hds (x:=vl) rfl (wpAny_bind (wpAny_field hos hds (x:=vu) rfl (wpAny_bind (wpAny_field hos hds (x:=.none) rfl (wpAny_pure ?_)))))));refine wpAny_bind (slicePart_none ?_);show wpAny _ _ (if ((1:Int) == 0)=true then _ else _) _ _ s;rw[if_neg (by decide)];refine wpAny_bind (ZCf pl (wpAny_bind (ZCf pu (wpAny_bind (wpAny_pure ?_)))));show wpAny _ _ (match Builtin.Slice.sliceAdjust lo hi 1 (n:Int) with|(lo,hi)=>pure (lo,(1:Int),Builtin.Slice.slicePlaces lo hi 1)) _ _ s;rw[ZFG lo hi n];show wpAny _ _ (pure (((sIx n 0 lo:Nat):Int),(1:Int),Builtin.Slice.slicePlaces ((sIx n 0 lo:Nat):Int) ((sIx n n hi:Nat):Int) 1)) _ _ s;rw[ZE8];exact wpAny_pure h
theorem ZIB(xs:Array Value)(i k:Nat):((List.range k).filterMap λ(m:Nat)=>xs[((i:Int)+(m:Int)*1).toNat]?).toArray=((xs.toList.drop i).take k).toArray:=by
 have e:(λ(m:Nat)=>xs[((i:Int)+(m:Int)*1).toNat]?) = λm=>xs[i+m]?:=by
  funext m
  have:((i:Int)+(m:Int)*1).toNat=i+m:=by omega
  rw[this]
 rw[e];have:=pick_run xs i k;rw[List.filterMap_map] at this
 have e2:((λx=>xs[x]?) ∘ λx=>i+x) = λm=>xs[i+m]?:=rfl
 rw[e2] at this
 rw[this]
theorem getItem_tuple_cut{t sl:Addr}{items:Array Value}{vl vu:Value}{lo hi:Option Int}{Q:Value->Shared->Prop}(ht:IsTup s.heap t items)(hs:s.heap.IsSliceOf sl vl vu .none)(pl:IsPart vl lo)(pu:IsPart vu hi)
  (hw : ¬(sIx items.size 0 lo=0/\sIx items.size items.size hi=items.size))
  (h:Q (.ref s.heap.objs.size) { s with heap:=s.heap.push { cls:=.type "tuple",data:=.seq ((items.toList.drop (sIx items.size 0 lo)).take (sIx items.size items.size hi-sIx items.size 0 lo)).toArray } })
  (hsz:items.size<=sizeLine):wpAny (model prog w) A (getItem (.ref t) (.ref sl)) Q E s:=by
 have htake:sizeOk (.seq ((items.toList.drop (sIx items.size 0 lo)).take (sIx items.size items.size hi-sIx items.size 0 lo)).toArray):=by
  show((items.toList.drop (sIx items.size 0 lo)).take (sIx items.size items.size hi-sIx items.size 0 lo)).toArray.size<=sizeLine;rw[size_toArray,length_take,length_drop,Array.length_toList];omega
 have hj:sIx items.size items.size hi<=items.size:=ZK5 _ _ (le_refl _) hi;obtain⟨os,hos,hcs,hds⟩:=id hs;have hTs:s.TypeIs (.ref sl) "slice":=⟨os,hos,hcs⟩;unfold getItem
 try with_reducible refine wpAny_holding ?_
 first|refine wpAny_bind (wpAny_pure ?_)|skip
 refine wpAny_bind (wpAny_sequenceKey ht.typeIs (by decide) ?_);refine wpAny_bind (wpAny_callSpecial?_slot (name:=Str.ofString "__getitem__") ht.typeIs PyProof.Rows.slot_tuple_getitem
  (wpAny_call_entry PyProof.Rows.slot_tuple_getitem ht.typeIs entry_tuple_getitem ?_ (args_tuple_getitem _ _)))
 show wpAny _ _ (Builtin.Tuple.tupleItemsOf (.ref t) >>= _) _ _ s;refine wpAny_bind (tupleItemsOf_ ht ?_);refine wpAny_bind (wpAny_typeOf hTs ?_);rw[if_pos (by decide)];refine wpAny_bind (ZAo hs pl pu ?_);have hno : ¬((((sIx items.size 0 lo:Nat):Int) == 0 && (1:Int) == 1 && (sIx items.size items.size hi-sIx items.size 0 lo) == items.size)=true):=by
  intro q;rw[Bool.and_eq_true,Bool.and_eq_true] at q;have q1:((sIx items.size 0 lo:Nat):Int)=0:=eq_of_beq q.1.1;have q2:sIx items.size items.size hi-sIx items.size 0 lo=items.size:=eq_of_beq q.2;exact hw ⟨by omega,by omega⟩
 show wpAny _ _ (if (((sIx items.size 0 lo:Nat):Int) == 0 && (1:Int) == 1 && (sIx items.size items.size hi-sIx items.size 0 lo) == items.size)=true then _ else _) _ _ s;rw[if_neg hno,ZIB]
 first
  |exact wpAny_bind (m:=Builtin.Tuple.tupleExact _) (wpAny_newObj_type (wpAny_pure ⟨_,rfl,wpAny_pure h⟩) htake)
  |exact wpAny_bind (m:=Builtin.Tuple.tupleExact _) (wpAny_newObj_type (wpAny_bind (wpAny_pure (wpAny_pure ⟨_,rfl,wpAny_pure h⟩))) htake)
  |exact wpAny_bind (wpAny_bind (m:=Builtin.Tuple.tupleExact _) (wpAny_newObj_type (wpAny_pure (wpAny_pure ⟨_,rfl,wpAny_pure h⟩)) htake))
  |exact wpAny_bind (wpAny_bind (m:=Builtin.Tuple.tupleExact _) (wpAny_newObj_type (wpAny_pure ⟨_,rfl,wpAny_pure h⟩) htake))
end
end HT
namespace L2
open PySem PySem.Spec PyProof.Rows
abbrev TO:=St->Hp->(Option Int->Hp->Prop)->Prop
def PO(X:Cx)(e:Option Expr)(t:TO):Prop :=
 ∀(pins:List (Addr×Obj)) (s:Shared) (σ : St) (H:Hp) (Q:Option Int->Hp->Prop),Inv X pins σ H s->t σ H Q ->
  wpAny (model X.prog X.w) X.A (evalPart e X.env) (λu s'=>∃o H',Inv X pins σ H' s'/\IsPart u o/\Q o H') X.xe s
def ZI1:TO:=λ_ H Q=>Q none H
def tPart(t:TE):TO:=λσ H Q=>t σ H λx H1=>∃i,x=.int i/\Q (some i) H1
theorem Z0{ns:List Int}:∀{us:List Value},ZI (ns.map V.int) us->IntsAre us ns:=by
 induction ns with
 |nil=>intro us r;rw[map_nil] at r;cases r;exact .nil
 |cons n ns ih =>
  intro us r;rw[map_cons] at r;cases r with
  |cons r1 r2 =>
   obtain⟨t,e⟩:=r1;subst e;exact .cons n t (ih r2)
section
variable{X:Cx}{e:Expr}{te:TE}{lo hi:Option Expr}{tl th:TO}{pos p2:Pos}
theorem ZIy:PO X none ZI1:=by
 intro pins s σ H Q I h;rw[evalPart_none];exact wpAny_pure ⟨none,H,I,.none,h⟩
theorem ZJE(h:PE X e te):PO X (some e) (tPart te):=by
 intro pins s σ H Q I hw;rw[evalPart_some];refine thn (h pins s σ H _ I hw) λu s1 ⟨x,H1,I1,r1,q1⟩=>?_
 obtain⟨i,rfl,q⟩:=q1;obtain⟨t,rfl⟩:=r1;exact⟨some i,H1,I1,.int i t,q⟩
def SlR(X:Cx)(r:V->Option Int->Option Int->Hp->VK->Prop):Prop :=
 ∀(pins:List (Addr×Obj)) (s:Shared) (σ : St) (H:Hp) (x:V) (v vl vu:Value) (lo hi:Option Int) (sl:Addr) (Q:VK),Inv X pins σ H s->ZS x v->s.heap.IsSliceOf sl vl vu .none->IsPart vl lo->IsPart vu hi->r x lo hi H Q ->
  ∃T id,typeLookup (.type T) "__getitem__" = pure (some (.builtin id))/\s.TypeIs v T/\wpAny (model X.prog X.w) X.A (getItem v (.ref sl)) (EP X pins σ Q) X.xe s
def tSl(r:V->Option Int->Option Int->Hp->VK->Prop)(te:TE)(tl th:TO):TE:=λσ H Q=>te σ H λx H1=>tl σ H1 λl H2=>th σ H2 λu H3=>r x l u H3 Q
theorem ZH2{r:V->Option Int->Option Int->Hp->VK->Prop}(hr:SlR X r)(he:PE X e te)(hl:PO X lo tl)(hu:PO X hi th):PE X (.Subscript e (.Slice lo hi none p2) pos) (tSl r te tl th):=by
 intro pins s σ H Q I h;refine Subscript_ (thn (he pins s σ H _ I h) λv s1 ⟨x,H1,I1,r1,q1⟩=>?_);refine wpAny_Slice (thn (hl pins s1 σ H1 _ I1 q1) λvl s2 ⟨l,H2,I2,pl,q2⟩=>thn (hu pins s2 σ H2 _ I2 q2) λvu s3 ⟨u,H3,I3,pu,q3⟩=>?_);rw[evalPart_none];refine wpAny_pure ?_;have I4:Inv X pins σ H3 { s3 with heap:=s3.heap.push { cls:=.type "slice",data:=.fields #[vl,vu,.none] } }:=I3.kept (t':=s3.toks) λb ob q=>get?_push_of_some _ q
 obtain⟨T,id,hT,ht,hg⟩:=hr pins { s3 with heap:=s3.heap.push { cls:=.type "slice",data:=.fields #[vl,vu,.none] } } σ H3 x v vl vu l u s3.heap.objs.size Q I4 r1 (Heap.IsSliceOf.new ..) pl pu q3;show wpAny (model X.prog X.w) X.A (subscriptTail e (.Slice lo hi none p2) v (.ref s3.heap.objs.size)) (EP X pins σ Q) X.xe { s3 with heap:=s3.heap.push { cls:=.type "slice",data:=.fields #[vl,vu,.none] } };exact tail_any (ops:=[.ref s3.heap.objs.size,v]) ht hT hg (by with_unfolding_all rfl)
def ZEJ(xs:List V)(lo hi:Option Int):List V:=(xs.drop (HT.sIx xs.length 0 lo)).take (HT.sIx xs.length xs.length hi-HT.sIx xs.length 0 lo)
theorem ZB9(xs:List V)(lo hi:Option Int):(ZEJ xs lo hi).length<=xs.length:=by
 unfold ZEJ;rw[length_take,length_drop];omega
def rSlT(K:PySem.W.Frag):V->Option Int->Option Int->Hp->VK->Prop:=λx lo hi H Q=>∃a xs,x=.ref a/\SqT K H a xs /\
 ¬(HT.sIx xs.length 0 lo=0/\HT.sIx xs.length xs.length hi=xs.length)/\∀p,H p=none->Q (.ref p) (upd H p (.tup (ZEJ xs lo hi)))
theorem ZLh:SlR X (rSlT X.K):=by
 intro pins s σ H x v vl vu lo hi sl Q I rx hs pl pu h;obtain⟨a,xs,rfl,hx,hw,q⟩:=h;cases rx;obtain⟨its,r,ht,hz⟩:=I.tuple hx;have hlen:its.toArray.size=xs.length:=by rw[size_toArray];exact r.length.symm
 refine⟨"tuple",_,PyProof.Rows.slot_tuple_getitem.lookup,ht.typeIs,?_⟩;refine HT.getItem_tuple_cut ht hs pl pu (by rw[hlen];exact hw) ?_ (by rw[hlen];exact hz);rw[hlen];refine⟨.ref s.heap.objs.size,_,I.laid (t':=s.toks) (o:=.tup (ZEJ xs lo hi)) (λb ob q=>get?_push_of_some _ q) (le_refl _) ?_,rfl,q _ (I.hok.fresh (le_refl _))⟩;exact⟨le_trans (ZB9 xs lo hi) hz,_,(r.drop (HT.sIx xs.length 0 lo)).take (HT.sIx xs.length xs.length hi-HT.sIx xs.length 0 lo),IsTup.new _ _⟩
def rLtT(K:PySem.W.Frag):R2:=λx y H Q=>∃a b ns ms,x=.ref a/\y=.ref b/\SqT K H a (ns.map V.int)/\SqT K H b (ms.map V.int)/\Q (.bl (HT.lexLt ns ms)) H
theorem ZME(hu:X.A.units<cLine):OpR X (compareOp .Lt) (rLtT X.K):=by
 intro pins s σ H x y v u Q I rx ry h;obtain⟨a,b,ns,ms,rfl,rfl,ha,hb,q⟩:=h;cases rx;cases ry;obtain⟨its,r1,p1,_⟩:=I.tuple ha;obtain⟨its2,r2,p2,_⟩:=I.tuple hb;have i1:IntsAre its.toArray.toList ns:=Z0 r1;have i2:IntsAre its2.toArray.toList ms:=Z0 r2;exact HT.lt_tupInts p1 p2 i1 i2 hu ⟨.bl (HT.lexLt ns ms),H,I,rfl,q⟩
theorem ZI.nil_iff{xs:List V}{us:List Value}(r:ZI xs us):us=[] ↔ xs=[]:=by
 cases r with
 |nil=>simp
 |cons _ _=>simp
end
def ixN(n:Nat)(i:Int):Option Nat:=if 0<=i then (if i<n then some i.toNat else none) else if -(n:Int)<=i then some (i+n).toNat else none
def atI{α : Type}(xs:List α)(i:Int):Option α:=(ixN xs.length i).bind λj=>xs[j]?
theorem ZFn{n:Nat}{i:Int}{j:Nat}(h:ixN n i=some j):seqIndex? i n=some j/\j<n/\-(n:Int)<=i/\i<n:=by
 unfold ixN at h
 by_cases h0 : 0<=i
 ·rw[if_pos h0] at h
  by_cases h1:i<n
  ·rw[if_pos h1] at h
   have e:i.toNat=j:=Option.some.inj h;exact⟨by rw[seqIndex_of h0 h1,e],by omega,by omega,h1⟩
  ·rw[if_neg h1] at h;cases h
 ·rw[if_neg h0] at h
  by_cases h1 : -(n:Int)<=i
  ·rw[if_pos h1] at h
   have e:(i+n).toNat=j:=Option.some.inj h;exact⟨by rw[seqIndex_neg (by omega) h1,e],by omega,h1,by omega⟩
  ·rw[if_neg h1] at h;cases h
theorem ZDp{α : Type}{xs:List α}{i:Int}{v : α}(h:atI xs i=some v):∃j,seqIndex? i xs.length=some j/\xs[j]? = some v/\j<xs.length/\-(xs.length:Int)<=i/\i<xs.length:=by
 unfold atI at h;cases e:ixN xs.length i with
 |none=>rw[e] at h;cases h
 |some j =>
  rw[e] at h;obtain⟨h1,h2,h3,h4⟩:=ZFn e;exact⟨j,h1,h,h2,h3,h4⟩
theorem ZCT{α : Type}{xs:List α}{j:Nat}{v : α}(h:xs[j]? = some v):atI xs (j:Int)=some v:=by
 have hj:j<xs.length:=(List.getElem?_eq_some_iff.mp h).1;have e:ixN xs.length (j:Int)=some j:=by
  unfold ixN;rw[if_pos (by omega),if_pos (by omega)];simp
 unfold atI;rw[e];exact h
def ZEA(b:Expr):Prop:=∀o i,subscripted b false o i=operate [o,i] (getItem o i)
def IxR(X:Cx)(r:R2):Prop :=
 ∀(value slice:Expr) (pins:List (Addr×Obj)) (s:Shared) (σ : St) (H:Hp) (x y:V) (v u:Value) (Q:VK),Inv X pins σ H s->ZS x v->ZS y u->r x y H Q ->
  subscripted slice false v u=operate [v,u] (getItem v u)->wpAny (model X.prog X.w) X.A (subscriptTail value slice v u) (EP X pins σ Q) X.xe s
def MtR(X:Cx)(id:String)(r:V->List V->Hp->VK->Prop):Prop :=
 ∀(pins:List (Addr×Obj)) (s:Shared) (σ : St) (H:Hp) (x:V) (xs:List V) (v:Value) (us:List Value) (Q:VK),Inv X pins σ H s->ZS x v->ZI xs us->r x xs H Q ->
  wpAny (model X.prog X.w) X.A (call (.builtin id) (v::us)) (EP X pins σ Q) X.xe s
section
variable{X:Cx}{a b:Expr}{ta tb:TE}{pos:Pos}
theorem pe_ix{r:R2}(hr:IxR X r)(ha:PE X a ta)(hb:PE X b tb)(hs:ZEA b):PE X (.Subscript a b pos) (tOp r ta tb):=by
 intro pins s σ H Q I h;exact Subscript_ (ZLk ha hb I h λv u s2 x y H2 I2 rx ry q=>hr a b pins s2 σ H2 x y v u Q I2 rx ry q (hs _ _))
def rIxL(K:PySem.W.Frag):R2:=λx y H Q=>∃p xs i v,x=.ref p/\y=.int i/\SqL K H p xs/\atI xs i=some v/\Q v H
def rIxT(K:PySem.W.Frag):R2:=λx y H Q=>∃p xs i v,x=.ref p/\y=.int i/\SqT K H p xs/\atI xs i=some v/\Q v H
def rIxS:R2:=λx y H Q=>∃z i c,x=.str z/\y=.int i/\z.length<=sizeLine/\atI z.cps.toList i=some c/\Q (.str ⟨#[c]⟩) H
theorem ZCR:IxR X (rIxL X.K):=by
 intro value slice pins s σ H x y v u Q I rx ry h hs;obtain⟨p,xs,i,z,rfl,rfl,hq,he,q⟩:=h;cases rx;obtain⟨t,rfl⟩:=ry;obtain⟨its,r,pl,hz⟩:=I.list hq;obtain⟨j,h1,h2,h3,h4,h5⟩:=ZDp he;obtain⟨w,ew,rw'⟩:=r.get h2;have hl:=r.length;have hn:=ZBx;have fin:EP X pins σ Q w s:=⟨z,H,I,rw',q⟩
 by_cases h0 : 0<=i
 ·have hj:i.toNat=j:=by
   rw[seqIndex_of h0 h5] at h1;exact Option.some.inj h1
  exact item_listR pl.isList h0 (by omega) (by rw[hj];simpa using ew) fin hs
 ·have hj:(i+(its.toArray.size:Int)).toNat=j:=by
   rw[seqIndex_neg (by omega) h4] at h1;rw[size_toArray,←hl];exact Option.some.inj h1
  exact subscriptTail_builtinR (x:=w) pl.isList.typeIs slot_list_getitem.lookup
   (wpAny_getItem_list_neg (Q:=λr s'=>r=w/\EP X pins σ Q r s') pl.isList (by omega) (by rw[size_toArray] <;> omega) (by omega) (by rw[hj];simpa using ew) ⟨rfl,fin⟩) hs
theorem ZIX:IxR X (rIxT X.K):=by
 intro value slice pins s σ H x y v u Q I rx ry h hs;obtain⟨p,xs,i,z,rfl,rfl,hq,he,q⟩:=h;cases rx;obtain⟨t,rfl⟩:=ry;obtain⟨its,r,pl,hz⟩:=I.tuple hq;obtain⟨j,h1,h2,h3,h4,h5⟩:=ZDp he;obtain⟨w,ew,rw'⟩:=r.get h2;have hl:=r.length;have hn:=ZBx;have fin:EP X pins σ Q w s:=⟨z,H,I,rw',q⟩;exact subscriptTail_builtinR (x:=w) pl.typeIs slot_tuple_getitem.lookup
  (getItem_tuple (j:=j) (Q:=λr s'=>r=w/\EP X pins σ Q r s') pl (by omega) (by omega) (by rw[size_toArray,←hl];exact h1) (by simpa using ew) ⟨rfl,fin⟩) hs
theorem ZLE:IxR X rIxS:=by
 intro value slice pins s σ H x y v u Q I rx ry h hs;obtain⟨z,i,c,rfl,rfl,hz,he,q⟩:=h;obtain⟨t,rfl⟩:=rx;obtain⟨t',rfl⟩:=ry;obtain⟨j,h1,h2,h3,h4,h5⟩:=ZDp he;have hl:z.cps.toList.length=z.length:=by simp[Str.length]
 rw [hl] at h1 h4 h5;have hn:=ZBx;exact tail_any (typeIs_str s z t) slot_str_getitem.lookup (getItem_str (c:=c) (by
  have e1:decide (i < -(2 ^ 63:Int))=false:=decide_eq_false (by omega);have e2:decide (i ≥ 2 ^ 63)=false:=decide_eq_false (by omega);rw[e1,e2,Bool.or_false]) (by rw[h1];simpa using h2) ⟨.str ⟨#[c]⟩,H,I.tok _,⟨_,rfl⟩,q⟩) hs
theorem ZFR(its:List Value)(n j:Nat)(u:Value):Obj.mapSeq (·.setIfInBounds j u) { cls:=.type "list",data:=.seq its.toArray n }={ cls:=.type "list",data:=.seq (its.set j u).toArray n }:=by
 simp[Obj.mapSeq]
theorem Inv.lst{pins:List (Addr×Obj)}{σ : St}{H:Hp}{s:Shared}{p:Addr}{xs:List V}(I:Inv X pins σ H s)(h:H p=some (.lst xs)) :
  ∃(its:List Value) (n:Nat),ZI xs its/\s.heap.get? p=some { cls:=.type "list",data:=.seq its.toArray n }/\xs.length<=sizeLine:=by
 obtain⟨z,its,n,r,e⟩:=I.hok p _ h;exact⟨its,n,r,e,z⟩
theorem Inv.lstUpd{pins:List (Addr×Obj)}{σ : St}{H:Hp}{s:Shared}{p:Addr}{xs ys:List V}{its its':List Value}{n n':Nat}{f:Obj->Obj}(I:Inv X pins σ H s)(h:H p=some (.lst xs))
  (ho:s.heap.get? p=some { cls:=.type "list",data:=.seq its.toArray n })(hf:f { cls:=.type "list",data:=.seq its.toArray n }={ cls:=.type "list",data:=.seq its'.toArray n' })(r:ZI ys its')(hz:ys.length<=sizeLine)(t:Nat) :
  Inv X pins σ (upd H p (.lst ys)) { s with heap:=s.heap.update p f,toks:=t }:=by
 have e:(s.heap.update p f).get? p=some { cls:=.type "list",data:=.seq its'.toArray n' }:=by
  rw[get?_update_self f ho (by rw[hf] <;> rfl),hf]
 refine I.write (x:=p) (e:=p) (by rw[h];trivial) (.inl rfl) (λb u hb q=>(Heap.get?_update_other _ _ (Ne.symm hb)).trans q) ⟨_,e⟩ ?_;exact⟨hz,its',n',r,e⟩
def rSetL:V->V->V->Hp->(Hp->Prop)->Prop:=λo i v H Q=>∃p xs k j,o=.ref p/\i=.int k/\H p=some (.lst xs)/\ixN xs.length k=some j/\Q (upd H p (.lst (xs.set j v)))
theorem ZIV:ZKS X rSetL:=by
 intro pins s σ H o i v ov iv u Q I ro ri rv h;obtain⟨p,xs,k,j,rfl,rfl,hp,hj,q⟩:=h;cases ro;obtain⟨t,rfl⟩:=ri;obtain⟨its,n,r,ho,hz⟩:=I.lst hp;obtain⟨h1,h2,h3,h4⟩:=ZFn hj;have hl:=r.length;have hn:=ZBx;have I':Inv X pins σ (upd H p (.lst (xs.set j v))) { s with heap:=s.heap.update p (Obj.mapSeq (·.setIfInBounds j u)) } :=
  I.lstUpd hp ho (ZFR its n j u) (r.set rv j) (by rw[length_set];exact hz) s.toks
 by_cases h0 : 0<=k
 ·have hk:k.toNat=j:=by
   rw[seqIndex_of h0 h4] at h1;exact Option.some.inj h1
  exact PySem.W.ki_setAt ho h0 (by omega) (by rw[size_toArray,←hl];exact h4) (by rw[hk];exact⟨_,I',q⟩)
 ·have hk:(k+(its.toArray.size:Int)).toNat=j:=by
   rw[seqIndex_neg (by omega) h3] at h1;rw[size_toArray,←hl];exact Option.some.inj h1
  exact PySem.W.ki_setBack ho (by omega) (by rw[size_toArray,←hl];exact h3) (by omega) (by rw[hk];exact⟨_,I',q⟩)
theorem ZD8(lo hi:Option Int)(n:Nat):(sliceBounds lo hi none n).1=((HT.sIx n 0 lo:Nat):Int)/\(sliceBounds lo hi none n).2.1=((HT.sIx n n hi:Nat):Int)/\(sliceBounds lo hi none n).2.2=1:=by
 refine⟨?_,?_,rfl⟩
 ·cases lo with
  |none=>simp[sliceBounds,HT.sIx]
  |some i =>
   simp only[sliceBounds,HT.sIx,Option.getD_none,show(1:Int) > 0 by decide,if_true]
   by_cases h:i<0
   ·simp only[h,if_true] <;> omega
   ·simp only[h,if_false] <;> omega
 ·cases hi with
  |none=>simp[sliceBounds,HT.sIx]
  |some i =>
   simp only[sliceBounds,HT.sIx,Option.getD_none,show(1:Int) > 0 by decide,if_true]
   by_cases h:i<0
   ·simp only[h,if_true] <;> omega
   ·simp only[h,if_false] <;> omega
theorem ZC9(its:List Value)(lo hi:Option Int):slicePick its.toArray lo hi none=((its.drop (HT.sIx its.length 0 lo)).take (HT.sIx its.length its.length hi-HT.sIx its.length 0 lo)).toArray:=by
 obtain⟨h1,h2,h3⟩:=ZD8 lo hi its.toArray.size;unfold slicePick;rw[h1,h2,h3];simp only[sliceRange_one,pick_run,size_toArray] <;> rfl
def rSlL(K:PySem.W.Frag):V->Option Int->Option Int->Hp->VK->Prop:=λx lo hi H Q=>∃a xs,x=.ref a/\SqL K H a xs/\∀p,H p=none->Q (.ref p) (upd H p (.lst (ZEJ xs lo hi)))
theorem ZFq:SlR X (rSlL X.K):=by
 intro pins s σ H x v vl vu lo hi sl Q I rx hs pl pu h;obtain⟨a,xs,rfl,hx,q⟩:=h;cases rx;obtain⟨its,r,ht,hz⟩:=I.list hx;have hlen:=r.length;refine⟨"list",_,slot_list_getitem.lookup,ht.isList.typeIs,?_⟩;refine wpAny_getItem_list_slice ht.isList hs pl pu .none (by simp) ?_ (by rw[size_toArray] <;> omega);rw[ZC9,←hlen];refine⟨.ref s.heap.objs.size,_,I.laid (t':=s.toks) (o:=.lst (ZEJ xs lo hi)) (λb ob q=>get?_push_of_some _ q) (le_refl _) ?_,rfl,q _ (I.hok.fresh (le_refl _))⟩;exact⟨le_trans (ZB9 xs lo hi) hz,_,0,(r.drop (HT.sIx xs.length 0 lo)).take (HT.sIx xs.length xs.length hi-HT.sIx xs.length 0 lo),get?_push_size _ rfl⟩
theorem ZD4:ZJ X (.builtin "len") (λxs H Q=>∃p ys,xs=[.ref p]/\(SqL X.K H p ys∨SqT X.K H p ys)/\Q (.int ys.length) H):=by
 intro pins s σ H xs us Q I r h;obtain⟨p,ys,rfl,hq,q⟩:=h;obtain⟨u,rfl,rx⟩:=ZAp r;cases rx;have hn:=ZBx;rcases hq with hq|hq
 ·obtain⟨its,r',pl,hz⟩:=I.list hq
  have hlen:=r'.length;exact Calls.call_len_list pl.isList (by simp only[size_toArray] <;> omega) ⟨.int ys.length,H,I.tok _,⟨s.toks+1,by rw[size_toArray,hlen]⟩,q⟩
 ·obtain⟨its,r',pl,hz⟩:=I.tuple hq
  have hlen:=r'.length;exact len_tuple pl (by simp only[size_toArray] <;> omega) ⟨.int ys.length,H,I.tok _,⟨s.toks+1,by rw[size_toArray,hlen]⟩,q⟩
theorem ZDq:ZJ X (.builtin "len") (λxs H Q=>∃z,xs=[.str z]/\z.length<=sizeLine/\Q (.int z.length) H):=by
 intro pins s σ H xs us Q I r h;obtain⟨z,rfl,hz,q⟩:=h;obtain⟨u,rfl,t,rfl⟩:=ZAp r;have hn:=ZBx;exact len_str (by omega) ⟨.int z.length,H,I.tok _,⟨_,rfl⟩,q⟩
theorem ZDG:ZJ X (.type "tuple") (λxs H Q=>∃p ys,xs=[.ref p]/\((SqL X.K H p ys/\∀l,H l=none->Q (.ref l) (upd H l (.tup ys)))∨(SqT X.K H p ys/\Q (.ref p) H))):=by
 intro pins s σ H xs us Q I r h;obtain⟨p,ys,rfl,h⟩:=h;obtain⟨u,rfl,rx⟩:=ZAp r;cases rx;rcases h with ⟨hq,q⟩|⟨hq,q⟩
 ·obtain⟨its,r',pl,hz⟩:=I.list hq
  have hlen:=r'.length;refine call_tuple_list pl.isList (λh' kp=>?_) (by simp only[size_toArray] <;> omega);have I1:Inv X pins σ H { s with heap:=h' }:=I.kept (t':=s.toks) kp;have I2:Inv X pins σ (upd H h'.objs.size (.tup ys)) { s with heap:=h'.push { cls:=.type "tuple",data:=.seq its.toArray } } :=
   I1.laid (t':=s.toks) (λb o e=>get?_push_of_some _ e) (le_refl _) (show ZAM X.prog X.w _ _ _ (.tup ys) from ⟨hz,its,r',IsTup.new _ _⟩)
  exact⟨.ref h'.objs.size,_,I2,rfl,q _ (I1.hok.fresh (le_refl _))⟩
 ·obtain⟨its,r',pl,hz⟩:=I.tuple hq
  exact call_tuple_same pl ⟨.ref p,H,I,rfl,q⟩
def tyV(K:PySem.W.Frag)(T:String)(x:V)(H:Hp):Prop:=match x with
 |.str _=>T = "str"
 |.int _=>T = "int"
 |.ref p=>(T = "list"/\∃xs,SqL K H p xs)∨(T = "tuple"/\∃o,K.lookup p=some o/\o.cls=.type "tuple"/\o.dict=none) ∨
   (T = "dict"/\((∃kvs,H p=some (.dK kvs))∨∃kvs,H p=some (.dT kvs)))∨(T = "set"/\∃S n,H p=some (.set S n))
 |_=>False
theorem ZLQ{pins:List (Addr×Obj)}{σ : St}{H:Hp}{s:Shared}{T:String}{x:V}{v:Value}(I:Inv X pins σ H s)(r:ZS x v)(ty:tyV X.K T x H) :
  s.TypeIs v T/\∀a,v=.ref a->∃ob,s.heap.get? a=some ob/\ob.dict=none:=by
 cases x with
 |str z =>
  obtain⟨t,rfl⟩:=r;cases (show T = "str" from ty);exact⟨typeIs_str s z t,λ_ e=>nomatch e⟩
 |int i =>
  obtain⟨t,rfl⟩:=r;cases (show T = "int" from ty);exact⟨typeIs_int s i t,λ_ e=>nomatch e⟩
 |ref p =>
  cases r;rcases ty with ⟨rfl,xs,hq⟩|⟨rfl,o,hk,hc,hd⟩|⟨rfl,hk⟩|⟨rfl,S,n,hk⟩
  ·obtain⟨its,_,pl,_⟩:=I.list hq
   refine⟨pl.isList.typeIs,λa e=>?_⟩;cases e;obtain⟨o,n,e,c,hd,_⟩:=pl;exact⟨o,e,hd⟩
  ·refine⟨⟨o,I.kIn p o hk,hc⟩,λa e=>?_⟩
   cases e;exact⟨o,I.kIn _ o hk,hd⟩
  ·have z:∃o,s.heap.get? p=some o/\o.ExactDict:=by
    rcases hk with ⟨kvs,hk⟩|⟨kvs,hk⟩
    ·obtain⟨_,_,_,_,o,_,_,e,ex,_⟩:=I.hok p _ hk
     exact⟨o,e,ex⟩
    ·obtain⟨_,_,_,_,o,_,_,e,ex,_⟩:=I.hok p _ hk
     exact⟨o,e,ex⟩
   obtain⟨o,e,ex⟩:=z;refine⟨⟨o,e,ex.1⟩,λa e2=>?_⟩;cases e2;exact⟨o,e,ex.2.1⟩
  ·obtain⟨o,_,_,_,e,ex,_⟩:=I.hok p _ hk
   refine⟨⟨o,e,ex.1⟩,λa e2=>?_⟩;cases e2;exact⟨o,e,ex.2.1⟩
 |_=>exact False.elim ty
def tBM(K:PySem.W.Frag)(T:String)(r:V->List V->Hp->VK->Prop)(to:TE)(t:TA):TE:=λσ H Q=>to σ H λx H1=>tyV K T x H1/\t σ H1 λxs H2=>r x xs H2 Q
variable{o e:Expr}{es:List Expr}{to:TE}{t:TA}{name:Str}{apos cpos:Pos}{T id:String}{r:V->List V->Hp->VK->Prop}
theorem ZKH(pa:PlainAttrs T)(slot:Slot T name id)(hty:typeOf (.builtin id)=pure (.type "method_descriptor"))(hm:MtR X id r)(ho:PE X o to)(ha:PA X (e::es) t)
  (hbase:attributeBase o name X.env (eval o X.env)=eval o X.env:=by rfl)
  (hfew:((backTo cpos (starEach (e :: es) X.env)).all (λ x=>!x.1) && (backToKw cpos (keywordEach [] X.env)).all (λ x=>x.1.isSome)
   && decide ((e::es).length+([]:List Keyword).length+(if ([]:List Keyword).isEmpty then 0 else 1)<30))=true:=by rfl)
  (hline:(apos.endLine == cpos.line)=true:=by rfl)(hs:starEach (e::es) X.env=(false,eval e X.env)::starEach es X.env:=by rfl)(hplain:(backTo cpos (starEach es X.env)).any (·.1)=false:=by rfl) :
  PE X (.Call (.Attribute o name apos) (e::es) [] cpos) (tBM X.K T r to t):=by
 intro pins s σ H Q I h;refine wpAny_Call_method_late hbase hfew hline rfl (thn (ho pins s σ H _ I h) λv s1 ⟨x,H1,I1,r1,ty,q1⟩=>?_);obtain⟨h1,h2⟩:=ZLQ I1 r1 ty;refine⟨T,id,pa,slot,hty,h1,h2,?_⟩;have hA:=ha cpos pins s1 σ H1 _ I1 q1;rw[hs] at hA ⊢;refine Calls.callWith_builtin (by show(false || (backTo cpos (starEach es X.env)).any (·.1))=false;rw[hplain] <;> rfl) (Calls.evalArgs_plain ?_);exact thn hA λus s2 ⟨vs,H2,I2,r2,q2⟩=>hm pins s2 σ H2 x vs v us Q I2 r1 r2 q2
end
def MtM(X:Cx)(id:String)(r:V->List V->Hp->VK->Prop):Prop :=
 ∀(pins:List (Addr×Obj)) (s:Shared) (σ : St) (H:Hp) (x:V) (xs:List V) (v:Value) (us:List Value) (Q:VK),Inv X pins σ H s->ZS x v->ZI xs us->r x xs H Q ->
  wpAny (model X.prog X.w) X.A (call (.builtin id) (v::us)) (EP X pins σ Q) X.xe s
theorem ZI.one:∀{x:V} {us:List Value},ZI [x] us->∃u,us=[u]/\ZS x u
 |_,_,.cons r .nil=>⟨_,rfl,r⟩
theorem ZI.rep{xs:List V}{us:List Value}(h:ZI xs us):∀k:Nat,ZI (List.replicate k xs).flatten (List.replicate k us).flatten
 |0=>.nil
 |k+1=>by
  rw[replicate_succ,replicate_succ,flatten_cons,flatten_cons];exact ZI.append h (ZI.rep h k)
theorem ZBv(its:List Value):∀(k:Nat) (acc:List Value),
  List.foldl (λx1 x2=>x1++x2) acc.toArray (List.replicate k its.toArray)=(acc++(List.replicate k its).flatten).toArray
 |0,acc=>by simp
 |k+1,acc=>by
  have e:acc.toArray++its.toArray=(acc++its).toArray:=by simp
  have e2:(acc++its)++(List.replicate k its).flatten=acc++(List.replicate (k+1) its).flatten:=by
   rw[replicate_succ,flatten_cons,append_assoc]
  rw[←e2,←ZBv its k (acc++its),←e,replicate_succ,List.foldl_cons]
section
variable{X:Cx}{pins:List (Addr×Obj)}{σ : St}{H:Hp}{s:Shared}{l b:Addr}{xs ys zs:List V}
theorem Inv.lset{its its':List Value}{n:Nat}{f:Array Value->Array Value}{t':Nat}(I:Inv X pins σ H s)(hH:H l=some (.lst xs))
  (e:s.heap.get? l=some { cls:=.type "list",data:=.seq its.toArray n })(hf:f its.toArray=its'.toArray)(hv:ZI ys its')(hz:ys.length<=sizeLine) :
  Inv X pins σ (upd H l (.lst ys)) { s with heap:=s.heap.update l (Obj.mapSeq f),toks:=t' }:=by
 have q:=PySem.IsL.update e f;rw[hf] at q;refine I.write (x:=l) (e:=l) (by rw[hH];exact trivial) (.inl rfl) (λb' u hb hu=>(Heap.get?_update_other s.heap (Obj.mapSeq f) (Ne.symm hb)).trans hu) ⟨_,q⟩ ?_;exact⟨hz,its',_,hv,q⟩
theorem Inv.lnew{its:List Value}{t':Nat}(I:Inv X pins σ H s)(hv:ZI ys its)(hz:ys.length<=sizeLine) :
  Inv X pins σ (upd H s.heap.objs.size (.lst ys)) { s with heap:=s.heap.push { cls:=.type "list",data:=.seq its.toArray },toks:=t' } :=
 I.laid (λ_ _ q=>get?_push_of_some _ q) (le_refl _) ⟨hz,its,0,hv,get?_push_size _ rfl⟩
theorem Inv.fresh(I:Inv X pins σ H s):H s.heap.objs.size=none:=I.hok.fresh (le_refl _)
theorem Inv.lstM(I:Inv X pins σ H s)(hH:H l=some (.lst xs)):xs.length<=sizeLine/\∃(its:List Value) (n:Nat),ZI xs its/\xs.length=its.length/\s.heap.get? l=some { cls:=.type "list",data:=.seq its.toArray n }:=by
 obtain⟨z,its,n,r,e⟩:=I.hok l _ hH;exact⟨z,its,n,r,r.length,e⟩
theorem ZHE{n:Nat}(h:n<=sizeLine):Builtin.List.listTooLong n=false:=by
 unfold Builtin.List.listTooLong;exact decide_eq_false (by omega)
end
section
variable{X:Cx}
def ZJ4:V->List V->Hp->VK->Prop:=λx vs H Q=>∃l xs y,x=.ref l/\vs=[y]/\H l=some (.lst xs)/\xs.length<sizeLine/\Q .non (upd H l (.lst (xs++[y])))
theorem ZDQ:MtM X "list.append" ZJ4:=by
 intro pins s σ H x vs v us Q I rx rv h;obtain⟨l,xs,y,rfl,rfl,hH,hz,q⟩:=h;cases rx;obtain⟨u,rfl,ru⟩:=rv.one;obtain⟨z,its,n,r,hl,e⟩:=I.lstM hH;refine call_meets F.slot_list_append ⟨_,e,rfl⟩ F.entry_list_append (F.args_list_append_2 _ _) (PySem.list_append l its.toArray n u (by rw[size_toArray];omega)) ⟨e,?_⟩;refine⟨.non,_,I.lset (its':=its++[u]) hH e (by simp) (r.append (.cons ru .nil)) ?_,rfl,q⟩;rw[length_append,List.length_singleton];omega
def rCat:R2:=λx y H Q=>∃l b xs zs,x=.ref l/\y=.ref b/\H l=some (.lst xs)/\H b=some (.lst zs)/\xs.length+zs.length<=sizeLine/\∀p,H p=none->Q (.ref p) (upd H p (.lst (xs++zs)))
theorem ZLI:OpR X (binaryOp .Add) rCat:=by
 intro pins s σ H x y v u Q I rx ry h;obtain⟨l,b,xs,zs,rfl,rfl,hH,hB,hz,q⟩:=h;cases rx;cases ry;obtain⟨z,its,n,r,hl,e⟩:=I.lstM hH;obtain⟨z2,its2,n2,r2,hl2,e2⟩:=I.lstM hB;refine PySem.P.add_list e e2 ?_ (by rw[size_toArray,size_toArray];omega);have ea:its.toArray++its2.toArray=(its++its2).toArray:=by simp
 rw[ea];exact⟨.ref _,_,I.lnew (t':=s.toks) (r.append r2) (by rw[length_append];omega),rfl,q _ I.fresh⟩
def rRep:R2:=λx y H Q=>∃l k xs,x=.ref l/\y=.int k/\H l=some (.lst xs)/\-(2 ^ 63)<=k/\k<2 ^ 63/\xs.length*k.toNat<=sizeLine /\
 ∀p,H p=none->Q (.ref p) (upd H p (.lst (List.replicate k.toNat xs).flatten))
theorem ZD0{α : Type}(xs:List α)(k:Nat):(List.replicate k xs).flatten.length=k*xs.length:=by
 induction k with
 |zero=>simp
 |succ k ih=>rw[replicate_succ,flatten_cons,length_append,ih,Nat.succ_mul,Nat.add_comm]
theorem ZKO:OpR X (binaryOp .Mult) rRep:=by
 intro pins s σ H x y v u Q I rx ry h;obtain⟨l,k,xs,rfl,rfl,hH,h1,h2,hz,q⟩:=h;cases rx;obtain⟨t,rfl⟩:=ry;obtain⟨z,its,n,r,hl,e⟩:=I.lstM hH;have hlen:its.toArray.size*k.toNat<=sizeLine:=by rw[size_toArray,←hl];exact hz
 have hcap : ¬its.toArray.size*k.toNat > (2 ^ 63-1) / 8:=by
  have:(sizeLine:Nat)<=(2 ^ 63-1) / 8:=by decide
  omega
 have hfit : ¬(!Builtin.List.listFitsIndex k)=true:=by
  rw[fitsIndex_both h1 h2];exact Bool.false_ne_true
 have hlong : ¬Builtin.List.listTooLong (its.toArray.size*k.toNat)=true:=by
  rw[ZHE hlen];exact Bool.false_ne_true
 have hnew:List.foldl (λx1 x2=>x1++x2) #[] (List.replicate (if its.toArray.isEmpty=true then 0 else k.toNat) its.toArray)=(List.replicate k.toNat its).flatten.toArray:=by
  have f0:∀m:Nat,List.foldl (λx1 x2=>x1++x2) #[] (List.replicate m its.toArray)=(List.replicate m its).flatten.toArray:=λm=>by
   have:=ZBv its m [];rw[nil_append] at this
   exact this
  rw[f0];cases its with
  |nil=>simp
  |cons a r'=>rw[if_neg (by simp)]
 refine wpAny_binaryOp_repeat_ref (T:="list") (U:="int") (by decide) ⟨_,e,rfl⟩ (λs'=>typeIs_int s' k t) noFill_list_mul F.fills_int_mul F.slot_int_rmul repeat_list F.slot_int_index.lookup
  (call_meets F.slot_int_rmul (typeIs_int s k t) F.entry_int_rmul (F.args_int_rmul_2 _ _) (int___rmul___int_list k t l its.toArray n)
   ⟨e,rfl,⟨_,e,rfl⟩,call_meets F.slot_list_mul ⟨_,e,rfl⟩ F.entry_list_mul (F.args_list_mul_2 _ _) (AutoListH.list___mul___list_int_3 l its.toArray n k t hfit hcap hlong) ⟨e,?_⟩⟩)
 rw[hnew];exact⟨.ref _,_,I.lnew (t':=s.toks) (r.rep k.toNat) (by rw[ZD0,Nat.mul_comm];exact hz),rfl,q _ I.fresh⟩
end
end L2
namespace Att
open PySem PySem.W PySem.Calls PyProof.Rows
theorem ZCI{P:Params}{h:Heap}:∀(ns:List Int) (vs:List Value),WellAll P h vs (ns.map WData.int)->IntsAre vs ns:=by
 intro ns
 induction ns with
 |nil =>
  intro vs w;rw[map_nil] at w;cases w;exact .nil
 |cons n ns ih =>
  intro vs w;rw[map_cons] at w;cases w with
  |cons a b =>
   cases a;exact .cons _ _ (ih _ b)
theorem ZGJ{l:OpenLaw}{n:Nat}(hn:l.most=some n){P:Params}{h:Heap}{args:List WData}{vals:List Value}
  (hpre:l.row.toRowW.claim.pre args=true)(hwl:WellAll P h vals args) :
  ∃a vs ns,vals=[Value.ref a]/\args=[WData.list (ns.map WData.int)]/\h.get? a=some { cls:=.type "list",data:=.seq vs.toArray }/\IntsAre vs ns/\ns.length<=n:=by
 have hsh:WShape.hasAll [] args [.list .int]=true:=(pre_splitW hpre).1;have hc:l.pre.holds [] { args:=args }=true:=(pre_splitW hpre).2;obtain⟨d,r,rfl,h1,h2⟩:=hasAllW_cons hsh;obtain rfl:=hasAllW_nil h2;obtain⟨xs,rfl,h3⟩:=hasW_list h1;obtain⟨ns,rfl⟩:=items_int h3;have hlen:ns.length<=n:=by
  unfold OpenLaw.pre at hc;have h4:(WTm.not (.lt (.lit (.int (n:Int))) (.len (.arg 0)))).holds [] { args:=[.list (ns.map .int)] }=true:=by
   have h4:=(holds_andW hc).1;rw[hn] at h4;exact h4
  have h5:=condW_of h4 (w_not (w_lt w_lit (w_len_list (w_arg rfl))));rw[length_map] at h5;refine Nat.le_of_not_lt λq=>?_
  have q':(n:Int)<((ns.length:Nat):Int):=by omega
  first
   |(rw[decide_eq_true q'] at h5;exact absurd h5 (by decide))
   |(simp at h5;omega)
 cases hwl with
 |cons w1 w2 =>
  cases w2;cases w1 with
  |list ho hall=>exact⟨_,_,ns,rfl,rfl,ho,ZCI ns _ hall,hlen⟩
theorem ZGC(l:OpenLaw)(args:List WData):l.row.toRowW.claim.post args (.bool true) args=true :=
 postW_of (r:=l.row.toRowW) (X:=(true == true))
  (show WShape.has [] (.bool true) .bool=true by first|rfl|decide|simp[WShape.has,WShape.arms,WShape.armsAll])
  (show(WTm.eq .res (.lit (.bool true))).value [] { args:=args,res:=some (.bool true),after:=args }=some (.bool (true == true)) from w_eq_bool (w_res rfl) w_lit) rfl
theorem attach_call{l:OpenLaw}{n:Nat}{q:Program}{loose:List Str}{XP:(Str->Option Value)->Heap->Prop}{YP:World->Heap->Prop}{d:DefRec}
  (hn:l.most=some n)(hdf:d.params.defaults=[])
  (call:∀ (w:World) (s₀ s₁ : Shared) (mg mb:Str->Option Value) (fa:Addr) (o:Obj) (pm cd doc:Value) (a:Addr) (vs:List Value) (ns:List Int),
   Ground q loose [] XP w s₀ mg mb s₁.heap->YP w s₁.heap ->
   s₁.heap.get? fa=some o->o.data=.func (docDef d.name d.params d.body d.scope pm cd doc)->s₁.heap.CodeRec cd d.name->mg d.name=some (.ref fa) ->
   s₁.heap.get? a=some { cls:=.type "list",data:=.seq vs.toArray }->IntsAre vs ns->ns.length<=n->s₁.gens = #[] ->
   codeAny (model l.prog w) callerA (.call (.ref fa) ⟨[.ref a],[]⟩) (λr s'=>r=.ok (.ret (.bool true))/\OldK s₁.heap s'.heap/\s'.os=s₁.os/\AllBare s'.gens) s₁) :
  WalkO q loose XP YP l.row.toRowW d [] (λf vs=>PySem.call f vs):=by
 intro w s₀ s₁ mg mb G Y fa o pm cd doc dV kV ho hd hcd hD hmg hg args vals as hpre hlay hrd hwl hlo;obtain rfl:dV=.none:=Dflts.none hD hdf;obtain rfl:kV=.none:=Dflts.noKw hD;obtain⟨a,vs,ns,rfl,rfl,hobj,hints,hlen⟩:=ZGJ hn hpre hwl;refine enter_call (codeAny_mono (call w s₀ s₁ mg mb fa o pm cd doc a vs ns G Y ho (fd_plain hd) hcd hmg hobj hints hlen hg) λr s' hq=>?_);obtain⟨rfl,h2,h3,h4⟩:=hq;exact⟨.inl ⟨.bool true,.bool true,[],rfl,λ_=>rfl,.bool true,ZGC l _,λ_=>⟨List.Pairwise.nil,λ_ hm=>(nomatch hm)⟩⟩,h2,h3,h4⟩
end Att
namespace L2
open PySem PySem.Spec PyProof.Rows
theorem ZDd:∀{vs:List Value} {ns:List Int},IntsAre vs ns->ZI (ns.map V.int) vs
 |_,_,.nil=>.nil
 |_,_,.cons n t h=>.cons ⟨t,rfl⟩ (ZDd h)
def ZMF(H:Hp):Prop:=∀b,H b=none∨∃o xs,H b=some (.frz o (.lst xs))
theorem ZGt{P:Program}{w:World}{K:PySem.W.Frag}{mg mb:Str->Option Value}{CX:CXT}{k:Nat}{fa a:Addr}{fd:FuncData}{x:Str}{sp:Sp}{s₁ : Shared}{vs:List Value}{ns:List Int}
  (KX:K.In s₁.heap)(hns:s₁.heap.Ns mainGlobals mg)(hb:s₁.heap.Ns builtinsNs mb)(hbb:∀x:Str,x≠"__name__"->mb x=bootBuiltins x)(hlim:s₁.heap.NoLimit)(hg:s₁.gens = #[])
  (ha:s₁.heap.get? a=some { cls:=.type "list",data:=.seq vs.toArray })(hi:IntsAre vs ns)(hl:ns.length<=sizeLine)(hr:Room k callerA)
  (F:∀base:Heap,K.In base->base.Ns mainGlobals mg->FnOk P w K mg base CX k fa fd [x] sp)(hbind:∀(s:Shared) (u:Value),BindsTo s fd ⟨[u],[]⟩ [(x,u)])
  (hsp:∀H:Hp,ZMF H->SqL K H a (ns.map V.int)->sp [.ref a] H (λv _=>v=.bl true) λ_ _ _=>False)
  (hCX:∀H e s',CX [] H s₁ (λ_ _ _=>False) e s'->False) :
  codeAny (model P w) callerA (.call (.ref fa) ⟨[.ref a],[]⟩) (λr s'=>r=.ok (.ret (.bool true))/\OldK s₁.heap s'.heap/\s'.os=s₁.os/\AllBare s'.gens) s₁:=by
 have rv:=ZDd hi;have lenV:=hi.length
 -- from an abstract heap in which nothing but the script may be tracked
 have core:∀H:Hp,ZMF H->SqL K H a (ns.map V.int)->HOk P w H s₁.heap->(∀b,H b≠none->b=a)->(H a≠none->K.lookup a=none) ->
   codeAny (model P w) callerA (.call (.ref fa) ⟨[.ref a],[]⟩) (λr s'=>r=.ok (.ret (.bool true))/\OldK s₁.heap s'.heap/\s'.os=s₁.os/\AllBare s'.gens) s₁:=by
  intro H hO hS hok hA hK;have base_of:∀{b:Addr} {o:Obj},s₁.heap.get? b=some o->H b=none->(ZEI s₁.heap H).get? b=some o:=λe n=>ZHq e n
  have noA:∀{b:Addr} {o:Obj} {es:Array DictEntry} {ep:Nat},s₁.heap.get? b=some o->o.data=.dict es ep->H b=none:=λ{b o es ep} e d=>by
   cases q:H b with
   |none=>rfl
   |some u =>
    have e':b=a:=hA b (by rw[q];simp);subst e';rw[ha] at e;cases e;have d':Data.seq vs.toArray _=Data.dict es ep:=d;cases d'
  have nsK:∀{b:Addr} {m:Str->Option Value},s₁.heap.Ns b m->(ZEI s₁.heap H).Ns b m:=λ{b m} ⟨o,es,ep,e,d,r⟩=>⟨o,es,ep,base_of e (noA e d),d,r⟩
  have hKb:K.In (ZEI s₁.heap H):=λ b o e=>base_of (KX b o e) (by
   cases q:H b with
   |none=>rfl
   |some u =>
    have e':b=a:=hA b (by rw[q];simp);subst e';rw[hK (by rw[q];simp)] at e;cases e)
  have hM:Mod K mg (ZEI s₁.heap H):=⟨hKb,nsK hns,⟨mb,nsK hb,hbb⟩,let ⟨mc,h1,h2⟩:=hlim;⟨mc,nsK h1,h2⟩⟩;have e0:Env0 P w K mg (ZEI s₁.heap H) callerA [] s₁ H:=⟨rfl,hM,λb o e=>ZI2 e,Nat.le_of_eq (ZGD _ _),trivial,λb hb=>absurd (show b∈([]:List Addr) from hb) (by simp),hok,.of_eq hg⟩;refine codeAny_mono ((F _ hKb (nsK hns)).run callerA [] s₁ H ⟨[.ref a],[]⟩ [.ref a] [.ref a] _ _ hr e0 (hbind s₁ (.ref a)) (.cons rfl .nil) (hsp H hO hS)) λr s' h=>?_
  cases r with
  |error e=>exact(hCX H e s' h).elim
  |ok fl =>
   cases fl with
   |next=>exact False.elim h
   |brk=>exact False.elim h
   |cont=>exact False.elim h
   |ret u =>
    obtain⟨v,H',os,bare,un,hok',r',q⟩:=h;have q':v=.bl true:=q;subst q';obtain rfl:u=Value.bool true:=r';refine⟨rfl,OldK.of_keep λb o e=>?_,os,bare⟩;cases q:H b with
    |none=>exact un.keep b o e q (by intro z;exact absurd (show b∈([]:List Addr) from z) (by simp)) (by simp)
    |some u =>
     rcases hO b with z|⟨ob,xs,z⟩
     ·rw[q] at z;cases z
     ·have z2:=un.frzs b ob _ z
      obtain⟨e1,_⟩:=hok b _ z;obtain⟨e2,_⟩:=hok' b _ z2;rw[e] at e1;cases e1;exact e2
 cases hk:K.lookup a with
 |some o =>
  -- the script is one of the module's own objects
  have e:=KX a o hk;rw[ha] at e;cases e;refine core (λ_=>none) (λ_=>.inl rfl) (.inr ⟨_,vs.toArray,_,hk,rfl,rfl,rfl,by rw[size_toArray,lenV];exact hl,by simpa using rv⟩) (λb u z=>by have z':(none:Option HO)=some u:=z;cases z') (λb z=>absurd rfl z) λz=>absurd rfl z
 |none =>
  refine core (λb=>if b=a then some (.frz { cls:=.type "list",data:=.seq vs.toArray } (.lst (ns.map V.int))) else none) (λb=>?_) (.inl (.inr ⟨{ cls:=.type "list",data:=.seq vs.toArray },if_pos rfl⟩)) (λb u z=>?_) (λb z=>?_) λ_=>hk
  ·by_cases hb:b=a
   ·exact .inr ⟨_,_,if_pos hb⟩
   ·exact .inl (if_neg hb)
  ·by_cases hb:b=a
   ·have z':=(if_pos hb).symm.trans z
    cases z';subst hb;exact⟨ha,by rw[length_map];exact hl,vs,_,rv,ha⟩
   ·have z':=(if_neg hb).symm.trans z
    cases z'
  ·by_cases hb:b=a
   ·exact hb
   ·exact absurd (if_neg hb) z
theorem walk_of{l:PySem.W.OpenLaw}{n k:Nat}{q:Program}{loose:List Str}{XP:(Str->Option Value)->Heap->Prop}{YP:World->Heap->Prop}{d:DefRec}{K:Params->PySem.W.Frag}{CX:World->CXT}{sp:World->Sp}{x:Str}
  (hn:l.most=some n)(hn2:n<=sizeLine)(hdf:d.params.defaults=[])(hr:Room k callerA)
  (hY:∀(w:World) (h:Heap),YP w h->(K w.params).In h)
  (F:∀ (w:World) (mg:Str->Option Value) (fa:Addr) (h:Heap),(K w.params).In h->h.Ns mainGlobals mg->mg d.name=some (.ref fa) ->
   ∃fd:FuncData,(∀(s:Shared) (u:Value),BindsTo s fd ⟨[u],[]⟩ [(x,u)]) /\
    ∀base:Heap,(K w.params).In base->base.Ns mainGlobals mg->FnOk l.prog w (K w.params) mg base (CX w) k fa fd [x] (sp w))
  (hsp:∀(w:World) (H:Hp) (a:Addr) (ns:List Int),ns.length<=n->ZMF H->SqL (K w.params) H a (ns.map V.int)->sp w [.ref a] H (λv _=>v=.bl true) λ_ _ _=>False)
  (hCX:∀(w:World) (H:Hp) (s:Shared) (e:Value) (s':Shared),CX w [] H s (λ_ _ _=>False) e s'->False) :
  PySem.W.WalkO q loose XP YP l.row.toRowW d [] (λf vs=>PySem.call f vs):=by
 refine Att.attach_call hn hdf λw s₀ s₁ mg mb fa o pm cd doc a vs ns G Y ho hd hcd hmg hobj hints hlen hg=>?_
 have KX:=hY w _ Y;obtain⟨fd,hb,hF⟩:=F w mg fa _ KX G.T.g hmg;exact ZGt KX G.T.g G.T.b G.T.builtins G.T.nolimit hg hobj hints (le_trans hlen hn2) hr hF hb (λH hO hS=>hsp w H a ns hlen hO hS) λH e s'=>hCX w H s₁ e s'
def ZA2(s:Stmt):Arguments:=match s with
 |.FunctionDef _ a _ _ _ _ _ _ _ _=>a
 |_=>{ posonlyargs:=[],args:=[],vararg:=none,kwonlyargs:=[],kw_defaults:=[],kwarg:=none,defaults:=[] }
def Z5(s:Stmt):List Stmt:=match s with
 |.FunctionDef _ _ b _ _ _ _ _ _ _=>b
 |_=>[]
def ZD(s:Stmt):Scope:=match s with
 |.FunctionDef _ _ _ _ _ _ sc _ _ _=>sc
 |_=>{ kind:=.function,names:=[],isGenerator:=false,isCoroutine:=false }
abbrev CX0:CXT:=λ_ _ _ _ _ _=>False
abbrev E0:XK:=λ_ _ _=>False
theorem pass0{X:Cx}:ZFK CX0 X E0:=λ_ _ _ _ _ _ _ h=>h.elim
structure Fun (K:PySem.W.Frag) (x qual:Str) (st:Stmt) (f:Addr) (fd:FuncData):Prop where
 ex:∃(oc:Value) (od:Option Addr) (kV doc pm:Value) (an:Option Addr) (cdv ct:Value) (osl:Array (Option Value)),
  fd=PySem.W.fnOf x qual (ZA2 st) (Z5 st) (ZD st) .none kV doc pm an cdv ct/\K.lookup f=some ⟨oc,od,.func fd,osl⟩/\PySem.W.codeIn K cdv qual=true
 kp:PySem.W.keepIn K (.ref f)=true
section
variable{P:Program}{w:World}{K:PySem.W.Frag}{mg:Str->Option Value}{base:Heap}
theorem Fun.ok{x qual:Str}{st:Stmt}{f:Addr}{fd:FuncData}{N ps:List Str}{k:Nat}{sp:Sp}(F:Fun K x qual st f fd)(S:FnScope N ps (ZD st))(len:∀vs H Q E,sp vs H Q E->vs.length=ps.length)
  (hbody:∀ (cdv:Value) (A:Around) (outer:List Env) (s:Shared) (H:Hp) (vs:List V) (Q:VK) (E:XK),Room k (A.deeper (envOfC qual (ZD st) s.heap.objs.size f cdv))->sp vs H Q E ->
   ∃t,PSs (ZEw CX0 P w K mg base N qual (ZD st) f cdv A outer s H E).nox (Z5 st) t/\t { nx:=λ_ H'=>Q .non H',rt:=Q } (ZBq N vs) H):FnOk P w K mg base CX0 (k+1) f fd ps sp:=by
 obtain⟨oc,od,kV,doc,pm,an,cdv,ct,osl,rfl,lk,hcd⟩:=F.ex;refine fn_of lk hcd S len λA outer s H vs Q E hr hsp=>?_
 obtain⟨t,h,q⟩:=hbody cdv A outer s H vs Q E hr hsp;exact⟨t,h.nox,q⟩
theorem Fun.binds{x qual:Str}{st:Stmt}{f:Addr}{fd:FuncData}{ps:List Str}(F:Fun K x qual st f fd)
  (h:∀(kV doc pm:Value) (an:Option Addr) (cdv ct:Value) (us:List Value),us.length=ps.length->bindArgs (PySem.W.fnOf x qual (ZA2 st) (Z5 st) (ZD st) .none kV doc pm an cdv ct) ⟨us,[]⟩=pure (ps.zip us)):ZDf K fd ps []:=by
 obtain⟨oc,od,kV,doc,pm,an,cdv,ct,osl,rfl,lk,hcd⟩:=F.ex;exact .all (h kV doc pm an cdv ct)
theorem ZIF{x qual:Str}{st:Stmt}{f:Addr}{oc:Value}{od an:Option Addr}{osl:Array (Option Value)}{kV doc pm cdv ct:Value}(l:K.lookup f=some ⟨oc,od,.func (PySem.W.fnOf x qual (ZA2 st) (Z5 st) (ZD st) .none kV doc pm an cdv ct),osl⟩)
  (c:PySem.W.codeIn K cdv qual=true)(k:PySem.W.keepIn K (.ref f)=true):Fun K x qual st f (PySem.W.fnOf x qual (ZA2 st) (Z5 st) (ZD st) .none kV doc pm an cdv ct):=⟨⟨oc,od,kV,doc,pm,an,cdv,ct,osl,rfl,l,c⟩,k⟩
end
theorem Zc{n:Nat}(h:n<=1000):n<sizeLine:=Nat.lt_of_le_of_lt h (by decide)
theorem iteF{A B:Prop}(h:B):if false=true then A else B:=by
 rw[if_neg Bool.false_ne_true];exact h
theorem iteT{A B:Prop}(h:A):if true=true then A else B:=by
 rw[if_pos rfl];exact h
def Same(H H':Hp):Prop:=∀b o,H b=some o->H' b=some o
theorem Same.refl(H:Hp):Same H H:=λ_ _ h=>h
end L2
namespace HT
open PySem PyProof.Rows
def lexGt:List Int->List Int->Bool
 |[],[]=>false
 |[],_::_=>false
 |_::_,[]=>true
 |x::xs,y::ys=>if x=y then lexGt xs ys else decide (y<x)
theorem ZFV(x y:Int)(xs ys:List Int):lexGt (x::xs) (y::ys)=if x=y then lexGt xs ys else decide (y<x):=rfl
theorem ZDJ:lexGt [] []=false:=rfl
theorem ZCx(y:Int)(ys:List Int):lexGt [] (y::ys)=false:=rfl
theorem ZCd(x:Int)(xs:List Int):lexGt (x::xs) []=true:=rfl
theorem ZHw(A:Around)(s:Shared)(a:Int)(t:Tok)(c:Int)(u:Tok)(prog:Program)(w:World)(E:Value->Shared->Prop)(Q:Value->Shared->Prop)(h:Q (.bool (decide (c<a))) s) :
  wpAny (model prog w) A (richCompare .Gt (.int a t) (.int c u)) Q E s :=
 (PyProof.Rows.gt_int h:wpAny (model prog w) A (compareOp .Gt (.int a t) (.int c u)) Q E s)
section
open PySem.SeqAt
open PySem.AutoSeq1 (wpAny_loadPart')
open PySem.MeetsSeq PySem.MeetsSeq2 PySem.MeetsSeq3
theorem ZDK(l b:Addr)(items items2:Array Value)(n n2:Nat)(dd dd2:Option Addr)(sl sl2:Array (Option Value))(ns ms:List Int)(hi:IntsAre items.toList ns)(hj:IntsAre items2.toList ms) :
  Meets (Builtin.«tuple.__gt__» ⟨[.ref l,.ref b],[]⟩)
   (λ _ R s=>s.heap.get? l=some { cls:=.type "tuple",dict:=dd,data:=.seq items n,slots:=sl }/\s.heap.get? b=some { cls:=.type "tuple",dict:=dd2,data:=.seq items2 n2,slots:=sl2 } /\
    R (.ok (.ret (.bool (lexGt ns ms)))) s) :=
 .of_wp λprog w A R s h=>by
  obtain⟨hp,g,d,tk,os⟩:=s;obtain⟨hl,hb,h⟩:=h;have f2:=AutoSeq1.sub_tuple_tuple;have z1:items.size=ns.length:=by rw[←hi.length];simp
  have z2:items2.size=ms.length:=by rw[←hj.length];simp
  wp_walk using wpAny_loadPart' hl,wpAny_loadPart' hb,wpAny_forIn_list _ (λ rest b s'=>b.1=none/\s'=⟨hp,g,d,tk,os⟩/\∃ (vs ws:List Value) (ns' ms':List Int),rest=vs.zip ws /\
   IntsAre vs ns'/\IntsAre ws ms'/\ns'.length+items2.size=ms'.length+items.size/\R (.ok (.ret (.bool (lexGt ns' ms')))) ⟨hp,g,d,tk,os⟩) _
  case turn =>
   rintro ⟨y,x⟩ rest b s' ⟨hb',rfl,vs,ws,ns',ms',hz,hvi,hwi,hlen,hR⟩
   cases hvi with
   |nil=>rw[zip_nil_left] at hz;cases hz
   |cons a t hvi' =>
    cases hwi with
    |nil=>rw[List.zip_nil_right] at hz;cases hz
    |cons c u hwi' =>
     rw[zip_cons_cons] at hz;injection hz with hyx hrest
     injection hyx with hy hx
     subst hy hx;rw[ZFV] at hR;simp only[length_cons] at hlen;obtain⟨e,he,hiff⟩:=ZCp A.in1 ⟨hp,g,d,tk,os⟩ a t c u;refine wpAny_bind (he prog w _ _ ?_);cases e with
     |true =>
      rw[if_pos (hiff.mp rfl)] at hR
      wp_walk
      exact⟨rfl,rfl,_,_,_,_,hrest,hvi',hwi',by omega,hR⟩
     |false =>
      rw[if_neg (λq=>absurd (hiff.mpr q) Bool.false_ne_true)] at hR;have hri:=ZHw A.in1 ⟨hp,g,d,tk,os⟩ a t c u prog w
      wp_walk using hri
      exact⟨_,rfl,by simpa using hR⟩
  case fin =>
   rintro ⟨b1,b2⟩ s' ⟨hb',rfl,vs,ws,ns',ms',hz,hvi,hwi,hlen,hR⟩
   simp only at hb';subst hb';have hv:lexGt ns' ms'=decide (items.size > items2.size):=by
    cases hvi with
    |nil =>
     cases hwi with
     |nil =>
      simp only[length_nil] at hlen;rw[ZDJ];exact(decide_eq_false (by omega)).symm
     |cons c u hw =>
      simp only[length_nil,length_cons] at hlen;rw[ZCx];exact(decide_eq_false (by omega)).symm
    |cons a t hv =>
     cases hwi with
     |nil =>
      simp only[length_nil,length_cons] at hlen;rw[ZCd];exact(decide_eq_true (by omega)).symm
     |cons c u hw =>
      rw[zip_cons_cons] at hz;cases hz
   rw[hv] at hR
   wp_walk
   exact⟨_,rfl,by simpa [Builtin.Tuple.tupleCompareSizes] using hR⟩
  case h =>
   exact⟨rfl,rfl,items.toList,items2.toList,ns,ms,rfl,hi,hj,by omega,h⟩
end
section
variable{prog:Program}{w:World}{A:Around}{E:Value->Shared->Prop}{s:Shared}
theorem gt_tupInts{l b:Addr}{items items2:Array Value}{ns ms:List Int}{Q:Value->Shared->Prop}(hl:IsTup s.heap l items)(hb:IsTup s.heap b items2)(hi:IntsAre items.toList ns)(hj:IntsAre items2.toList ms)
  (hu:A.units<cLine)(h:Q (.bool (lexGt ns ms)) s):wpAny (model prog w) A (compareOp .Gt (.ref l) (.ref b)) Q E s:=by
 obtain⟨⟨cls,dd,data,sl⟩,ho,hc,n,hd⟩:=id hl;obtain⟨⟨cls2,dd2,data2,sl2⟩,ho2,hc2,n2,hd2⟩:=id hb;simp only at hc hd hc2 hd2;subst hc hd hc2 hd2;exact richCompare_meets_room (op:=.Gt) ⟨_,ho,rfl⟩ ⟨_,ho2,rfl⟩ PySem.F.slot_tuple_gt PySem.F.entry_tuple_gt (PySem.F.args_tuple_gt_2 _ _) (ZDK l b items items2 n n2 dd dd2 sl sl2 ns ms hi hj)
  ⟨ho,ho2,show Value.bool (lexGt ns ms)≠Value.notImplemented/\Q (.bool (lexGt ns ms)) s from ⟨(λx=>nomatch x),h⟩⟩ hu
end
end HT
namespace L2
open PySem PySem.Spec PyProof.Rows
section
variable{X:Cx}{a b:Expr}{ta tb:TE}{pos:Pos}
def rGtT(K:PySem.W.Frag):R2:=λx y H Q=>∃a b ns ms,x=.ref a/\y=.ref b/\SqT K H a (ns.map V.int)/\SqT K H b (ms.map V.int)/\Q (.bl (HT.lexGt ns ms)) H
theorem ZL8(hu:X.A.units<cLine):OpR X (compareOp .Gt) (rGtT X.K):=by
 intro pins s σ H x y v u Q I rx ry h;obtain⟨a,b,ns,ms,rfl,rfl,ha,hb,q⟩:=h;cases rx;cases ry;obtain⟨its,r1,p1,_⟩:=I.tuple ha;obtain⟨its2,r2,p2,_⟩:=I.tuple hb;have i1:IntsAre its.toArray.toList ns:=Z0 r1;have i2:IntsAre its2.toArray.toList ms:=Z0 r2;exact HT.gt_tupInts p1 p2 i1 i2 hu ⟨.bl (HT.lexGt ns ms),H,I,rfl,q⟩
def CDivL(i j:Int):Prop:=0<j/\j<2 ^ 64
theorem ZHt:OpR X (binaryOp .FloorDiv) (rI CDivL λi j=>.int (i / j)):=opI λi j _ _ _ _ _ hc q=>by
 have h1:(0:Int)<j:=hc.1;have h2:j<2 ^ 64:=hc.2;have e:i.fdiv j=i / j:=Int.fdiv_eq_ediv_of_nonneg i (Int.le_of_lt h1);refine floordiv_int (by omega) (by rw[e];exact q) (.inl (PyProof.noPylong_of_log2 ?_));have h3:j.natAbs<2 ^ 64:=by omega
 have h4:j.natAbs≠0:=by omega
 have h5:j.natAbs.log2<64:=(Nat.log2_lt h4).mpr h3;omega
end
end L2
namespace H1
open PySem PySem.Spec PyProof.Rows L2
structure Def (K:PySem.W.Frag) (mg:Str->Option Value) (x:Str) (st:Stmt) (ps:List Str) (f:Addr) (fd:FuncData):Prop where
 at_:mg x=some (.ref f)
 fn:Fun K x x st f fd
 bd:ZDf K fd ps []
theorem pcall{X:Cx}{x:Str}{st:Stmt}{ps:List Str}{f:Addr}{fd:FuncData}{sp:Sp}{k:Nat}{e:Expr}{es:List Expr}{t:TA}{p pos:Pos}(D:Def X.K X.mg x st ps f fd)(G:FnOk X.prog X.w X.K X.mg X.base CX0 k f fd ps sp)(hr:Room k X.A)
  (ha:PA X (e::es) t)(hg:Gl X x:=by rfl)(hdb:(x == ("__debug__" : Str))=false:=by decide)(he:starEach (e::es) X.env=(false,eval e X.env)::starEach es X.env:=by rfl)(hpl:(backTo pos (starEach es X.env)).any (·.1)=false:=by rfl) :
  PE X (.Call (.Name x p) (e::es) [] pos) (ZKC sp [] E0 t):=ZJN G hr hg D.at_ D.fn.kp D.bd .nil pass0 ha hdb he hpl
theorem Same.upd{H:Hp}{p:Addr}{o:HO}(h:H p=none):Same H (upd H p o):=λa u e=>by rw[ZE (ZF e h)];exact e
theorem ib1(k:Bool) : -(2 ^ 64)<(if k=true then (1:Int) else 0)/\(if k=true then (1:Int) else 0)<2 ^ 64:=by cases k <;> decide
end H1
namespace HI
open PySem PyProof.Rows
section
variable{prog:Program}{w:World}{A:Around}{E:Value->Shared->Prop}{s:Shared}
theorem drawT{j t:Addr}{i:Nat}{its:Array Value}{x:Value}{Q:Value->Shared->Prop}(hj:s.heap.IsTupleIter j t i)(ht:s.heap.IsTuple t its)(hx:its[i]? = some x)
  (k:∀h',h'.IsTupleIter j t (i+1)->Heap.SameBut j s.heap h'->Q x { s with heap:=h' }):wpAny (model prog w) A (Builtin.SmallTypes.nextOf (.ref j)) Q E s:=by
 obtain⟨oj,ej,cj,dj⟩:=id hj;obtain⟨ot,et,_,nt,dt⟩:=ht;unfold Builtin.SmallTypes.nextOf;refine wpAny_bind (wpAny_callSpecial?_slot (name:=Str.ofString "__next__") hj.typeIs F.slot_tuple_iterator_next (wpAny_call_entry F.slot_tuple_iterator_next hj.typeIs F.entry_tuple_iterator_next ?_ (F.args_tuple_iterator_next_1 _)));refine wpAny_bind (m:=field (.ref j) 0) (wpAny_field ej dj (x:=.ref t) rfl ?_);show wpAny _ _ (if (Value.ref t == Value.none)=true then _ else field (.ref j) 1 >>= _) _ _ s;rw[if_neg (by intro z;cases z)];refine wpAny_bind (m:=field (.ref j) 1) (wpAny_field ej dj (x:=.int i 0) rfl (wpAny_bind (m:=seqItems? (.ref t)) (wpAny_seqItems et dt ?_)));simp only[toNat_natCast,hx];refine wpAny_bind (wpAny_setField ej dj (by simp) (wpAny_pure ⟨_,rfl,wpAny_pure (k _ ?_ (Heap.SameBut.update ..))⟩));refine⟨_,get?_update_self _ ej (Obj.isFreed_of_fields (Obj.data_mapFields dj _)),(Obj.cls_mapFields ..).trans cj,?_⟩;rw[Obj.data_mapFields dj];simp[rawInt]
theorem ZF7{j t:Addr}{i:Nat}{its:Array Value}{Q:Value->Shared->Prop}(hh:A.handled=none)(hj:s.heap.IsTupleIter j t i)(ht:s.heap.IsTuple t its)(hx:its[i]? = none)
  (k:∀h' e,Heap.ExtBut j s.heap h'->(∃o,h'.get? e=some o/\o.cls=.type "StopIteration")->E (.ref e) { s with heap:=h' }):wpAny (model prog w) A (Builtin.SmallTypes.nextOf (.ref j)) Q E s:=by
 obtain⟨oj,ej,cj,dj⟩:=id hj;obtain⟨ot,et,_,nt,dt⟩:=ht;unfold Builtin.SmallTypes.nextOf;refine wpAny_bind (wpAny_callSpecial?_slot (name:=Str.ofString "__next__") hj.typeIs F.slot_tuple_iterator_next (wpAny_call_entry F.slot_tuple_iterator_next hj.typeIs F.entry_tuple_iterator_next ?_ (F.args_tuple_iterator_next_1 _)));refine wpAny_bind (m:=field (.ref j) 0) (wpAny_field ej dj (x:=.ref t) rfl ?_);show wpAny _ _ (if (Value.ref t == Value.none)=true then _ else field (.ref j) 1 >>= _) _ _ s;rw[if_neg (by intro z;cases z)];refine wpAny_bind (m:=field (.ref j) 1) (wpAny_field ej dj (x:=.int i 0) rfl (wpAny_bind (m:=seqItems? (.ref t)) (wpAny_seqItems et dt ?_)));simp only[toNat_natCast,hx];refine wpAny_bind (wpAny_rule (wpAny_bind (wpAny_setField ej dj (by simp) ?_)));refine wpAny_bind (m:=newExc (.type "StopIteration") []) ?_;simp only[newExc,newTuple];refine wpAny_bind (wpAny_newObj_type (wpAny_bind (m:=firstArgMember _ _) (wpAny_of_eq (a:=Value.none) (by first|rfl|(simp only[firstArgMember];rfl)) (wpAny_newObj_type ?_ (by size_fits)))) (by size_fits));simp only[raiseNew];refine wpAny_bind (wpAny_handled ?_)
 first
  |rw[show A.in1.handled=none from hh]
  |rw[hh]
 exact wpAny_bind (wpAny_pure (wpAny_throw (k _ _ (((Heap.SameBut.update ..).extBut.push _).push _) ⟨_,get?_push_size _ rfl,rfl⟩)))
end
abbrev nm(q:Bool):String:=cond q "tuple_iterator" "list_iterator"
def Zg(q:Bool)(h:Heap)(i l:Addr)(k:Nat):Prop:=∃o,h.get? i=some o/\o.cls=.type (nm q)/\o.data=.fields #[.ref l,.int k 0]
def IsSq(q:Bool)(h:Heap)(l:Addr)(xs:Array Value):Prop:=∃o,h.get? l=some o/\o.cls=.type (cond q "tuple" "list")/\∃n,o.data=.seq xs n
section
variable{prog:Program}{w:World}{A:Around}{E:Value->Shared->Prop}{s:Shared}{q:Bool}
theorem ZDl{j t:Addr}{i:Nat}{its:Array Value}{x:Value}{Q:Value->Shared->Prop}(hj:Zg q s.heap j t i)(ht:IsSq q s.heap t its)(hx:its[i]? = some x)
  (k:∀h',Zg q h' j t (i+1)->Heap.SameBut j s.heap h'->Q x { s with heap:=h' }):wpAny (model prog w) A (Builtin.SmallTypes.nextOf (.ref j)) Q E s:=by
 cases q
 ·exact wpAny_nextOf_list_item hj ht hx k
 ·exact drawT hj ht hx k
theorem ZBO{j t:Addr}{i:Nat}{its:Array Value}{Q:Value->Shared->Prop}(hh:A.handled=none)(hj:Zg q s.heap j t i)(ht:IsSq q s.heap t its)(hx:its[i]? = none)
  (k:∀h' e,Heap.ExtBut j s.heap h'->(∃o,h'.get? e=some o/\o.cls=.type "StopIteration")->E (.ref e) { s with heap:=h' }):wpAny (model prog w) A (Builtin.SmallTypes.nextOf (.ref j)) Q E s:=by
 cases q
 ·exact wpAny_nextOf_list_end hh hj ht hx k
 ·exact ZF7 hh hj ht hx k
theorem itG{l:Addr}{items:Array Value}{Q:Value->Shared->Prop}(hl:IsSq q s.heap l items)(hQ:Q (.ref s.heap.objs.size) { s with heap:=s.heap.push { cls:=.type (nm q),data:=.fields #[.ref l,.int 0 0] } }):wpAny (model prog w) A (pyIter (.ref l)) Q E s:=by
 cases q
 ·exact wpAny_pyIter_list hl hQ
 ·exact wpAny_pyIter_tuple hl hQ
end
end HI
namespace L2
open PySem PySem.Spec PyProof.Rows
def SqG(q:Bool)(K:PySem.W.Frag)(H:Hp)(a:Addr)(xs:List V):Prop:=cond q (SqT K H a xs) (SqL K H a xs)
section
variable{X:Cx}{pins:List (Addr×Obj)}{σ : List (Option V)}{H:Hp}{s:Shared}{q:Bool}{a:Addr}{xs ys:List V}
theorem Inv.sq(I:Inv X pins σ H s)(h:SqG q X.K H a xs):∃its:List Value,ZI xs its/\HI.IsSq q s.heap a its.toArray/\xs.length<=sizeLine:=by
 cases q
 ·obtain⟨its,r,p,z⟩:=I.list h
  exact⟨its,r,p.isList,z⟩
 ·exact I.tuple h
theorem Inv.sq_inj(I:Inv X pins σ H s)(h:SqG q X.K H a xs)(h':SqG q X.K H a ys):xs=ys:=by
 cases q
 ·exact I.list_inj h h'
 ·exact I.tuple_inj h h'
end
def ZMP(q:Bool)(K:PySem.W.Frag)(a:Addr):It :=
 ⟨λi H=>∃xs x,SqG q K H a xs/\xs[i]? = some x,λi H v H'=>∃p x,v=.ref p/\H p=none/\H'=upd H p (.tup [.int i,x])/\∀xs,SqG q K H a xs->xs[i]? = some x,λi H=>∃xs,SqG q K H a xs/\xs.length<=i⟩
abbrev Ite:=ZMP true
theorem ZJU{env:Env}(ns:List (Str×NameKind))(h:∀x∈ns,x.2=.free->∃c,env.cells.lookup x.1=some c):∀cs:List (Str×Addr),
  ∃ cl:List (Str × Addr),(forIn ns cs λ x r=>do
   let mut cs:=r
   if x.2 == .free then cs:=(x.1,←cellOf env x.1)::cs
   pure (ForInStep.yield cs):Sem (List (Str×Addr)))=pure cl /\
   (∀x c,cl.lookup x=some c->cs.lookup x=some c∨env.cells.lookup x=some c) /\
   (∀x,(cs.lookup x).isSome=true->(cl.lookup x).isSome=true)/\∀x,(x,NameKind.free)∈ns->(cl.lookup x).isSome=true:=by
 induction ns with
 |nil=>exact λcs=>⟨cs,rfl,λ_ _ e=>.inl e,λ_ e=>e,λ_ z=>nomatch z⟩
 |cons y r ih =>
  intro cs;obtain⟨n,k⟩:=y;have ih:=ih λx hx=>h x (mem_cons_of_mem _ hx)
  by_cases hk:k=.free
  ·subst hk
   obtain⟨c,hc⟩:=h (n,.free) mem_cons_self rfl;obtain⟨cl,e,p1,p2,p3⟩:=ih ((n,c)::cs);refine⟨cl,?_,λx c' q=>?_,λx q=>p2 x ?_,λx q=>?_⟩
   ·rw[forIn_cons]
    have hce:cellOf env n=pure c:=by
     unfold cellOf;rw[show env.cells.lookup n=some c from hc]
    simp only[beq_self_eq_true,if_true];rw[hce];exact e
   ·rcases p1 x c' q with q|q
    ·rw[lookup_cons] at q
     cases hx:x == n with
     |true=>rw[hx] at q;cases q;rw[eq_of_beq hx];exact .inr hc
     |false=>rw[hx] at q;exact .inl q
    ·exact .inr q
   ·rw[lookup_cons]
    cases hx:x == n with
    |true=>rfl
    |false=>exact q
   ·rcases List.mem_cons.mp q with z|z
    ·cases z
     exact p2 _ (by rw[lookup_cons];simp)
    ·exact p3 x z
  ·obtain⟨cl,e,p1,p2,p3⟩:=ih cs
   refine⟨cl,?_,p1,p2,λx q=>?_⟩
   ·rw[forIn_cons]
    have hb:(k == NameKind.free)=false:=by simpa using hk
    simp only[hb];exact e
   ·rcases List.mem_cons.mp q with z|z
    ·cases z;exact absurd rfl hk
    ·exact p3 x z
theorem ZBV{env:Env}{scope:Scope}(h:∀x∈scope.names,x.2=.free->∃c,env.cells.lookup x.1=some c) :
  ∃cl:List (Str×Addr),closureFor scope env=pure cl/\(∀x c,cl.lookup x=some c->env.cells.lookup x=some c)/\∀x,(x,NameKind.free)∈scope.names->(cl.lookup x).isSome=true:=by
 obtain ⟨cl,e,p1,_,p3⟩:=ZJU scope.names h [];refine ⟨cl,?_,λ x c q=>(p1 x c q).elim (λ z=>by cases z) id,p3⟩;unfold closureFor;have e2:(forIn scope.names ([]:List (Str × Addr)) λ x r=>do
   let mut cs:=r
   if x.2 == .free then cs:=(x.1,←cellOf env x.1)::cs
   pure (ForInStep.yield cs):Sem (List (Str×Addr))) >>= (λcs=>pure cs)=pure cl:=by rw[e];rfl
 exact e2
abbrev blk(X:Cx)(N:List Str)(env:Env)(s:Shared)(H:Hp)(ex:List Addr):Cx:={ X with N:=N,s₀:=s,H₀:=H,env:=env,outer:=X.stack,stack:=X.stack,ex:=ex,fn:=λ_=>false,pn:=[],xe:=λ_ _=>False }
section
variable{X:Cx}{pins:List (Addr×Obj)}{σ : St}{H:Hp}{s:Shared}{fp:List Addr}{env:Env}{N:List Str}
theorem ZKp(I:Inv X pins σ H s)(hf:∀b∈fp,ZCK X pins H b)(hob:∀b∈fp,∃o,s.heap.get? b=some o)(hC:s.heap.objs.size<=env.locals)(hk:env.scope.kind=.function)(hg:env.globals=X.env.globals)(hb:env.builtins=X.env.builtins)
  (hsub:∀x c,env.cells.lookup x=some c->X.env.cells.lookup x=some c)(hhas:∀x,(env.kindOf x=some .cell∨env.kindOf x=some .free)->∃c,env.cells.lookup x=some c):(blk X N env s H fp).Ok where
 mod:=I.ok.mod
 kind:=hk
 glob:=hg.trans I.ok.glob
 blt:=hb.trans I.ok.blt
 above:=hC
 inj:=λx y c e1 e2=>I.ok.inj x y c (hsub x c e1) (hsub y c e2)
 has:=hhas
 cab:=λ_ _ z=>by cases z
 hd:=I.ok.hd
 frames:=I.ok.frames
 stk:=.inl rfl
 exf:=λb hb'=>by
  obtain⟨o,e⟩:=hob b hb';exact⟨ne_of_lt (lt_of_lt_of_le (lt_size e) hC),λx c q=>(hf b hb').2.2.2.2.1 x c (hsub x c q)⟩
 bs:=I.bs
 bsz:=le_trans I.ok.bsz I.sz
 noex:=λb o e hb'=>by
  rcases(hf b hb').2.2.2.1 with z|z
  ·exact I.ok.noex b o e z
  ·exact absurd (lt_of_lt_of_le (lt_size e) (le_trans I.ok.bsz z)) (lt_irrefl _)
 exfs:=λb hb' z=>by
  rcases List.mem_cons.mp (I.stkSub b z) with q|q
  ·exact(hf b hb').2.1 q
  ·exact(hf b hb').2.2.1 q
 funs:=I.stack
 frf:=I.stkFree
theorem ZI8{h1:Heap}{tk:Nat}{σ':St}{m:Str->Option Value}(I:Inv X pins σ H s)(hf:∀b∈fp,ZCK X pins H b)(hob:∀b∈fp,∃o,s.heap.get? b=some o)(hC:s.heap.objs.size<=env.locals)(hk:env.scope.kind=.function)(hg:env.globals=X.env.globals)(hb:env.builtins=X.env.builtins)
  (hsub:∀x c,env.cells.lookup x=some c->X.env.cells.lookup x=some c)(hhas:∀x,(env.kindOf x=some .cell∨env.kindOf x=some .free)->∃c,env.cells.lookup x=some c)
  (keep:∀b u,s.heap.get? b=some u->h1.get? b=some u)(hn:h1.Ns env.locals m)(hlen : σ'.length=N.length)
  (hcap:∀(i:Nat) (x:Str) (v:V),N[i]? = some x->σ'[i]? = some (some v)->(env.kindOf x=some .cell∨env.kindOf x=some .free)/\X.env.kindOf x≠some .local/\Vis X.env.scope x/\∃j:Nat,X.N[j]? = some x/\σ[j]? = some (some v)) :
  Inv (blk X N env s H fp) [] σ' H { s with heap:=h1,toks:=tk } where
 ok:=ZKp I hf hob hC hk hg hb hsub hhas
 os:=rfl
 bare:=I.bare
 base:=Un.kept keep
 loc:=⟨m,hn,λi x v e1 e2 _=>by
  obtain⟨k1,k2,k3,j,e3,e4⟩:=hcap i x v e1 e2;obtain⟨m0,_,hl⟩:=I.loc;obtain⟨u,r,l⟩:=hl j x v e3 e4 k3;refine⟨u,r,?_⟩;rcases l with ⟨z,_⟩|⟨_,c,ec,o,ho,hd⟩
  ·exact absurd z k2
  ·obtain⟨c',ec'⟩:=hhas x k1
   have ee:c'=c:=by
    have q:=hsub x c' ec';rw[ec] at q;exact(Option.some.inj q).symm
   subst ee;exact .inr ⟨k1,c',ec',o,keep _ _ ho,hd⟩⟩
 cell:=λx c e=>by
  obtain⟨v,o,ho,hd⟩:=I.cell x c (hsub x c e);exact⟨v,o,keep _ _ ho,hd⟩
 free:=I.hok.fresh hC
 freeC:=λx c e=>I.freeC x c (hsub x c e)
 pin:=λp hp=>by cases hp
 hok:=I.hok.kept keep
 len:=hlen
theorem Un.but{fs ex:List Addr}{H H':Hp}{h h1 h2:Heap}{C:Addr}(u:Un fs ex H H' h h1)(sb:Heap.SameBut C h1 h2)(hC:h.objs.size<=C):Un fs ex H H' h h2:=by
 have k:∀b o,h.get? b=some o->h2.get? b=h1.get? b:=λb o e=>sb.2 b (ne_of_lt (lt_of_lt_of_le (lt_size e) hC))
 exact⟨λb o e n h3 h4=>(k b o e).trans (u.keep b o e n h3 h4),λb o e n h3 h4=>by
  obtain⟨sl,q⟩:=u.slot b o e n h3 h4;exact⟨sl,(k b o e).trans q⟩,u.free,λb o e h3=>by
  obtain⟨o',q⟩:=u.there b o e h3;exact⟨o',(k b o e).trans q⟩,u.tups,u.frzs,u.tbls⟩
theorem ZJZ{σ':St}{H':Hp}{s':Shared}{h2:Heap}(I:Inv X pins σ H s)(hf:∀b∈fp,ZCK X pins H b)(hC:s.heap.objs.size<=env.locals)(J:Inv (blk X N env s H fp) [] σ' H' s')(sb:Heap.SameBut env.locals s'.heap h2):Inv X pins σ H' { s' with heap:=h2 }:=by
 refine I.call' (ch:=fp) J.os (J.base.but sb hC) (λb u e=>?_) J.bare λb hb=>⟨(hf b hb).2.2.2.1,(hf b hb).2.1,(hf b hb).2.2.2.2.1,(hf b hb).2.2.2.2.2⟩
 refine(J.hok b u e).stay (λc v hc q=>(sb.2 c ?_).trans q) (λ_ q=>q) λ_ _ q=>q
 intro z;have n:=J.free;rcases hc with q|q
 ·rw[←q,z] at e
  rw[e] at n;cases n
 ·rw[z] at q
  rw[q] at n;cases n
end
def Wk(a b:St):Prop:=a.length=b.length/\∀(i:Nat) (v:V),a[i]? = some (some v)->b[i]? = some (some v)
def PTs(X:Cx)(ifs:List Expr)(t:TT):Prop :=
 ∀(pins:List (Addr×Obj)) (s:Shared) (σ : St) (H:Hp) (Q:Bool->Hp->Prop),Inv X pins σ H s->t σ H Q ->
  wpAny (model X.prog X.w) X.A (forIn ifs true λc r=>if r=true then do let ok ←isTrue c X.env (eval c X.env);pure (ForInStep.yield ok) else pure (ForInStep.yield r)) (TP X pins σ Q) X.xe s
def tYes:TT:=λ_ H Q=>Q true H
theorem ZJj{X:Cx}:PTs X [] tYes:=λ_ _ _ H _ I h=>wpAny_tests_nil ⟨H,I,h⟩
theorem ZJW{X:Cx}{c:Expr}{t:TT}(h:PT X c t):PTs X [c] t:=λpins s σ H Q I hw=>wpAny_tests_one (h pins s σ H Q I hw)
def ZFd(J:It)(g:TG)(tt:TT)(te:TE)(σ0:St)(D:Addr)(Q:VK)(H1:Hp):Prop :=
 ∃W:Nat->Nat->List V->Hp->Prop,(∃m,W 0 m [] H1)/\∀i m acc H,W i m acc H ->
  (J.stop i H/\Q (.ref D) H) ∨ (J.go i H/\∃ N:List V->Hp->Prop,(∀ acc' H',N acc' H'->∃ m',m' < m/\W (i+1) m' acc' H') /\
   ∀x H',J.yld i H x H'->g x σ0 H' λσ2 H2=>Wk σ0 σ2/\tt σ2 H2 λb H3=>if b=true then te σ2 H3 λy H4=>H4 D=some (.lst acc)/\acc.length<sizeLine/\N (acc++[y]) (upd H4 D (.lst (acc++[y]))) else N acc H3)
theorem ZGM{Y:Cx}{tg elt iter:Expr}{ifs:List Expr}{scope:Scope}{pos:Pos}{it D:Addr}{J:It}{fp:List Addr}{tn:Nat->Heap->Prop}{g:TG}{tt:TT}{te:TE}{σ0:St}{Q:VK}{R:Result->Shared->Prop}{H:Hp}{s:Shared}
  (hc:Y.calm=true)(T:Turn Y.prog Y.w Y.K tg J fp it tn)(hfp:∀H,(∀b∈fp,H b=none)->∀b∈fp,ZCK Y [] H b)(hg:PG Y tg g)(ht:PTs Y ifs tt)(he:PE Y elt te)(hxe:∀e s,¬Y.xe e s)
  (hR:∀H' s',Inv Y [] σ0 H' s'->Q (.ref D) H'->R (.ok .next) s')(I:Inv Y [] σ0 H s)(st:tn 0 s.heap)(fr:∀b∈fp,H b=none)(hw:ZFd J g tt te σ0 D Q H) :
  codeAny (model Y.prog Y.w) Y.A (.compLoop (.ListComp elt [⟨tg,iter,ifs,0⟩] scope pos) 0 (.ref it) (.ref D) Y.env) R s:=by
 obtain⟨W,⟨m0,w0⟩,turn⟩:=hw;refine codeAny_loop rfl (λn s'=>∃i H' acc,Inv Y [] σ0 H' s'/\tn i s'.heap/\(∀b∈fp,H' b=none)/\W i n acc H') ?_ m0 ⟨0,H,[],I,st,fr,w0⟩
 rintro n s3 ⟨i,H3,acc,I3,st3,fr3,w3⟩
 show wpAny _ Y.A ((compTurn (.ListComp elt [⟨tg,iter,ifs,0⟩] scope pos) 0 (.ref it) (.ref D) Y.env).onRaise (λx=>do noteFrame x Y.env;theTreesLotGoes x)) _ _ s3;refine wpAny_noted ?_;rw[compTurn_list];refine wpAny_bind (wpAny_standAt (wpAny_bind ?_));rcases turn i n acc H3 w3 with ⟨stop,qn⟩|⟨go,N,hN,step⟩
 ·refine thn (T.done Y rfl rfl rfl hc i [] s3 σ0 H3 _ I3 (hfp H3 fr3) st3 stop) λr s4 ⟨hr,I4⟩=>?_
  subst hr;exact wpAny_pure (hR H3 s4 I4 qn)
 ·refine thn (T.item Y rfl rfl rfl hc i [] s3 σ0 H3 _ I3 (hfp H3 fr3) st3 go) λr s4 ⟨u,hr,h4⟩=>?_
  subst hr;refine wpAny_bind (thn h4 λ_ s5 ⟨x,H5,I5,r5,y5,st5,fr5⟩=>?_);have I5':Inv Y (ZB2 fp s5.heap) σ0 H5 s5:=by
   have q:=I5.pinned (hfp H5 fr5) (T.obj _ _ st5)
   rwa [nil_append] at q
  have again:∀{σ7:St} {H7:Hp} {acc7:List V} {s7:Shared},Inv Y (ZB2 fp s5.heap) σ7 H7 s7->Wk σ0 σ7->N acc7 H7->∃m,m<n/\∃i H' acc,Inv Y [] σ0 H' s7/\tn i s7.heap/\(∀b∈fp,H' b=none)/\W i m acc H':=λ{σ7 H7 acc7 s7} I7 wk n7=>by
   obtain⟨m',hm,w7⟩:=hN acc7 H7 n7;have I8:Inv Y [] σ0 H7 s7:=(I7.weak wk.1 wk.2).pins_of λp hp=>nomatch hp
   refine⟨m',hm,i+1,H7,acc7,I8,T.keep _ _ _ st5 λb hb o e=>(I7.pin (b,o) (mem_append_right _ (ZAr hb e))).1,λb hb=>?_,w7⟩;obtain⟨o,e,d⟩:=T.obj _ _ st5 b hb;exact(I7.pin (b,o) (mem_append_right _ (ZAr hb e))).2.1
  refine wpAny_bind (wpAny_mono (hg _ s5 σ0 H5 x u _ I5' r5 (step x H5 y5)) (λ_ s6 ⟨σ6,H6,I6,wk,q6⟩=>?_) λ_ _ z=>(hxe _ _ z).elim);refine wpAny_bind (wpAny_mono (ht _ s6 σ6 H6 _ I6 q6) (λok s7 ⟨H7,I7,q7⟩=>?_) λ_ _ z=>(hxe _ _ z).elim);cases ok with
  |false=>exact wpAny_pure ⟨rfl,again I7 wk q7⟩
  |true =>
   refine wpAny_bind (wpAny_bind (wpAny_mono (he _ s7 σ6 H7 _ I7 q7) (λy s8 ⟨v,H8,I8,r8,hD,hz,q8⟩=>?_) λ_ _ z=>(hxe _ _ z).elim));refine wpAny_bind (wpAny_mono (ZDQ _ s8 σ6 H8 (.ref D) [v] (.ref D) [y] (λ_ H9=>N (acc++[v]) H9) I8 rfl (.cons r8 .nil) ⟨D,acc,v,rfl,rfl,hD,hz,q8⟩) (λ_ s9 ⟨_,H9,I9,_,q9⟩=>?_) λ_ _ z=>(hxe _ _ z).elim);exact wpAny_pure (wpAny_pure ⟨rfl,again I9 wk q9⟩)
def ZC8(sc scope:Scope)(NX N:List Str)(own:Nat)(cap:List Nat):Bool :=
 (scope.kind == .function) && scope.names.all (λy=>y.2 != .cell && (y.2 != .local || scope.names.lookup y.1 == some .local) && (y.2 != .free || sc.names.lookup y.1 == some .cell || sc.names.lookup y.1 == some .free)) &&
 (N.length == own+cap.length) && ((N.drop own).zip cap).all (λp=>NX[p.2]? == some p.1 && scope.names.lookup p.1 == some .free && (sc.names.lookup p.1 == some .cell || sc.names.lookup p.1 == some .free))
structure CapOk (sc scope:Scope) (NX N:List Str) (own:Nat) (cap:List Nat):Prop where
 kind:scope.kind=.function
 nocell:∀y∈scope.names,y.2≠.cell
 names:∀y∈scope.names,y.2=.local->scope.names.lookup y.1=some .local
 free:∀y∈scope.names,y.2=.free->sc.names.lookup y.1=some .cell∨sc.names.lookup y.1=some .free
 len:N.length=own+cap.length
 caps:∀p∈(N.drop own).zip cap,NX[p.2]? = some p.1/\scope.names.lookup p.1=some .free/\(sc.names.lookup p.1=some .cell∨sc.names.lookup p.1=some .free)
theorem ZEe{sc scope:Scope}{NX N:List Str}{own:Nat}{cap:List Nat}(h:ZC8 sc scope NX N own cap=true):CapOk sc scope NX N own cap:=by
 unfold ZC8 at h;simp only[Bool.and_eq_true,all_eq_true,Bool.or_eq_true,beq_iff_eq,bne_iff_ne,ne_eq] at h;obtain⟨⟨⟨h1,h2⟩,h3⟩,h4⟩:=h;refine⟨h1,λy hy=>(h2 y hy).1.1,λy hy e=>?_,λy hy e=>?_,h3,λp hp=>?_⟩
 ·rcases(h2 y hy).1.2 with z|z
  ·exact absurd e z
  ·exact z
 ·rcases(h2 y hy).2 with (z|z)|z
  ·exact absurd e z
  ·exact .inl z
  ·exact .inr z
 ·obtain⟨⟨a,b⟩,c⟩:=h4 p hp
  exact⟨a,b,c⟩
def ZC5(own:Nat)(cap:List Nat)(σ : St):St:=List.replicate own none++cap.map λj=>(σ[j]?).join
theorem ZBD{env:Env}:∀{names:List (Str×NameKind)} {x:Str} {k:NameKind},(names.map λ(n,k)=>if (k == NameKind.free && env.scope.kind == .function && env.kindOf n == some .cell) then (n,NameKind.cell) else (n,k)).lookup x=some k ->
  ∃k0,names.lookup x=some k0/\(k=k0∨(k0=.free/\k=.cell))
 |[],_,_,h=>by simp at h
 |(n,k0)::r,x,k,h=>by
  have h':List.lookup x ((if (k0 == NameKind.free && env.scope.kind == .function && env.kindOf n == some .cell)=true then (n,NameKind.cell) else (n,k0))::(r.map λ(n,k)=>if (k == NameKind.free && env.scope.kind == .function && env.kindOf n == some .cell) then (n,NameKind.cell) else (n,k)))=some k:=h;cases hx:x == n with
  |true =>
   by_cases hc:(k0 == NameKind.free && env.scope.kind == .function && env.kindOf n == some .cell)=true
   ·rw[if_pos hc,lookup_cons,hx] at h'
    cases h';rw[Bool.and_eq_true,Bool.and_eq_true] at hc;exact⟨k0,by rw[lookup_cons,hx],.inr ⟨by simpa using hc.1.1,rfl⟩⟩
   ·rw[if_neg hc,lookup_cons,hx] at h'
    cases h';exact⟨k0,by rw[lookup_cons,hx],.inl rfl⟩
  |false =>
   have h2:(r.map λ(n,k)=>if (k == NameKind.free && env.scope.kind == .function && env.kindOf n == some .cell) then (n,NameKind.cell) else (n,k)).lookup x=some k:=by
    by_cases hc:(k0 == NameKind.free && env.scope.kind == .function && env.kindOf n == some .cell)=true
    ·rw[if_pos hc,lookup_cons,hx] at h';exact h'
    ·rw[if_neg hc,lookup_cons,hx] at h';exact h'
   obtain⟨k1,e1,r1⟩:=ZBD h2;exact⟨k1,by rw[lookup_cons,hx];exact e1,r1⟩
theorem ZAE{env:Env}:∀{names:List (Str×NameKind)} {x:Str},names.lookup x=some .free ->
  (names.map λ(n,k)=>if (k == NameKind.free && env.scope.kind == .function && env.kindOf n == some .cell) then (n,NameKind.cell) else (n,k)).lookup x=some .cell∨(names.map λ(n,k)=>if (k == NameKind.free && env.scope.kind == .function && env.kindOf n == some .cell) then (n,NameKind.cell) else (n,k)).lookup x=some .free
 |[],_,h=>by simp at h
 |(n,k0)::r,x,h=>by
  show List.lookup x ((if (k0 == NameKind.free && env.scope.kind == .function && env.kindOf n == some .cell)=true then (n,NameKind.cell) else (n,k0))::_)=_∨List.lookup x ((if (k0 == NameKind.free && env.scope.kind == .function && env.kindOf n == some .cell)=true then (n,NameKind.cell) else (n,k0))::_)=_;rw[lookup_cons] at h;cases hx:x == n with
  |true =>
   rw[hx] at h;cases h
   by_cases hc:(NameKind.free == NameKind.free && env.scope.kind == .function && env.kindOf n == some .cell)=true
   ·rw[if_pos hc,lookup_cons,hx];exact .inl rfl
   ·rw[if_neg hc,lookup_cons,hx];exact .inr rfl
  |false =>
   rw[hx] at h;have ih:=ZAE (env:=env) h
   by_cases hc:(k0 == NameKind.free && env.scope.kind == .function && env.kindOf n == some .cell)=true
   ·rw[if_pos hc,lookup_cons,hx];exact ih
   ·rw[if_neg hc,lookup_cons,hx];exact ih
def ZIT(own:Nat)(cap:List Nat)(wi:TI)(g:TG)(tt:TT)(te:TE):TE:=λσ H Q=>wi σ H λJ H1=>∀D,H1 D=none->ZFd J g tt te (ZC5 own cap σ) D Q (upd H1 D (.lst []))
section
variable{X:Cx}{tg elt iter:Expr}{ifs:List Expr}{scope sc:Scope}{pos:Pos}{wi:TI}{g:TG}{tt:TT}{te:TE}{N NX:List Str}{own:Nat}{cap:List Nat}
theorem ZCh{pins:List (Addr×Obj)}{σ : St}{s2:Shared}{itv:Value}{Q:VK}{E:Value->Shared->Prop}{R:Value->Addr->Result->Shared->Prop}{cl:List (Str×Addr)}(hc:X.calm=true)(hsc:X.env.scope=sc)(hNX:X.N=NX)(co:CapOk sc scope NX N own cap)
  (hsub:∀x c,cl.lookup x=some c->X.env.cells.lookup x=some c)(hall:∀x,(x,NameKind.free)∈scope.names->(cl.lookup x).isSome=true)
  (hb:∀cl C s0 H0 fp,PG (blk X N (compEnvC scope cl C X.env) s0 H0 fp) tg g/\PTs (blk X N (compEnvC scope cl C X.env) s0 H0 fp) ifs tt/\PE (blk X N (compEnvC scope cl C X.env) s0 H0 fp) elt te)
  (h2:PIE X pins σ tg (λJ H1=>∀D,H1 D=none->ZFd J g tt te (ZC5 own cap σ) D Q (upd H1 D (.lst []))) itv s2)
  (hR:∀D C H' s',ZCK X pins H' C->(∃m,s'.heap.Ns C m)->(∀h',Heap.SameBut C s'.heap h'->Inv X pins σ H' { s' with heap:=h' })->Q (.ref D) H'->R (.ref D) C (.ok .next) s') :
  wpAny (model X.prog X.w) X.A (newList []) (λ acc s3=>wpAny (model X.prog X.w) X.A (newFunctionEnv scope X.env.globals cl [] X.env.qual none .none (some X.env)) (λ cenv s4 =>
   codeAny (model X.prog X.w) X.A (.compStart (.ListComp elt [⟨tg,iter,ifs,0⟩] scope pos) 0 itv acc { cenv with scope:=relabel scope X.env }) (R acc cenv.locals) s4) E s3) E s2:=by
 obtain⟨it,fp,tn,J,H2,rfl,I2,T,st2,f2,hloop⟩:=h2;refine wpAny_newObj_type (wpAny_newFunctionEnv co.nocell (by intro y hy;simp at hy) (λh1 hns hsb=>?_) co.kind);have fD:H2 s2.heap.objs.size=none:=I2.hok.fresh (le_refl _);have I3:Inv X pins σ (upd H2 s2.heap.objs.size (.lst [])) { s2 with heap:=s2.heap.push { cls:=.type "list",data:=.seq ([]:List Value).toArray } }:=I2.laid (t':=s2.toks) (λb u e=>get?_push_of_some _ e) (le_refl _) ⟨zero_le _,[],0,.nil,get?_push_size _ rfl⟩;have hq:=hloop s2.heap.objs.size fD
 generalize hHD:s2.heap.objs.size=D at *
 generalize hs3:s2.heap.push { cls:=.type "list",data:=.seq ([]:List Value).toArray }=h3 at *
 dsimp only at hns hsb ⊢;have hsz:h3.objs.size=D+1:=by rw[←hs3,size_push,hHD]
 have ob2:∀b∈fp,∃o,s2.heap.get? b=some o:=λb hb'=>let ⟨o,e,_⟩:=T.obj _ _ st2 b hb';⟨o,e⟩
 have k23:∀b o,s2.heap.get? b=some o->h3.get? b=some o:=λb o e=>by rw[←hs3];exact get?_push_of_some _ e
 have k34:∀b o,h3.get? b=some o->h1.get? b=some o:=λb o e=>(hsb.2 b (ne_of_lt (lt_size e))).trans (get?_push_of_some _ e)
 have f3:∀b∈fp,ZCK X pins (upd H2 D (.lst [])) b:=λb hb'=>by
  obtain⟨o,e⟩:=ob2 b hb';exact⟨by rw[ZE (ne_of_lt (by rw[←hHD];exact lt_size e))];exact(f2 b hb').1,(f2 b hb').2⟩
 have ob3:∀b∈fp,∃o,h3.get? b=some o:=λb hb'=>let ⟨o,e⟩:=ob2 b hb';⟨o,k23 b o e⟩
 have hhas:∀x,((compEnvC scope cl h3.objs.size X.env).kindOf x=some .cell∨(compEnvC scope cl h3.objs.size X.env).kindOf x=some .free)->∃c,(compEnvC scope cl h3.objs.size X.env).cells.lookup x=some c:=λx hx=>by
  have q:∃k,(k=NameKind.cell∨k=NameKind.free)/\(relabel scope X.env).names.lookup x=some k:=by
   rcases hx with z|z
   ·exact⟨_,.inl rfl,z⟩
   ·exact⟨_,.inr rfl,z⟩
  obtain⟨k,hk,e⟩:=q;obtain⟨k0,e0,r0⟩:=ZBD e;have hm:=PySem.mem_of_lookup e0;have hf0:k0=.free:=by
   rcases r0 with z|z
   ·rcases hk with y|y
    ·exact absurd (z.symm.trans y) (co.nocell _ hm)
    ·exact z.symm.trans y
   ·exact z.1
  subst hf0;have:=hall x hm;exact Option.isSome_iff_exists.mp this
 have hcap:∀(i:Nat) (x:Str) (v:V),N[i]? = some x->(ZC5 own cap σ)[i]? = some (some v)->((compEnvC scope cl h3.objs.size X.env).kindOf x=some .cell∨(compEnvC scope cl h3.objs.size X.env).kindOf x=some .free)/\X.env.kindOf x≠some .local/\Vis X.env.scope x/\∃j:Nat,X.N[j]? = some x/\σ[j]? = some (some v):=λi x v e1 e2=>by
  unfold ZC5 at e2
  by_cases hi:i<own
  ·rw[getElem?_append_left (by simpa using hi),getElem?_replicate] at e2
   split at e2 <;> cases e2
  ·rw[getElem?_append_right (by simpa using hi),length_replicate,getElem?_map] at e2
   cases ej:cap[i-own]? with
   |none=>rw[ej] at e2;cases e2
   |some j =>
    rw[ej] at e2;have e3:(σ[j]?).join=some v:=Option.some.inj e2;have hd:(N.drop own)[i-own]? = some x:=by rw[List.getElem?_drop,show own+(i-own)=i by omega];exact e1
    have hz:(x,j)∈(N.drop own).zip cap:=mem_of_getElem? (i:=i-own) (by rw[List.getElem?_zip_eq_some];exact⟨hd,ej⟩);obtain⟨c1,c2,c3⟩:=co.caps (x,j) hz;have c3':X.env.kindOf x=some .cell∨X.env.kindOf x=some .free:=by unfold Env.kindOf;rw[hsc];exact c3
    refine⟨ZAE c2,λz=>?_,?_,j,by rw[hNX];exact c1,?_⟩
    ·rcases c3' with y|y <;> (rw[y] at z;cases z)
    ·rcases c3' with y|y
     ·exact .inr (.inl y)
     ·exact .inr (.inr y)
    ·cases es : σ[j]? with
     |none=>rw[es] at e3;cases e3
     |some w=>rw[es] at e3;exact congrArg some e3
 have I4:Inv (blk X N (compEnvC scope cl h3.objs.size X.env) { s2 with heap:=h3 } (upd H2 D (.lst [])) fp) [] (ZC5 own cap σ) (upd H2 D (.lst [])) { s2 with heap:=h1,toks:=s2.toks+([]:List (Str×Value)).length } :=
  ZI8 I3 f3 ob3 (le_refl _) co.kind rfl rfl hsub hhas k34 hns (by unfold ZC5;rw[length_append,length_replicate,length_map,co.len]) hcap
 obtain⟨hg,ht,he⟩:=hb cl h3.objs.size { s2 with heap:=h3 } (upd H2 D (.lst [])) fp;have loop:codeAny (model X.prog X.w) X.A (.compLoop (.ListComp elt [⟨tg,iter,ifs,0⟩] scope pos) 0 (.ref it) (.ref D) (compEnvC scope cl h3.objs.size X.env)) (R (.ref D) h3.objs.size) { s2 with heap:=h1,toks:=s2.toks+([]:List (Str×Value)).length }:=by
  refine ZGM (Y:=blk X N (compEnvC scope cl h3.objs.size X.env) { s2 with heap:=h3 } (upd H2 D (.lst [])) fp) (Q:=Q) hc T (λH0 fr b hb'=>?_) hg ht he (λ_ _ z=>z) (λH' s' J' q=>?_) I4 (T.keep _ _ _ st2 λb _ o e=>k34 b o (k23 b o e)) (λb hb'=>(f3 b hb').1) hq
  ·obtain⟨o,e⟩:=ob3 b hb'
   exact⟨fr b hb',ne_of_lt (lt_size e),λz=>(List.mem_cons.mp (I3.stkSub b z)).elim (f3 b hb').2.1 (f3 b hb').2.2.1,.inl hb',λx c ec=>(f3 b hb').2.2.2.2.1 x c (hsub x c ec),λp hp=>nomatch hp⟩
  ·exact hR D h3.objs.size H' s' (I3.fpOk (le_refl _) J'.free) (let ⟨m,hm,_⟩:=J'.loc;⟨m,hm⟩) (λh' sb=>ZJZ (env:=compEnvC scope cl h3.objs.size X.env) I3 f3 (le_refl _) J' sb) q
 exact codeAny_compStart_list loop (T.self _ 0 _ _ _ (T.keep _ _ _ st2 λb _ o e=>k34 b o (k23 b o e)) loop)
theorem ZIf(hc:X.calm=true)(hi:PI X tg iter wi)(hsc:X.env.scope=sc)(hNX:X.N=NX)
  (hb:∀cl C s0 H0 fp,PG (blk X N (compEnvC scope cl C X.env) s0 H0 fp) tg g/\PTs (blk X N (compEnvC scope cl C X.env) s0 H0 fp) ifs tt/\PE (blk X N (compEnvC scope cl C X.env) s0 H0 fp) elt te)
  (co:ZC8 sc scope NX N own cap=true)(hs:∀x,foldedSetIterable iter X.env x=pure x:=by intro _;rfl):PE X (.ListComp elt [⟨tg,iter,ifs,0⟩] scope pos) (ZIT own cap wi g tt te):=by
 intro pins s σ H Q I h;have co:=ZEe co;obtain⟨cl,hcl,hsub,hall⟩:=ZBV (env:=X.env) (scope:=scope) λy hy e=>I.ok.has y.1 (by unfold Env.kindOf;rw[hsc];exact co.free y hy e)
 rw[eval_ListComp];refine wpAny_comprehension_free (use:=none) rfl hs hcl co.kind co.names (thn (hi pins s σ H _ I h) λv s1 h1=>thn h1 λitv s2 h2=>?_);refine ZCh (Q:=Q) (R:=λacc C=>compPost (model X.prog X.w) X.A X.xe none (EP X pins σ Q) acc C) hc hsc hNX co hsub hall hb h2 λD C H' s' _ ⟨m,hm⟩ hi' q=>?_
 exact⟨m,hm,λh' sb=>⟨.ref D,H',hi' h' sb,rfl,q⟩⟩
theorem ZI6{i:Nat}{x:Str}{py spos:Pos}(hN:X.N.Nodup)(hi:X.N[i]? = some x)(hx:Loc X.env.scope x)(hc:X.calm=true)(hit:PI X tg iter wi)(hsc:X.env.scope=sc)(hNX:X.N=NX)
  (hb:∀cl C s0 H0 fp,PG (blk X N (compEnvC scope cl C X.env) s0 H0 fp) tg g/\PTs (blk X N (compEnvC scope cl C X.env) s0 H0 fp) ifs tt/\PE (blk X N (compEnvC scope cl C X.env) s0 H0 fp) elt te)
  (co:ZC8 sc scope NX N own cap=true)(hsw:swapsWith (.ListComp elt [⟨tg,iter,ifs,0⟩] scope pos) (some (.Name x py)) spos.line X.env=pure true:=by rfl)(hs:∀x,foldedSetIterable iter X.env x=pure x:=by intro _;rfl)
  (hf:X.fn x=true∨X.env.scope.names.lookup x=some .local:=by first|exact .inl rfl|exact .inr rfl|assumption) :
  PS X (.Assign [.Name x py] (.ListComp elt [⟨tg,iter,ifs,0⟩] scope pos) spos) (ZKq (ZIT own cap wi g tt te) (ZEm i)):=by
 intro pins s σ H D I h;have co:=ZEe co;obtain⟨cl,hcl,hsub,hall⟩:=ZBV (env:=X.env) (scope:=scope) λy hy e=>I.ok.has y.1 (by unfold Env.kindOf;rw[hsc];exact co.free y hy e)
 rw[exec_Assign_Name_used _ _ _ _ hsw];refine wpAny_bind (wpAny_standAt (wpAny_bind ?_));show wpAny (model X.prog X.w) X.A (comprehension (.ListComp elt [⟨tg,iter,ifs,0⟩] scope pos) scope X.env _ (newList []) false (eval iter X.env) (some (assign (.Name x py) X.env)) >>= λ_=>pure ()) _ _ s;refine wpAny_bind (thn (wpAny_comprehension_free (use:=some (assign (.Name x py) X.env)) (Q:=λ_ s'=>SP X pins D .next s') rfl hs hcl co.kind co.names (thn (hit pins s σ H _ I h) λv s1 h1=>thn h1 λitv s2 h2=>?_)) λ_ s' q=>wpAny_pure (wpAny_pure q));refine ZCh (Q:=λv H1=>ZEm i v σ H1 D.nx) (R:=λacc C=>compPost (model X.prog X.w) X.A X.xe (some (assign (.Name x py) X.env)) (λ_ s'=>SP X pins D .next s') acc C) hc hsc hNX co hsub hall hb h2 λDa C H' s' fC ⟨m,hm⟩ hi' q=>?_
 have I1:Inv X pins σ H' s':=hi' s'.heap (Heap.SameBut.refl ..);show wpAny _ _ (assign (.Name x py) X.env (.ref Da)) _ _ s';refine wpAny_assign_Name (ZDb I1 hN hi hx (v:=.ref Da) rfl (λs3 I3 ⟨a,sb,ha⟩=>?_) hf);obtain⟨f0,f1,f2,f3,f4,f5⟩:=fC;have nC:C≠a:=by
  rcases ha with z|z
  ·rw[z];exact f1
  ·exact Ne.symm (f4 _ _ z)
 exact⟨m,hm.sameBut sb nC,λh' sb2=>⟨_,H',I3.turned (t':=s3.toks) (λb o hb' e=>(sb2.2 b hb').trans e) f0 f1 f3 f4 f5,q⟩⟩
end
section
variable{X:Cx}
theorem ZHU(hc:X.calm=true):ZJ X (.builtin "all") (λxs H Q=>∃(p:Addr) (bs:List Bool),xs=[.ref p]/\SqL X.K H p (bs.map V.bl)/\Q (.bl (bs.all id)) H):=by
 intro pins s σ H xs us Q I r h;obtain⟨p,bs,rfl,hq,q⟩:=h;obtain⟨u,rfl,ru⟩:=ZAp r;cases ru;obtain⟨its,rv,pl,hz⟩:=I.list hq;have hlen:=rv.length;rw[length_map] at hlen;have hpl:p<s.heap.objs.size:=by
  obtain⟨o,n,e,_⟩:=pl;exact lt_size e
 refine call_all_walk (wpAny_pyIter_list pl.isList ⟨s.heap.objs.size,_,_,_,_,_,λi=>bs.getD i false,rfl,Walks.list (A:=X.A.in1) (show X.A.in1.handled=none from I.ok.hd hc) s.heap.objs.size p (ne_of_lt hpl) its.toArray,?_,?_,λh' tk k=>?_⟩)
 ·exact⟨⟨_,get?_push_size _ rfl,rfl,rfl⟩,pl.isList.at λo e=>get?_push_of_some _ e⟩
 ·intro i v s' Q' E' hv hQ
  have hv':its[i]? = some v:=by simpa using hv
  have hi:i<bs.length:=by rw[hlen];exact(List.getElem?_eq_some_iff.mp hv').1
  obtain⟨u,hu,ru⟩:=rv.get (i:=i) (x:=V.bl bs[i]) (by simp[hi]);rw[hv'] at hu;cases hu;cases ru;have e:bs.getD i false=bs[i]:=by simp[List.getD,hi]
  dsimp only at hQ;rw[e] at hQ;exact wpAny_truthy_bool hQ
 ·have e:((List.range its.toArray.size).all λi=>bs.getD i false)=bs.all id:=by
   rw[Bool.eq_iff_iff,all_eq_true,all_eq_true];constructor
   ·intro z b hb
    obtain⟨i,hi,rfl⟩:=List.mem_iff_getElem.mp hb;have:=z i (by simp[←hlen,hi]);simpa [List.getD,hi] using this
   ·intro z i hi
    have hi':i<bs.length:=by simpa [←hlen] using hi
    have:=z bs[i] (List.getElem_mem hi');simpa [List.getD,hi'] using this
  rw[e];exact⟨.bl (bs.all id),H,I.kept λb o q=>k b o (by simp;exact ne_of_lt (lt_size q)) (get?_push_of_some _ q),rfl,q⟩
end
structure Fine (d:PyData) (k L:Nat):Prop where
 lay:d.canLay0=true
 sh:d.showable=true
 dp:d.depth<=k
 ln:d.shown.length<=L
 nd:d.hasDict=false
theorem Fine.mono{d:PyData}{k L k' L':Nat}(f:Fine d k L)(h:k<=k')(h':L<=L'):Fine d k' L':=⟨f.lay,f.sh,le_trans f.dp h,le_trans f.ln h',f.nd⟩
theorem ZBu{i:Int}(h:i.natAbs<10 ^ 12):i.natAbs.log2<1920:=by
 by_cases h0:i.natAbs=0
 ·rw[h0];decide
 ·exact(Nat.log2_lt h0).mpr (lt_of_lt_of_le h (le_trans (show 10 ^ 12<=2 ^ 64 by decide) (Nat.pow_le_pow_right (by decide) (by decide))))
theorem Fine.int{i:Int}(h:i.natAbs<10 ^ 12):Fine (.int i) 0 13:=⟨rfl,by rw[PyData.showable.eq_4];exact decide_eq_true (ZBu h),le_refl _,PyData.shown_int_le h,rfl⟩
theorem Fine.all{k L:Nat}:∀{xs:List PyData},(∀x∈xs,Fine x k L)->PyData.canLayAll0 xs=true/\PyData.showableAll xs=true/\PyData.depthAll xs<=k/\PyData.hasDictAll xs=false/\((PyData.shownAll xs).map (λ(x:Str)=>x.length)).sum<=xs.length*L/\(PyData.shownAll xs).length=xs.length
 |[],_=>⟨rfl,rfl,zero_le _,rfl,zero_le _,rfl⟩
 |x::xs,h=>by
  obtain⟨h1,h2,h3,h4,h5,h6⟩:=Fine.all (xs:=xs) λy hy=>h y (mem_cons_of_mem _ hy)
  have f:=h x (mem_cons_self ..);refine⟨?_,?_,?_,?_,?_,?_⟩
  ·show(x.canLay0 && PyData.canLayAll0 xs)=true
   rw[f.lay,h1];rfl
  ·rw[PyData.showableAll.eq_2,f.sh,h2]
   rfl
  ·rw[PyData.depthAll.eq_2]
   exact Nat.max_le.mpr ⟨f.dp,h3⟩
  ·show(x.hasDict || PyData.hasDictAll xs)=false
   rw[f.nd,h4];rfl
  ·rw[PyData.shownAll.eq_2,map_cons,sum_cons,length_cons,Nat.add_mul,Nat.one_mul,Nat.add_comm]
   exact Nat.add_le_add h5 f.ln
  ·rw[PyData.shownAll.eq_2,length_cons,h6,length_cons]
theorem Fine.tup{k L n:Nat}{xs:List PyData}(h:∀x∈xs,Fine x k L)(hn:xs.length<=n):Fine (.tuple xs) (k+1) (n*(L+2)+3):=by
 obtain⟨h1,h2,h3,h4,h5,h6⟩:=Fine.all h;refine⟨h1,by rw[PyData.showable.eq_6];exact h2,by rw[PyData.depth.eq_2];omega,?_,by rw[PyData.hasDict.eq_6];exact h4⟩;rw[PyData.shown.eq_6];have:=tupleText_len_le (PyData.shownAll xs);rw[h6] at this
 have hm:xs.length*L<=n*L:=Nat.mul_le_mul_right _ hn;rw[Nat.mul_add];omega
end L2
namespace HI
open PySem PyProof.Rows
def ZAD(h:Heap)(z TI TO:Addr)(f0 f1:Value):Prop:=h.get? z=some { cls:=.type "zip",data:=.fields #[f0,f1,.bool false,.ref TI,.ref TO] }
section
variable{prog:Program}{w:World}{A:Around}{E:Value->Shared->Prop}{s:Shared}{q qq:Bool}
theorem ZHl{z TI TO i1 i2 l1 l2:Addr}{k1 k2:Nat}{xs ys:Array Value}{x y a b f0 f1:Value}{Q:Value->Shared->Prop}(ap:ZipApart z TI TO i1 i2 l1 l2)(hz:ZAD s.heap z TI TO f0 f1)(hfree:∀Q:Bool->Shared->Prop,Q true s->wpAny (model prog w) A (Builtin.SmallTypes.ownedTupleIsFree (.ref z)) Q E s)(hTI:IsPair s.heap TI (.ref i1) (.ref i2))(hTO:IsPair s.heap TO a b)
  (h1:Zg q s.heap i1 l1 k1)(h2:Zg qq s.heap i2 l2 k2)(hl1:IsSq q s.heap l1 xs)(hl2:IsSq qq s.heap l2 ys)(hx:xs[k1]? = some x)(hy:ys[k2]? = some y)
  (k:∀ h',ZAD h' z TI TO (rawInt s.heap.objs.size) (.bool false)->IsPair h' TO x y->Zg q h' i1 l1 (k1+1)->Zg qq h' i2 l2 (k2+1)->IsPair h' s.heap.objs.size x y->h'.objs.size=s.heap.objs.size+1 ->
   (∀c o,c≠z->c≠TO->c≠i1->c≠i2->s.heap.get? c=some o->h'.get? c=some o)->Q (.ref s.heap.objs.size) { s with heap:=h' }) :
  wpAny (model prog w) A (Builtin.«zip.__next__» ⟨[.ref z],[]⟩) (λfin s'=>∃v,fin=.done (.ret v)/\Q v s') E s:=by
 unfold Builtin.«zip.__next__»;refine wpAny_bind (m:=slotArgs "__next__" 0 ⟨[.ref z],[]⟩) (wpAny_of_eq (a:=(Value.ref z,[])) (by rfl) ?_);refine wpAny_bind (m:=field (.ref z) 2) (wpAny_field hz rfl (x:=.bool false) rfl ?_);refine wpAny_bind (m:=field (.ref z) 3) (wpAny_field hz rfl (x:=.ref TI) rfl ?_);refine wpAny_bind (m:=seqItems? (.ref TI)) (wpAny_seqItems hTI rfl ?_);dsimp only;rw[if_neg (by intro z;cases z)];refine wpAny_bind (m:=Builtin.SmallTypes.ownedTupleIsFree (.ref z)) (hfree _ ?_);rw[if_pos rfl];refine wpAny_bind (wpAny_rule ?_);refine wpAny_bind (m:=field (.ref z) 4) (wpAny_field hz rfl (x:=.ref TO) rfl ?_);dsimp only;refine wpAny_bind (wpAny_setField hz rfl (by simp) ?_);have nz:=ap;obtain⟨TIz,TOz,i1z,i2z,TITO,TIi1,TIi2,TOi1,TOi2,i12,l1z,l1TO,l1i1,l1i2,l2z,l2TO,l2i1,l2i2⟩:=nz;have sA:=Heap.SameBut.update (h:=s.heap) z (Obj.mapFields λ(x:Array Value)=>x.setIfInBounds 0 Value.ellipsis);have zA:ZAD (s.heap.update z (Obj.mapFields λ(x:Array Value)=>x.setIfInBounds 0 Value.ellipsis)) z TI TO .ellipsis f1:=get?_update_self _ hz rfl
 generalize hHA:s.heap.update z (Obj.mapFields λ(x:Array Value)=>x.setIfInBounds 0 Value.ellipsis)=HA at *
 refine wpAny_bind ?_;show wpAny _ _ (forIn [(Value.ref i1,0),(Value.ref i2,1)] _ _) _ _ _;simp only[forIn_cons,forIn_nil];refine wpAny_bind (wpAny_bind (wpAny_onRaise ?_));show wpAny _ _ (Builtin.SmallTypes.nextOf (.ref i1) >>= λv=>pure (some v)) _ _ _;have h1A:Zg q HA i1 l1 k1:=let ⟨o,e,r⟩:=h1;⟨o,(sA.2 i1 i1z).trans e,r⟩
 have h2A:Zg qq HA i2 l2 k2:=let ⟨o,e,r⟩:=h2;⟨o,(sA.2 i2 i2z).trans e,r⟩
 have hl1A:IsSq q HA l1 xs:=let ⟨o,e,r⟩:=hl1;⟨o,(sA.2 l1 l1z).trans e,r⟩
 have hl2A:IsSq qq HA l2 ys:=let ⟨o,e,r⟩:=hl2;⟨o,(sA.2 l2 l2z).trans e,r⟩
 have hTOA:IsPair HA TO a b:=(sA.2 TO TOz).trans hTO;refine wpAny_bind (ZDl (s:={ s with heap:=HA }) h1A hl1A hx λHB h1B sB=>wpAny_pure ?_);dsimp only at sB ⊢;have h2B:Zg qq HB i2 l2 k2:=let ⟨o,e,r⟩:=h2A;⟨o,(sB.2 i2 (Ne.symm i12)).trans e,r⟩
 have hl2B:IsSq qq HB l2 ys:=let ⟨o,e,r⟩:=hl2A;⟨o,(sB.2 l2 l2i1).trans e,r⟩
 have hTOB:IsPair HB TO a b:=(sB.2 TO TOi1).trans hTOA;have zB:ZAD HB z TI TO .ellipsis f1:=(sB.2 z (Ne.symm i1z)).trans zA;refine wpAny_bind (m:=seqItems? (.ref TO)) (wpAny_seqItems hTOB rfl ?_);dsimp only;refine wpAny_bind (wpAny_updateSeq hTOB rfl ?_ (by show 2<=sizeLine;decide) (by show 2<=_;decide));have sC:=Heap.SameBut.update (h:=HB) TO (Obj.mapSeq λ(x_2:Array Value)=>x_2.setIfInBounds 0 x);have hTOC:IsPair (HB.update TO (Obj.mapSeq λ(x_2:Array Value)=>x_2.setIfInBounds 0 x)) TO x b:=get?_update_self _ hTOB rfl
 generalize HB.update TO (Obj.mapSeq λ(x_2:Array Value)=>x_2.setIfInBounds 0 x)=HC at *
 refine wpAny_bind (wpAny_letGo (wpAny_pure ?_));dsimp only;have h1C:Zg q HC i1 l1 (k1+1):=let ⟨o,e,r⟩:=h1B;⟨o,(sC.2 i1 (Ne.symm TOi1)).trans e,r⟩
 have h2C:Zg qq HC i2 l2 k2:=let ⟨o,e,r⟩:=h2B;⟨o,(sC.2 i2 (Ne.symm TOi2)).trans e,r⟩
 have hl2C:IsSq qq HC l2 ys:=let ⟨o,e,r⟩:=hl2B;⟨o,(sC.2 l2 l2TO).trans e,r⟩
 have zC:ZAD HC z TI TO .ellipsis f1:=(sC.2 z (Ne.symm TOz)).trans zB;refine wpAny_bind (wpAny_bind (wpAny_onRaise ?_));show wpAny _ _ (Builtin.SmallTypes.nextOf (.ref i2) >>= λv=>pure (some v)) _ _ _;refine wpAny_bind (ZDl (s:={ s with heap:=HC }) h2C hl2C hy λHD h2D sD=>wpAny_pure ?_);dsimp only at sD ⊢;have h1D:Zg q HD i1 l1 (k1+1):=let ⟨o,e,r⟩:=h1C;⟨o,(sD.2 i1 i12).trans e,r⟩
 have hTOD:IsPair HD TO x b:=(sD.2 TO TOi2).trans hTOC;have zD:ZAD HD z TI TO .ellipsis f1:=(sD.2 z (Ne.symm i2z)).trans zC;refine wpAny_bind (m:=seqItems? (.ref TO)) (wpAny_seqItems hTOD rfl ?_);dsimp only;refine wpAny_bind (wpAny_updateSeq hTOD rfl ?_ (by show 2<=sizeLine;decide) (by show 2<=_;decide));have sE:=Heap.SameBut.update (h:=HD) TO (Obj.mapSeq λ(x_2:Array Value)=>x_2.setIfInBounds 1 y);have hTOE:IsPair (HD.update TO (Obj.mapSeq λ(x_2:Array Value)=>x_2.setIfInBounds 1 y)) TO x y:=get?_update_self _ hTOD rfl
 generalize HD.update TO (Obj.mapSeq λ(x_2:Array Value)=>x_2.setIfInBounds 1 y)=HE at *
 refine wpAny_bind (wpAny_letGo (wpAny_pure (wpAny_pure ?_)));dsimp only;have h1E:Zg q HE i1 l1 (k1+1):=let ⟨o,e,r⟩:=h1D;⟨o,(sE.2 i1 (Ne.symm TOi1)).trans e,r⟩
 have h2E:Zg qq HE i2 l2 (k2+1):=let ⟨o,e,r⟩:=h2D;⟨o,(sE.2 i2 (Ne.symm TOi2)).trans e,r⟩
 have zE:ZAD HE z TI TO .ellipsis f1:=(sE.2 z (Ne.symm TOz)).trans zD;have hsz:HE.objs.size=s.heap.objs.size:=by rw[sE.1,sD.1,sC.1,sB.1,sA.1]
 have kE:∀c o,c≠z->c≠TO->c≠i1->c≠i2->s.heap.get? c=some o->HE.get? c=some o:=λc o n1 n2 n3 n4 e=>by
  rw[sE.2 c n2,sD.2 c n4,sC.2 c n2,sB.2 c n3,sA.2 c n1];exact e
 refine wpAny_bind (m:=seqItems? (.ref TO)) (wpAny_seqItems hTOE rfl ?_);dsimp only;refine wpAny_bind (m:=newTuple [x,y]) (wpAny_newObj_type ?_ (by show 2<=sizeLine;decide));have hzs:z<HE.objs.size:=lt_size zE;have hF:IsPair (HE.push { cls:=.type "tuple",data:=.seq #[x,y] }) s.heap.objs.size x y:=by rw[←hsz];exact get?_push_size _ rfl
 have kF:∀c o,HE.get? c=some o->(HE.push { cls:=.type "tuple",data:=.seq #[x,y] }).get? c=some o:=λc o e=>get?_push_of_some _ e
 have szF:(HE.push { cls:=.type "tuple",data:=.seq #[x,y] }).objs.size=s.heap.objs.size+1:=by rw[size_push,hsz]
 have zF:=kF _ _ zE
 generalize hHF:HE.push { cls:=.type "tuple",data:=.seq #[x,y] }=HF at *
 dsimp only;rw[hsz];unfold Builtin.SmallTypes.ownedTupleHandOut;refine wpAny_bind (wpAny_bind (wpAny_setField zF rfl (by simp) ?_));have sG:=Heap.SameBut.update (h:=HF) z (Obj.mapFields λ(q:Array Value)=>q.setIfInBounds 0 (rawInt (s.heap.objs.size:Int)));have zG:ZAD (HF.update z (Obj.mapFields λ(q:Array Value)=>q.setIfInBounds 0 (rawInt (s.heap.objs.size:Int)))) z TI TO (rawInt (s.heap.objs.size:Int)) f1:=get?_update_self _ zF rfl
 generalize HF.update z (Obj.mapFields λ(q:Array Value)=>q.setIfInBounds 0 (rawInt (s.heap.objs.size:Int)))=HG at *
 refine wpAny_setField zG rfl (by simp) ?_;have sH:=Heap.SameBut.update (h:=HG) z (Obj.mapFields λ(q:Array Value)=>q.setIfInBounds 1 (.bool false));have zH:ZAD (HG.update z (Obj.mapFields λ(q:Array Value)=>q.setIfInBounds 1 (.bool false))) z TI TO (rawInt (s.heap.objs.size:Int)) (.bool false):=get?_update_self _ zG rfl
 generalize HG.update z (Obj.mapFields λ(q:Array Value)=>q.setIfInBounds 1 (.bool false))=HH at *
 have kH:∀c o,c≠z->HF.get? c=some o->HH.get? c=some o:=λc o n e=>by
  rw[sH.2 c n,sG.2 c n];exact e
 have zlt:z≠s.heap.objs.size:=ne_of_lt (by rw[←hsz];exact hzs);refine wpAny_pure ⟨_,rfl,k HH zH (kH _ _ TOz (kF _ _ hTOE)) ?_ ?_ (kH _ _ (Ne.symm zlt) hF) (by rw[sH.1,sG.1,szF]) λc o n1 n2 n3 n4 e=>kH c o n1 (kF c o (kE c o n1 n2 n3 n4 e))⟩
 ·obtain⟨o,e,r⟩:=h1E
  exact⟨o,kH _ _ i1z (kF _ _ e),r⟩
 ·obtain⟨o,e,r⟩:=h2E
  exact⟨o,kH _ _ i2z (kF _ _ e),r⟩
theorem ZKK{M:Model}{a:Addr}{Q:Option Obj->Shared->Prop}(h:Q (s.heap.get? a) s):wpAny M A (loadIfAlive a) Q E s:=λΓ p _=>by
 unfold loadIfAlive;rw[Sem.wp_loadIfAlive];exact h
theorem ZDe{z TI TO:Addr}{f1:Value}(hz:ZAD s.heap z TI TO .none f1)(Q:Bool->Shared->Prop)(q:Q true s):wpAny (model prog w) A (Builtin.SmallTypes.ownedTupleIsFree (.ref z)) Q E s:=by
 unfold Builtin.SmallTypes.ownedTupleIsFree;exact wpAny_bind (m:=field (.ref z) 0) (wpAny_field hz rfl (x:=.none) rfl (wpAny_pure q))
theorem ZDZ{z TI TO:Addr}{f1:Value}{T:Nat}(hz:ZAD s.heap z TI TO (rawInt (T:Int)) f1)(hT:s.heap.get? T=none)(Q:Bool->Shared->Prop)(q:Q true s):wpAny (model prog w) A (Builtin.SmallTypes.ownedTupleIsFree (.ref z)) Q E s:=by
 unfold Builtin.SmallTypes.ownedTupleIsFree;refine wpAny_bind (m:=field (.ref z) 0) (wpAny_field hz rfl (x:=rawInt (T:Int)) rfl ?_);refine wpAny_bind (m:=loadIfAlive (T:Int).toNat) (ZKK ?_);rw[toNat_natCast,hT];exact wpAny_pure q
theorem ZMI{z TI TO:Addr}{f1:Value}{T:Nat}{o:Obj}{Q:Bool->Shared->Prop}(hz:ZAD s.heap z TI TO (rawInt (T:Int)) f1)(hT:s.heap.get? T=some o)
  (q:∀h' f1',ZAD h' z TI TO (rawInt (T:Int)) f1'->Heap.SameBut z s.heap h'->Q false { s with heap:=h' }):wpAny (model prog w) A (Builtin.SmallTypes.ownedTupleIsFree (.ref z)) Q E s:=by
 unfold Builtin.SmallTypes.ownedTupleIsFree;refine wpAny_bind (m:=field (.ref z) 0) (wpAny_field hz rfl (x:=rawInt (T:Int)) rfl ?_);refine wpAny_bind (m:=loadIfAlive (T:Int).toNat) (ZKK ?_);rw[toNat_natCast,hT];show wpAny _ _ (field (.ref z) 1 >>= _) _ _ _;refine wpAny_bind (m:=field (.ref z) 1) (wpAny_field hz rfl (x:=f1) rfl ?_)
 by_cases c:(f1 != Value.bool true)=true
 ·rw[if_pos c]
  refine wpAny_bind (wpAny_setField hz rfl (by simp) (wpAny_pure (q _ (.bool true) ?_ (Heap.SameBut.update ..))));exact get?_update_self _ hz rfl
 ·rw[if_neg c]
  exact wpAny_pure (q s.heap f1 hz (Heap.SameBut.refl ..))
theorem ZIU{z TI TO i1 i2 l1 l2:Addr}{k1 k2 T:Nat}{o:Obj}{xs ys:Array Value}{x y f1:Value}{Q:Value->Shared->Prop}(ap:ZipApart z TI TO i1 i2 l1 l2)(hz:ZAD s.heap z TI TO (rawInt (T:Int)) f1)(hT:s.heap.get? T=some o)(hTI:IsPair s.heap TI (.ref i1) (.ref i2))
  (h1:Zg q s.heap i1 l1 k1)(h2:Zg qq s.heap i2 l2 k2)(hl1:IsSq q s.heap l1 xs)(hl2:IsSq qq s.heap l2 ys)(hx:xs[k1]? = some x)(hy:ys[k2]? = some y)
  (k:∀ h' f1',ZAD h' z TI TO (rawInt (T:Int)) f1'->Zg q h' i1 l1 (k1+1)->Zg qq h' i2 l2 (k2+1)->IsPair h' s.heap.objs.size x y->h'.objs.size=s.heap.objs.size+1 ->
   (∀c o,c≠z->c≠i1->c≠i2->s.heap.get? c=some o->h'.get? c=some o)->Q (.ref s.heap.objs.size) { s with heap:=h' }) :
  wpAny (model prog w) A (Builtin.«zip.__next__» ⟨[.ref z],[]⟩) (λfin s'=>∃v,fin=.done (.ret v)/\Q v s') E s:=by
 unfold Builtin.«zip.__next__»;refine wpAny_bind (m:=slotArgs "__next__" 0 ⟨[.ref z],[]⟩) (wpAny_of_eq (a:=(Value.ref z,[])) (by rfl) ?_);refine wpAny_bind (m:=field (.ref z) 2) (wpAny_field hz rfl (x:=.bool false) rfl ?_);refine wpAny_bind (m:=field (.ref z) 3) (wpAny_field hz rfl (x:=.ref TI) rfl ?_);refine wpAny_bind (m:=seqItems? (.ref TI)) (wpAny_seqItems hTI rfl ?_);dsimp only;rw[if_neg (by intro z;cases z)];obtain⟨TIz,TOz,i1z,i2z,TITO,TIi1,TIi2,TOi1,TOi2,i12,l1z,l1TO,l1i1,l1i2,l2z,l2TO,l2i1,l2i2⟩:=ap;refine wpAny_bind (m:=Builtin.SmallTypes.ownedTupleIsFree (.ref z)) (ZMI hz hT λHA f1' zA sA=>?_);rw[if_neg (by intro z;cases z)];have h1A:Zg q HA i1 l1 k1:=let ⟨o,e,r⟩:=h1;⟨o,(sA.2 i1 i1z).trans e,r⟩
 have h2A:Zg qq HA i2 l2 k2:=let ⟨o,e,r⟩:=h2;⟨o,(sA.2 i2 i2z).trans e,r⟩
 have hl1A:IsSq q HA l1 xs:=let ⟨o,e,r⟩:=hl1;⟨o,(sA.2 l1 l1z).trans e,r⟩
 have hl2A:IsSq qq HA l2 ys:=let ⟨o,e,r⟩:=hl2;⟨o,(sA.2 l2 l2z).trans e,r⟩
 refine wpAny_bind ?_;rw[←Array.forIn_toList];show wpAny _ _ (forIn [Value.ref i1,Value.ref i2] _ _) _ _ _;simp only[forIn_cons,forIn_nil];refine wpAny_bind (wpAny_bind (wpAny_holding ?_));show wpAny _ _ (Builtin.SmallTypes.nextOf (.ref i1) >>= λv=>pure (some v)) _ _ _;refine wpAny_bind (ZDl (s:={ s with heap:=HA }) h1A hl1A hx λHB h1B sB=>wpAny_pure ?_);dsimp only at sB ⊢;have h2B:Zg qq HB i2 l2 k2:=let ⟨o,e,r⟩:=h2A;⟨o,(sB.2 i2 (Ne.symm i12)).trans e,r⟩
 have hl2B:IsSq qq HB l2 ys:=let ⟨o,e,r⟩:=hl2A;⟨o,(sB.2 l2 l2i1).trans e,r⟩
 have zB:ZAD HB z TI TO (rawInt (T:Int)) f1':=(sB.2 z (Ne.symm i1z)).trans zA;refine wpAny_pure (wpAny_bind (wpAny_bind (wpAny_holding ?_)));show wpAny _ _ (Builtin.SmallTypes.nextOf (.ref i2) >>= λv=>pure (some v)) _ _ _;refine wpAny_bind (ZDl (s:={ s with heap:=HB }) h2B hl2B hy λHC h2C sC=>wpAny_pure ?_);dsimp only at sC ⊢;have h1C:Zg q HC i1 l1 (k1+1):=let ⟨o,e,r⟩:=h1B;⟨o,(sC.2 i1 i12).trans e,r⟩
 have zC:ZAD HC z TI TO (rawInt (T:Int)) f1':=(sC.2 z (Ne.symm i2z)).trans zB;refine wpAny_pure (wpAny_pure ?_);dsimp only;have hsz:HC.objs.size=s.heap.objs.size:=by rw[sC.1,sB.1,sA.1]
 have kC:∀c o,c≠z->c≠i1->c≠i2->s.heap.get? c=some o->HC.get? c=some o:=λc o n1 n3 n4 e=>by
  rw[sC.2 c n4,sB.2 c n3,sA.2 c n1];exact e
 refine wpAny_bind (m:=newTuple [x,y]) (wpAny_newObj_type ?_ (by show 2<=sizeLine;decide));have hF:IsPair (HC.push { cls:=.type "tuple",data:=.seq #[x,y] }) s.heap.objs.size x y:=by rw[←hsz];exact get?_push_size _ rfl
 have kF:∀c o,HC.get? c=some o->(HC.push { cls:=.type "tuple",data:=.seq #[x,y] }).get? c=some o:=λc o e=>get?_push_of_some _ e
 have szF:(HC.push { cls:=.type "tuple",data:=.seq #[x,y] }).objs.size=s.heap.objs.size+1:=by rw[size_push,hsz]
 have zF:=kF _ _ zC;refine wpAny_pure ⟨_,rfl,?_⟩;dsimp only;rw[hsz];refine k _ f1' zF ?_ ?_ hF szF λc o n1 n3 n4 e=>kF c o (kC c o n1 n3 n4 e)
 ·obtain⟨o,e,r⟩:=h1C
  exact⟨o,kF _ _ e,r⟩
 ·obtain⟨o,e,r⟩:=h2C
  exact⟨o,kF _ _ e,r⟩
theorem ZFs{z TI TO i1 i2 l1 l2:Addr}{k1 k2:Nat}{xs ys:Array Value}{a b f0 f1:Value}{Q:PySem.Fin->Shared->Prop}(hh:A.handled=none)(ap:ZipApart z TI TO i1 i2 l1 l2)(hz:ZAD s.heap z TI TO f0 f1)(hfree:∀Q:Bool->Shared->Prop,Q true s->wpAny (model prog w) A (Builtin.SmallTypes.ownedTupleIsFree (.ref z)) Q E s)(hTI:IsPair s.heap TI (.ref i1) (.ref i2))(hTO:IsPair s.heap TO a b)
  (h1:Zg q s.heap i1 l1 k1)(h2:Zg qq s.heap i2 l2 k2)(hl1:IsSq q s.heap l1 xs)(hl2:IsSq qq s.heap l2 ys)(hx:xs[k1]? = none∨ys[k2]? = none)
  (k:∀h' e,(∀c o,c≠z->c≠TO->c≠i1->c≠i2->s.heap.get? c=some o->h'.get? c=some o)->(∃o,h'.get? e=some o/\o.cls=.type "StopIteration")->E (.ref e) { s with heap:=h' }) :
  wpAny (model prog w) A (Builtin.«zip.__next__» ⟨[.ref z],[]⟩) Q E s:=by
 unfold Builtin.«zip.__next__»;refine wpAny_bind (m:=slotArgs "__next__" 0 ⟨[.ref z],[]⟩) (wpAny_of_eq (a:=(Value.ref z,[])) (by rfl) ?_);refine wpAny_bind (m:=field (.ref z) 2) (wpAny_field hz rfl (x:=.bool false) rfl ?_);refine wpAny_bind (m:=field (.ref z) 3) (wpAny_field hz rfl (x:=.ref TI) rfl ?_);refine wpAny_bind (m:=seqItems? (.ref TI)) (wpAny_seqItems hTI rfl ?_);dsimp only;rw[if_neg (by intro z;cases z)];refine wpAny_bind (m:=Builtin.SmallTypes.ownedTupleIsFree (.ref z)) (hfree _ ?_);rw[if_pos rfl];refine wpAny_bind (wpAny_rule ?_);refine wpAny_bind (m:=field (.ref z) 4) (wpAny_field hz rfl (x:=.ref TO) rfl ?_);dsimp only;refine wpAny_bind (wpAny_setField hz rfl (by simp) ?_);obtain⟨TIz,TOz,i1z,i2z,TITO,TIi1,TIi2,TOi1,TOi2,i12,l1z,l1TO,l1i1,l1i2,l2z,l2TO,l2i1,l2i2⟩:=ap;have sA:=Heap.SameBut.update (h:=s.heap) z (Obj.mapFields λ(x:Array Value)=>x.setIfInBounds 0 Value.ellipsis);have zA:ZAD (s.heap.update z (Obj.mapFields λ(x:Array Value)=>x.setIfInBounds 0 Value.ellipsis)) z TI TO .ellipsis f1:=get?_update_self _ hz rfl
 generalize hHA:s.heap.update z (Obj.mapFields λ(x:Array Value)=>x.setIfInBounds 0 Value.ellipsis)=HA at *
 refine wpAny_bind ?_;show wpAny _ _ (forIn [(Value.ref i1,0),(Value.ref i2,1)] _ _) _ _ _;simp only[forIn_cons,forIn_nil];refine wpAny_bind (wpAny_bind (wpAny_onRaise ?_));show wpAny _ _ (Builtin.SmallTypes.nextOf (.ref i1) >>= λv=>pure (some v)) _ _ _;have h1A:Zg q HA i1 l1 k1:=let ⟨o,e,r⟩:=h1;⟨o,(sA.2 i1 i1z).trans e,r⟩
 have h2A:Zg qq HA i2 l2 k2:=let ⟨o,e,r⟩:=h2;⟨o,(sA.2 i2 i2z).trans e,r⟩
 have hl1A:IsSq q HA l1 xs:=let ⟨o,e,r⟩:=hl1;⟨o,(sA.2 l1 l1z).trans e,r⟩
 have hl2A:IsSq qq HA l2 ys:=let ⟨o,e,r⟩:=hl2;⟨o,(sA.2 l2 l2z).trans e,r⟩
 have hTOA:IsPair HA TO a b:=(sA.2 TO TOz).trans hTO;have last:∀(h':Heap) (e:Addr) (g1:Value),ZAD h' z TI TO .ellipsis g1->(∀c o,c≠z->c≠TO->c≠i1->c≠i2->s.heap.get? c=some o->h'.get? c=some o)->(∃o,h'.get? e=some o/\o.cls=.type "StopIteration") ->
   wpAny (model prog w) A (setField (.ref z) 0 Value.none) (λ_ s''=>E (.ref e) s'') E { s with heap:=h' }:=λh' e g1 hz' kp he=>by
  have se:=Heap.SameBut.update (h:=h') z (Obj.mapFields λ(x:Array Value)=>x.setIfInBounds 0 Value.none);refine wpAny_setField hz' rfl (by simp) (k _ e (λc o n1 n2 n3 n4 q=>(se.2 c n1).trans (kp c o n1 n2 n3 n4 q)) ?_);obtain⟨o,ho,hc⟩:=he;have nz:e≠z:=by
   intro q;rw[q,hz'] at ho;cases ho;have hc':Value.type "zip" = Value.type "StopIteration":=hc;exact absurd hc' (by decide)
  exact⟨o,(se.2 e nz).trans ho,hc⟩
 cases hxk:xs[k1]? with
 |none =>
  refine wpAny_bind (ZBO (s:={ s with heap:=HA }) hh h1A hl1A hxk λh' e eb he=>?_);exact last h' e f1 (eb z _ (Ne.symm i1z) zA) (λc o n1 n2 n3 n4 q=>eb c o n3 ((sA.2 c n1).trans q)) he
 |some x =>
  have hyk:ys[k2]? = none:=by
   rcases hx with q|q
   ·rw[hxk] at q;cases q
   ·exact q
  refine wpAny_bind (ZDl (s:={ s with heap:=HA }) h1A hl1A hxk λHB h1B sB=>wpAny_pure ?_);dsimp only at sB ⊢;have h2B:Zg qq HB i2 l2 k2:=let ⟨o,e,r⟩:=h2A;⟨o,(sB.2 i2 (Ne.symm i12)).trans e,r⟩
  have hl2B:IsSq qq HB l2 ys:=let ⟨o,e,r⟩:=hl2A;⟨o,(sB.2 l2 l2i1).trans e,r⟩
  have hTOB:IsPair HB TO a b:=(sB.2 TO TOi1).trans hTOA;have zB:ZAD HB z TI TO .ellipsis f1:=(sB.2 z (Ne.symm i1z)).trans zA;refine wpAny_bind (m:=seqItems? (.ref TO)) (wpAny_seqItems hTOB rfl ?_);dsimp only;refine wpAny_bind (wpAny_updateSeq hTOB rfl ?_ (by show 2<=sizeLine;decide) (by show 2<=_;decide));have sC:=Heap.SameBut.update (h:=HB) TO (Obj.mapSeq λ(x_2:Array Value)=>x_2.setIfInBounds 0 x)
  generalize HB.update TO (Obj.mapSeq λ(x_2:Array Value)=>x_2.setIfInBounds 0 x)=HC at *
  refine wpAny_bind (wpAny_letGo (wpAny_pure ?_));dsimp only;have h2C:Zg qq HC i2 l2 k2:=let ⟨o,e,r⟩:=h2B;⟨o,(sC.2 i2 (Ne.symm TOi2)).trans e,r⟩
  have hl2C:IsSq qq HC l2 ys:=let ⟨o,e,r⟩:=hl2B;⟨o,(sC.2 l2 l2TO).trans e,r⟩
  have zC:ZAD HC z TI TO .ellipsis f1:=(sC.2 z (Ne.symm TOz)).trans zB;refine wpAny_bind (wpAny_bind (wpAny_onRaise ?_));show wpAny _ _ (Builtin.SmallTypes.nextOf (.ref i2) >>= λv=>pure (some v)) _ _ _;refine wpAny_bind (ZBO (s:={ s with heap:=HC }) hh h2C hl2C hyk λh' e eb he=>?_);exact last h' e f1 (eb z _ (Ne.symm i2z) zC) (λc o n1 n2 n3 n4 q=>eb c o n4 ((sC.2 c n2).trans ((sB.2 c n3).trans ((sA.2 c n1).trans q)))) he
theorem ZJp{z TI TO i1 i2 l1 l2:Addr}{k1 k2 T:Nat}{o:Obj}{xs ys:Array Value}{f1:Value}{Q:PySem.Fin->Shared->Prop}(hh:A.handled=none)(ap:ZipApart z TI TO i1 i2 l1 l2)(hz:ZAD s.heap z TI TO (rawInt (T:Int)) f1)(hT:s.heap.get? T=some o)(hTI:IsPair s.heap TI (.ref i1) (.ref i2))
  (h1:Zg q s.heap i1 l1 k1)(h2:Zg qq s.heap i2 l2 k2)(hl1:IsSq q s.heap l1 xs)(hl2:IsSq qq s.heap l2 ys)(hx:xs[k1]? = none∨ys[k2]? = none)
  (k:∀h' e,(∀c o,c≠z->c≠TO->c≠i1->c≠i2->s.heap.get? c=some o->h'.get? c=some o)->(∃o,h'.get? e=some o/\o.cls=.type "StopIteration")->E (.ref e) { s with heap:=h' }) :
  wpAny (model prog w) A (Builtin.«zip.__next__» ⟨[.ref z],[]⟩) Q E s:=by
 unfold Builtin.«zip.__next__»;refine wpAny_bind (m:=slotArgs "__next__" 0 ⟨[.ref z],[]⟩) (wpAny_of_eq (a:=(Value.ref z,[])) (by rfl) ?_);refine wpAny_bind (m:=field (.ref z) 2) (wpAny_field hz rfl (x:=.bool false) rfl ?_);refine wpAny_bind (m:=field (.ref z) 3) (wpAny_field hz rfl (x:=.ref TI) rfl ?_);refine wpAny_bind (m:=seqItems? (.ref TI)) (wpAny_seqItems hTI rfl ?_);dsimp only;rw[if_neg (by intro z;cases z)];obtain⟨TIz,TOz,i1z,i2z,TITO,TIi1,TIi2,TOi1,TOi2,i12,l1z,l1TO,l1i1,l1i2,l2z,l2TO,l2i1,l2i2⟩:=ap;refine wpAny_bind (m:=Builtin.SmallTypes.ownedTupleIsFree (.ref z)) (ZMI hz hT λHA f1' zA sA=>?_);rw[if_neg (by intro z;cases z)];have h1A:Zg q HA i1 l1 k1:=let ⟨o,e,r⟩:=h1;⟨o,(sA.2 i1 i1z).trans e,r⟩
 have h2A:Zg qq HA i2 l2 k2:=let ⟨o,e,r⟩:=h2;⟨o,(sA.2 i2 i2z).trans e,r⟩
 have hl1A:IsSq q HA l1 xs:=let ⟨o,e,r⟩:=hl1;⟨o,(sA.2 l1 l1z).trans e,r⟩
 have hl2A:IsSq qq HA l2 ys:=let ⟨o,e,r⟩:=hl2;⟨o,(sA.2 l2 l2z).trans e,r⟩
 refine wpAny_bind ?_;rw[←Array.forIn_toList];show wpAny _ _ (forIn [Value.ref i1,Value.ref i2] _ _) _ _ _;simp only[forIn_cons,forIn_nil];refine wpAny_bind (wpAny_bind (wpAny_holding ?_));show wpAny _ _ (Builtin.SmallTypes.nextOf (.ref i1) >>= λv=>pure (some v)) _ _ _;cases hxk:xs[k1]? with
 |none =>
  refine wpAny_bind (ZBO (s:={ s with heap:=HA }) hh h1A hl1A hxk λh' e eb he=>?_);exact k h' e (λc o n1 n2 n3 n4 q=>eb c o n3 ((sA.2 c n1).trans q)) he
 |some x =>
  have hyk:ys[k2]? = none:=by
   rcases hx with q|q
   ·rw[hxk] at q;cases q
   ·exact q
  refine wpAny_bind (ZDl (s:={ s with heap:=HA }) h1A hl1A hxk λHB h1B sB=>wpAny_pure ?_);dsimp only at sB ⊢;have h2B:Zg qq HB i2 l2 k2:=let ⟨o,e,r⟩:=h2A;⟨o,(sB.2 i2 (Ne.symm i12)).trans e,r⟩
  have hl2B:IsSq qq HB l2 ys:=let ⟨o,e,r⟩:=hl2A;⟨o,(sB.2 l2 l2i1).trans e,r⟩
  refine wpAny_pure (wpAny_bind (wpAny_bind (wpAny_holding ?_)));show wpAny _ _ (Builtin.SmallTypes.nextOf (.ref i2) >>= λv=>pure (some v)) _ _ _;refine wpAny_bind (ZBO (s:={ s with heap:=HB }) hh h2B hl2B hyk λh' e eb he=>?_);exact k h' e (λc o n1 n2 n3 n4 q=>eb c o n4 ((sB.2 c n3).trans ((sA.2 c n1).trans q))) he
structure ZipS (q qq:Bool) (h:Heap) (z TI TO i1 i2 l1 l2:Addr) (i:Nat):Prop where
 zo:∃f0 f1,ZAD h z TI TO f0 f1/\(f0=.none∨∃T:Nat,f0=rawInt (T:Int))
 ti:IsPair h TI (.ref i1) (.ref i2)
 to:∃a b,IsPair h TO a b
 it1:Zg q h i1 l1 i
 it2:Zg qq h i2 l2 i
theorem nextZip{z TI TO i1 i2 l1 l2:Addr}{i:Nat}{xs ys:Array Value}{x y:Value}{Q:Option Value->Shared->Prop}(ap:ZipApart z TI TO i1 i2 l1 l2)(S:ZipS q qq s.heap z TI TO i1 i2 l1 l2 i)(hl1:IsSq q s.heap l1 xs)(hl2:IsSq qq s.heap l2 ys)(hx:xs[i]? = some x)(hy:ys[i]? = some y)
  (k:∀h',ZipS q qq h' z TI TO i1 i2 l1 l2 (i+1)->IsPair h' s.heap.objs.size x y->h'.objs.size=s.heap.objs.size+1->(∀c o,c≠z->c≠TO->c≠i1->c≠i2->s.heap.get? c=some o->h'.get? c=some o)->Q (some (.ref s.heap.objs.size)) { s with heap:=h' }) :
  wpAny (model prog w) A (pyNext (.ref z)) Q E s:=by
 obtain⟨⟨f0,f1,hz,hf⟩,hti,⟨a,b,hto⟩,h1,h2⟩:=S;have ty:s.TypeIs (.ref z) "zip":=⟨_,hz,rfl⟩;unfold pyNext;refine wpAny_bind (wpAny_attempt ?_);refine wpAny_callSpecial?_slot (name:=Str.ofString "__next__") ty F.slot_zip_next (wpAny_call_entry F.slot_zip_next ty F.entry_zip_next ?_ (F.args_zip_next_1 _));have own:∀(E':Value->Shared->Prop) (A':Around),(∀Q:Bool->Shared->Prop,Q true s->wpAny (model prog w) A' (Builtin.SmallTypes.ownedTupleIsFree (.ref z)) Q E' s)->wpAny (model prog w) A' (Builtin.«zip.__next__» ⟨[.ref z],[]⟩) (λfin s'=>∃v,fin=.done (.ret v)/\wpAny (model prog w) A (pure (some v)) Q E s') E' s:=λE' A' fr=>by
  refine ZHl ap hz fr hti hto h1 h2 hl1 hl2 hx hy λh' z' to' t1 t2 pr sz kp=>wpAny_pure (k h' ⟨⟨_,_,z',.inr ⟨_,rfl⟩⟩,kp _ _ ap.TIz ap.TITO ap.TIi1 ap.TIi2 hti,⟨_,_,to'⟩,t1,t2⟩ pr sz kp)
 rcases hf with rfl|⟨T,rfl⟩
 ·exact own _ _ λQ q=>ZDe hz Q q
 ·cases hT:s.heap.get? T with
  |none=>exact own _ _ λQ q=>ZDZ hz hT Q q
  |some o =>
   refine ZIU ap hz hT hti h1 h2 hl1 hl2 hx hy λh' f1' z' t1 t2 pr sz kp=>wpAny_pure (k h' ⟨⟨_,_,z',.inr ⟨_,rfl⟩⟩,kp _ _ ap.TIz ap.TIi1 ap.TIi2 hti,⟨a,b,kp _ _ ap.TOz ap.TOi1 ap.TOi2 hto⟩,t1,t2⟩ pr sz λc o n1 n2 n3 n4 q=>kp c o n1 n3 n4 q)
theorem endZip{z TI TO i1 i2 l1 l2:Addr}{i:Nat}{xs ys:Array Value}{Q:Option Value->Shared->Prop}(hh:A.handled=none)(ap:ZipApart z TI TO i1 i2 l1 l2)(S:ZipS q qq s.heap z TI TO i1 i2 l1 l2 i)(hl1:IsSq q s.heap l1 xs)(hl2:IsSq qq s.heap l2 ys)(hx:xs[i]? = none∨ys[i]? = none)
  (k:∀h',(∀c o,c≠z->c≠TO->c≠i1->c≠i2->s.heap.get? c=some o->h'.get? c=some o)->Q none { s with heap:=h' }) :
  wpAny (model prog w) A (pyNext (.ref z)) Q E s:=by
 obtain⟨⟨f0,f1,hz,hf⟩,hti,⟨a,b,hto⟩,h1,h2⟩:=S;have ty:s.TypeIs (.ref z) "zip":=⟨_,hz,rfl⟩;unfold pyNext;refine wpAny_bind (wpAny_attempt ?_);refine wpAny_callSpecial?_slot (name:=Str.ofString "__next__") ty F.slot_zip_next (wpAny_call_entry F.slot_zip_next ty F.entry_zip_next ?_ (F.args_zip_next_1 _));have stop:∀(h':Heap) (e:Addr),(∀c o,c≠z->c≠TO->c≠i1->c≠i2->s.heap.get? c=some o->h'.get? c=some o)->(∃o,h'.get? e=some o/\o.cls=.type "StopIteration") ->
   wpAny (model prog w) A (isInstance (.ref e) (.type "StopIteration") >>= λd=>if d=true then pure none else throw (.ref e)) Q E { s with heap:=h' }:=λh' e kp he=>by
  obtain⟨o,ho,hc⟩:=he;refine wpAny_bind (wpAny_isInstance (T:="StopIteration") (b:=true) ⟨o,ho,hc⟩ rfl ?_);rw[if_pos rfl];exact wpAny_pure (k h' kp)
 rcases hf with rfl|⟨T,rfl⟩
 ·exact ZFs hh ap hz (λQ q=>ZDe hz Q q) hti hto h1 h2 hl1 hl2 hx stop
 ·cases hT:s.heap.get? T with
  |none=>exact ZFs hh ap hz (λQ q=>ZDZ hz hT Q q) hti hto h1 h2 hl1 hl2 hx stop
  |some o=>exact ZJp hh ap hz hT hti h1 h2 hl1 hl2 hx stop
theorem letGoZip{tg:Expr}{z TI TO i1 i2 l1 l2 a:Addr}{i:Nat}{Q:Unit->Shared->Prop}(ap:ZipApart z TI TO i1 i2 l1 l2)(S:ZipS q qq s.heap z TI TO i1 i2 l1 l2 i)(k:∀h',ZipS q qq h' z TI TO i1 i2 l1 l2 i->Heap.SameBut z s.heap h'->Q () { s with heap:=h' }) :
    wpAny (model prog w) A (letOwnedTupleGo tg (.ref z) (.ref a)) Q E s:=by
  have S':=S;obtain ⟨⟨f0,f1,hz,hf⟩,hti,⟨b,c,hto⟩,h1,h2⟩:=S';have way:wpAny (model prog w) A (load z >>= λ o=>match o.cls,o.data with
        |Value.type n,Data.fields vs=>if (["enumerate","zip","dict_itemiterator","dict_reverseitemiterator","odict_iterator","itertools.zip_longest","itertools.pairwise"].contains n && vs[0]? == some (rawInt (a:Int)))=true then do
            rule "for.unpacks-the-owned-tuple"
            updateField z 0 Value.none
          else pure ()
        |_,_=>pure ()) Q E s:=by
    refine wpAny_bind (wpAny_load hz ?_);dsimp only
    split
    · refine wpAny_bind (wpAny_rule ?_)
      have sA:=Heap.SameBut.update (h:=s.heap) z (Obj.mapFields λ(x:Array Value)=>x.setIfInBounds 0 Value.none);have zA:ZAD (s.heap.update z (Obj.mapFields λ(x:Array Value)=>x.setIfInBounds 0 Value.none)) z TI TO .none f1:=get?_update_self _ hz rfl;show wpAny _ _ (setField (.ref z) 0 Value.none) _ _ _;refine wpAny_setField hz rfl (by simp) (k _ ⟨⟨_,_,zA,.inl rfl⟩,(sA.2 _ ap.TIz).trans hti,⟨b,c,(sA.2 _ ap.TOz).trans hto⟩,?_,?_⟩ sA)
      · obtain⟨o,e,r⟩:=h1
        exact⟨o,(sA.2 _ ap.i1z).trans e,r⟩
      · obtain⟨o,e,r⟩:=h2
        exact⟨o,(sA.2 _ ap.i2z).trans e,r⟩
    · exact wpAny_pure (k _ S (Heap.SameBut.refl ..))
  cases tg with
  |Tuple=>exact way
  |List=>exact way
  |_=>exact wpAny_pure (k _ S (Heap.SameBut.refl ..))
theorem apart_new(n a b:Nat)(ha:a<n)(hb:b<n):ZipApart (n+4) (n+2) (n+3) n (n+1) a b:=by
 constructor <;> (intro q;have q':(_:Nat)=_:=q;omega)
theorem iterZip{z TI TO:Addr}{f0 f1:Value}{Q:Value->Shared->Prop}(hz:ZAD s.heap z TI TO f0 f1)(q:Q (.ref z) s):wpAny (model prog w) A (pyIter (.ref z)) Q E s:=by
 have ty:s.TypeIs (.ref z) "zip":=⟨_,hz,rfl⟩;refine wpAny_pyIter_slot ty F.slot_zip_iter (wpAny_call_entry F.slot_zip_iter ty F.entry_zip_iter ?_ (F.args_zip_iter_1 _));unfold Builtin.«dict_keyiterator.__iter__»;refine wpAny_bind (m:=slotArgs "__iter__" 0 ⟨[.ref z],[]⟩) (wpAny_of_eq (a:=(Value.ref z,[])) (by rfl) ?_);exact wpAny_pure ⟨_,rfl,"zip",_,ty,F.slot_zip_next.lookup,q⟩
abbrev zT1(q:Bool)(h:Heap)(l1:Addr):Heap:=h.push { cls:=.type (nm q),data:=.fields #[.ref l1,.int 0 0] }
abbrev zT2(q qq:Bool)(h:Heap)(l1 l2:Addr):Heap:=(zT1 q h l1).push { cls:=.type (nm qq),data:=.fields #[.ref l2,.int 0 0] }
abbrev zT3(q qq:Bool)(h:Heap)(l1 l2:Addr):Heap:=(zT2 q qq h l1 l2).push { cls:=.type "tuple",data:=.seq #[.ref h.objs.size,.ref (zT1 q h l1).objs.size] }
abbrev zT4(q qq:Bool)(h:Heap)(l1 l2:Addr):Heap:=(zT3 q qq h l1 l2).push { cls:=.type "tuple",data:=.seq #[.none,.none] }
abbrev zT5(q qq:Bool)(h:Heap)(l1 l2:Addr):Heap:=(zT4 q qq h l1 l2).push { cls:=.type "zip",data:=.fields #[.none,.bool false,.bool false,.ref (zT2 q qq h l1 l2).objs.size,.ref (zT3 q qq h l1 l2).objs.size] }
theorem ZJC(q qq:Bool)(l1 l2:Addr)(xs ys:Array Value) :
  Meets (Builtin.«zip.__new__» ⟨[.type "zip",.ref l1,.ref l2],[]⟩) (λ_ R s=>IsSq q s.heap l1 xs/\IsSq qq s.heap l2 ys/\R (.ok (.ret (.ref (zT4 q qq s.heap l1 l2).objs.size))) { s with heap:=zT5 q qq s.heap l1 l2 }) :=
 .of_wp λprog w A R s h=>by
  obtain⟨hp,g,d,tk,os⟩:=s;obtain⟨hl1,hl2,h⟩:=h;have hsub:=sub_zip;have hT2:IsSq qq (zT1 q hp l1) l2 ys:=let ⟨o,e,r⟩:=hl2;⟨o,get?_push_of_some _ e,r⟩
  wp_walk using itG hl1,itG (s:=⟨zT1 q hp l1,g,d,tk,os⟩) hT2
  exact⟨_,rfl,h⟩
theorem callZipT{l1 l2:Addr}{xs ys:Array Value}{Q:Value->Shared->Prop}(hL1:IsSq q s.heap l1 xs)(hL2:IsSq qq s.heap l2 ys)
  (k:∀h',ZipS q qq h' (s.heap.objs.size+4) (s.heap.objs.size+2) (s.heap.objs.size+3) s.heap.objs.size (s.heap.objs.size+1) l1 l2 0->h'.objs.size=s.heap.objs.size+5->(∀c o,s.heap.get? c=some o->h'.get? c=some o)->Q (.ref (s.heap.objs.size+4)) { s with heap:=h' }) :
  wpAny (model prog w) A (call (.type "zip") [.ref l1,.ref l2]) Q E s:=by
 refine callType_new F.called_zip (by decide) (F.typeCall_zip_2 _ _) (F.newCall_zip_2 _ _) (λobj=>F.args_object_init_3 obj _ _) F.entry_zip_new (ZJC q qq l1 l2 xs ys) ⟨hL1,hL2,?_⟩;have z1:(zT1 q s.heap l1).objs.size=s.heap.objs.size+1:=size_push ..;have z2:(zT2 q qq s.heap l1 l2).objs.size=s.heap.objs.size+2:=by rw[size_push,z1]
 have z3:(zT3 q qq s.heap l1 l2).objs.size=s.heap.objs.size+3:=by rw[size_push,z2]
 have z4:(zT4 q qq s.heap l1 l2).objs.size=s.heap.objs.size+4:=by rw[size_push,z3]
 have e1:(zT1 q s.heap l1).get? s.heap.objs.size=some { cls:=.type (nm q),data:=.fields #[.ref l1,.int 0 0] }:=get?_push_size _ rfl;have e2:(zT2 q qq s.heap l1 l2).get? (s.heap.objs.size+1)=some { cls:=.type (nm qq),data:=.fields #[.ref l2,.int 0 0] }:=by rw[←z1];exact get?_push_size _ rfl
 have e3:(zT3 q qq s.heap l1 l2).get? (s.heap.objs.size+2)=some { cls:=.type "tuple",data:=.seq #[.ref s.heap.objs.size,.ref (zT1 q s.heap l1).objs.size] }:=by rw[←z2];exact get?_push_size _ rfl
 have e4:(zT4 q qq s.heap l1 l2).get? (s.heap.objs.size+3)=some { cls:=.type "tuple",data:=.seq #[.none,.none] }:=by rw[←z3];exact get?_push_size _ rfl
 have e5:(zT5 q qq s.heap l1 l2).get? (s.heap.objs.size+4)=some { cls:=.type "zip",data:=.fields #[.none,.bool false,.bool false,.ref (zT2 q qq s.heap l1 l2).objs.size,.ref (zT3 q qq s.heap l1 l2).objs.size] }:=by rw[←z4];exact get?_push_size _ rfl
 rw[z2,z3] at e5;rw[z1] at e3;have up:∀{h:Heap} {o u:Obj} {c:Addr},h.get? c=some u->(h.push o).get? c=some u:=λq=>get?_push_of_some _ q
 show _/\_;rw[z4];refine⟨⟨_,e5,rfl⟩,k _ ⟨⟨_,_,e5,.inl rfl⟩,up (up e3),⟨_,_,up e4⟩,⟨_,up (up (up (up e1))),rfl,rfl⟩,⟨_,up (up (up e2)),rfl,rfl⟩⟩ (by rw[size_push,z4]) λc o q=>up (up (up (up (up q))))⟩
end
end HI
namespace L2
open PySem PySem.Spec PyProof.Rows
def ZIK(q qq:Bool)(K:PySem.W.Frag)(a b:Addr):It :=
 ⟨λi H=>∃xs ys x y,SqG q K H a xs/\SqG qq K H b ys/\xs[i]? = some x/\ys[i]? = some y,λi H v H'=>∃p x y,v=.ref p/\H p=none/\H'=upd H p (.tup [x,y])/\∀xs ys,SqG q K H a xs->SqG qq K H b ys->xs[i]? = some x/\ys[i]? = some y,
  λi H=>∃xs ys,SqG q K H a xs/\SqG qq K H b ys/\(xs.length<=i∨ys.length<=i)⟩
theorem ZH9{q qq:Bool}{P:Program}{w:World}{K:PySem.W.Frag}{tg:Expr}(a b z TI TO i1 i2:Addr)(ap:ZipApart z TI TO i1 i2 a b) :
  Turn P w K tg (ZIK q qq K a b) [z,TI,TO,i1,i2] z (λi h=>HI.ZipS q qq h z TI TO i1 i2 a b i) where
 mem:=by simp
 obj:=λi h st c hc=>by
  obtain⟨⟨f0,f1,hz,_⟩,hti,⟨u,v,hto⟩,⟨o1,e1,c1,d1⟩,⟨o2,e2,c2,d2⟩⟩:=st;simp only[mem_cons,not_mem_nil,or_false] at hc;rcases hc with rfl|rfl|rfl|rfl|rfl
  ·exact⟨_,hz,λv q=>by cases q⟩
  ·exact⟨_,hti,λv q=>by cases q⟩
  ·exact⟨_,hto,λv q=>by cases q⟩
  ·exact⟨_,e1,λv q=>by rw[d1] at q;cases q⟩
  ·exact⟨_,e2,λv q=>by rw[d2] at q;cases q⟩
 keep:=λi h h' st kk=>by
  obtain⟨⟨f0,f1,hz,hf⟩,hti,⟨u,v,hto⟩,⟨o1,e1,r1⟩,⟨o2,e2,r2⟩⟩:=st;exact⟨⟨f0,f1,kk z (by simp) _ hz,hf⟩,kk TI (by simp) _ hti,⟨u,v,kk TO (by simp) _ hto⟩,⟨o1,kk i1 (by simp) _ e1,r1⟩,⟨o2,kk i2 (by simp) _ e2,r2⟩⟩
 item:=by
  intro X hP hw hK hc i pins s σ H E I hf st hg;subst hP hw hK;obtain⟨xs,ys,x,y,hq,hq2,hx,hy⟩:=hg;obtain⟨its,rv,p,hz⟩:=I.sq hq;obtain⟨its2,rv2,p2,hz2⟩:=I.sq hq2;obtain⟨u,hu,ru⟩:=rv.get hx;obtain⟨u2,hu2,ru2⟩:=rv2.get hy;refine HI.nextZip (xs:=its.toArray) (ys:=its2.toArray) ap st p p2 (by simpa using hu) (by simpa using hu2) λh' S' pr sz kp=>?_
  refine⟨_,rfl,HI.letGoZip ap S' λh2 S2 sb=>?_⟩;have nT:H s.heap.objs.size=none:=I.hok.fresh (le_refl _);have zlt:z<s.heap.objs.size:=by obtain⟨⟨f0,f1,q,_⟩,_⟩:=st;exact lt_size q
  have kk:∀c o,c∉[z,TI,TO,i1,i2]->s.heap.get? c=some o->h2.get? c=some o:=λc o hn q=>by
   simp only[mem_cons,not_mem_nil,or_false,not_or] at hn;exact(sb.2 c hn.1).trans (kp c o hn.1 hn.2.2.1 hn.2.2.2.1 hn.2.2.2.2 q)
  have nit:∀c v,H c=some v->c∉[z,TI,TO,i1,i2]:=λc v q hm=>by
   have:=(hf c hm).1;rw[this] at q;cases q
  have hT2:h2.get? s.heap.objs.size=some { cls:=.type "tuple",data:=.seq #[u,u2] }:=(sb.2 _ (Nat.ne_of_gt zlt)).trans pr;have ne1:∀c v,H c=some v->c≠s.heap.objs.size:=λc v q=>ZF q nT
  have hok:HOk X.prog X.w (upd H s.heap.objs.size (.tup [x,y])) h2:=λc ob q=>by
   by_cases hb:c=s.heap.objs.size
   ·subst hb
    rw[ZG] at q;cases q;exact⟨by show 2<=sizeLine;decide,[u,u2],.cons ru (.cons ru2 .nil),⟨_,hT2,rfl,_,rfl⟩⟩
   ·rw[ZE hb] at q
    refine(I.hok c ob q).stay (λd v hd r=>?_) (λd r=>by rw[ZE (ne1 _ _ r)];exact r) λd ys r=>by rw[ZE (ne1 _ _ r)];exact r
    have nc:d∉[z,TI,TO,i1,i2]:=by
     rcases hd with e|e
     ·rw[e];exact nit c ob q
     ·exact nit d _ e
    exact kk d v nc r
  have I2:Inv X pins σ (upd H s.heap.objs.size (.tup [x,y])) { s with heap:=h2 }:=by
   refine I.step (g':=s.gens) (d':=s.drawn) (t':=s.toks) (ch:=[z,TI,TO,i1,i2]) (λc hc'=>?_) (λc o _ _ hc' q _=>kk c o hc' q) (λc o _ _ hc' q _=>⟨o.slots,kk c o hc' q⟩)
    (λc o _ q n=>by rw[ZE (ne_of_lt (lt_size q))];exact n) (λc o hc' q=>⟨o,kk c o hc' q⟩) (λc ys q=>by rw[ZE (ne1 _ _ q)];exact q) (λc o u q=>by rw[ZE (ne1 _ _ q)];exact q)
    (λc ps q=>⟨#[],by rw[ZE (ne1 _ _ q),q];simp⟩) (λm hm=>?_) hok I.bare
   ·obtain⟨f0,f1,f2,f3,f4,f5⟩:=hf c hc'
    exact⟨f3,f1,f4,f5⟩
   ·obtain⟨o,es',ep,ho',r⟩:=hm
    refine⟨o,es',ep,kk _ o (λhm'=>?_) ho',r⟩;exact(hf _ hm').2.1 rfl
  refine⟨.ref s.heap.objs.size,_,I2,rfl,⟨_,x,y,rfl,nT,rfl,λzs ws hz' hw'=>by rw[I.sq_inj hz' hq,I.sq_inj hw' hq2];exact⟨hx,hy⟩⟩,S2,λc hc'=>?_⟩;have h0:=(hf c hc').1;have hlt:c<s.heap.objs.size:=by
   obtain⟨⟨f0,f1,q,_⟩,hti,⟨_,_,hto⟩,⟨o1,e1,_⟩,⟨o2,e2,_⟩⟩:=st;simp only[mem_cons,not_mem_nil,or_false] at hc';rcases hc' with rfl|rfl|rfl|rfl|rfl
   ·exact lt_size q
   ·exact lt_size hti
   ·exact lt_size hto
   ·exact lt_size e1
   ·exact lt_size e2
  rw[ZE (ne_of_lt hlt)];exact h0
 done:=by
  intro X hP hw hK hc i pins s σ H E I hf st hg;subst hP hw hK;obtain ⟨xs,ys,hq,hq2,hx⟩:=hg;obtain ⟨its,rv,p,hz⟩:=I.sq hq;obtain ⟨its2,rv2,p2,hz2⟩:=I.sq hq2;have l1:=rv.length;have l2:=rv2.length;refine HI.endZip (xs:=its.toArray) (ys:=its2.toArray) (I.ok.hd hc) ap st p p2 (by
   rcases hx with q|q
   ·exact .inl (by simp;omega)
   ·exact .inr (by simp;omega)) λh' kp=>⟨rfl,?_⟩
  refine I.step (g':=s.gens) (d':=s.drawn) (t':=s.toks) (ch:=[z,TI,TO,i1,i2]) (H':=H) (λc hc'=>?_) (λc o _ _ hc' q _=>?_) (λc o _ _ hc' q _=>?_) (λc o _ q n=>n) (λc o hc' q=>?_) (λc ys q=>q) (λc o u q=>q) (λc ps q=>⟨#[],by rw[q];simp⟩) (λm hm=>?_) (λc ob q=>?_) I.bare
  ·obtain⟨f0,f1,f2,f3,f4,f5⟩:=hf c hc'
   exact⟨f3,f1,f4,f5⟩
  ·simp only[mem_cons,not_mem_nil,or_false,not_or] at hc'
   exact kp c o hc'.1 hc'.2.2.1 hc'.2.2.2.1 hc'.2.2.2.2 q
  ·simp only[mem_cons,not_mem_nil,or_false,not_or] at hc'
   exact⟨o.slots,kp c o hc'.1 hc'.2.2.1 hc'.2.2.2.1 hc'.2.2.2.2 q⟩
  ·simp only[mem_cons,not_mem_nil,or_false,not_or] at hc'
   exact⟨o,kp c o hc'.1 hc'.2.2.1 hc'.2.2.2.1 hc'.2.2.2.2 q⟩
  ·obtain⟨o,es',ep,ho',r⟩:=hm
   have nl:∀c∈[z,TI,TO,i1,i2],X.env.locals≠c:=λc hc' e=>(hf c hc').2.1 e.symm
   exact⟨o,es',ep,kp _ o (nl z (by simp)) (nl TO (by simp)) (nl i1 (by simp)) (nl i2 (by simp)) ho',r⟩
  ·refine(I.hok c ob q).stay (λd v hd r=>?_) (λd r=>r) λd ys r=>r
   have nd:∀e,H d=some e->∀c∈[z,TI,TO,i1,i2],d≠c:=λe q' c hc' e'=>by
    have:=(hf c hc').1;rw[←e',q'] at this
    cases this
   have hd':∃e,H d=some e:=by
    rcases hd with e|e
    ·rw[e];exact⟨_,q⟩
    ·exact⟨_,e⟩
   obtain⟨e,he⟩:=hd';exact kp d v (nd e he z (by simp)) (nd e he TO (by simp)) (nd e he i1 (by simp)) (nd e he i2 (by simp)) r
 self:=λ_ _ _ _ _ st h=>by
  obtain⟨⟨f0,f1,hz,_⟩,_⟩:=st;exact HI.iterZip hz h
section
variable{X:Cx}
def iZipG(q qq:Bool)(K:PySem.W.Frag)(ta:TA):TI:=λσ H R=>ta σ H λvs H1=>∃a b,vs=[.ref a,.ref b]/\(∃xs ys,SqG q K H1 a xs/\SqG qq K H1 b ys)/\R (ZIK q qq K a b) H1
theorem ZLi{q qq:Bool}{tg a b:Expr}{ta:TA}{p pos:Pos}(hg:Gl X "zip")(hm:X.mg "zip" = none)(ha:PA X [a,b] ta)(hs:starEach [a,b] X.env=[(false,eval a X.env),(false,eval b X.env)]:=by rfl)(hs2:starEach [b] X.env=[(false,eval b X.env)]:=by rfl) :
  PI X tg (.Call (.Name "zip" p) [a,b] [] pos) (iZipG q qq X.K ta):=by
 intro pins s σ H R I h;refine Call_ (ZCY I hg hm boot_zip (PyProof.Rows.callWith_type1 (thn (ha pos pins s σ H _ I h) λus s1 ⟨vs,H1,I1,r1,q1⟩=>?_) (by rw[hs,hs2]) (by rw[hs2];rfl)));obtain⟨l1,l2,e,⟨xs,ys,hq1,hq2⟩,q⟩:=q1;subst e;cases r1 with
 |cons r rr =>
  cases rr with
  |cons r' rr =>
   cases rr;cases r;cases r';obtain⟨its,rv,pt,hz⟩:=I1.sq hq1;obtain⟨its2,rv2,pt2,hz2⟩:=I1.sq hq2;have lt1:l1<s1.heap.objs.size:=by obtain⟨o,e,_⟩:=pt;exact lt_size e
   have lt2:l2<s1.heap.objs.size:=by obtain⟨o,e,_⟩:=pt2;exact lt_size e
   refine HI.callZipT (show HI.IsSq _ s1.heap l1 its.toArray from pt) (show HI.IsSq _ s1.heap l2 its2.toArray from pt2) λh' S' hsz hk=>?_
   have I2:Inv X pins σ H1 { s1 with heap:=h' }:=I1.kept (t':=s1.toks) hk;obtain⟨f0,f1,zo,hf⟩:=S'.zo;have ap:ZipApart (s1.heap.objs.size+4) (s1.heap.objs.size+2) (s1.heap.objs.size+3) s1.heap.objs.size (s1.heap.objs.size+1) l1 l2:=HI.apart_new _ _ _ lt1 lt2;refine HI.iterZip zo ⟨s1.heap.objs.size+4,[s1.heap.objs.size+4,s1.heap.objs.size+2,s1.heap.objs.size+3,s1.heap.objs.size,s1.heap.objs.size+1],_,_,H1,rfl,I2,ZH9 l1 l2 _ _ _ _ _ ap,S',λb hb=>?_,q⟩;have hb':s1.heap.objs.size<=b:=by
    simp only[mem_cons,not_mem_nil,or_false] at hb;rcases hb with rfl|rfl|rfl|rfl|rfl
    ·exact le_add_right _ _
    ·exact le_add_right _ _
    ·exact le_add_right _ _
    ·exact le_refl _
    ·exact le_add_right _ _
   exact I1.fpOk hb' (I1.hok.fresh hb')
end
abbrev Itz:=ZIK true true
abbrev Itzl:=ZIK false false
end L2
namespace HT
open PySem PyProof.Rows
section
variable{prog:Program}{w:World}{A:Around}{E:Value->Shared->Prop}{s:Shared}
theorem getItem_tuple_whole{t sl:Addr}{items:Array Value}{vl vu:Value}{lo hi:Option Int}{Q:Value->Shared->Prop}(ht:IsTup s.heap t items)(hs:s.heap.IsSliceOf sl vl vu .none)(pl:IsPart vl lo)(pu:IsPart vu hi)
  (hw:sIx items.size 0 lo=0/\sIx items.size items.size hi=items.size)(h:Q (.ref t) s):wpAny (model prog w) A (getItem (.ref t) (.ref sl)) Q E s:=by
 obtain⟨os,hos,hcs,hds⟩:=id hs;have hTs:s.TypeIs (.ref sl) "slice":=⟨os,hos,hcs⟩;unfold getItem
 try with_reducible refine wpAny_holding ?_
 first|refine wpAny_bind (wpAny_pure ?_)|skip
 refine wpAny_bind (wpAny_sequenceKey ht.typeIs (by decide) ?_);refine wpAny_bind (wpAny_callSpecial?_slot (name:=Str.ofString "__getitem__") ht.typeIs PyProof.Rows.slot_tuple_getitem
  (wpAny_call_entry PyProof.Rows.slot_tuple_getitem ht.typeIs entry_tuple_getitem ?_ (args_tuple_getitem _ _)))
 show wpAny _ _ (Builtin.Tuple.tupleItemsOf (.ref t) >>= _) _ _ s;refine wpAny_bind (tupleItemsOf_ ht ?_);refine wpAny_bind (wpAny_typeOf hTs ?_);rw[if_pos (by decide)];refine wpAny_bind (ZAo hs pl pu ?_);show wpAny _ _ (if (((sIx items.size 0 lo:Nat):Int) == 0 && (1:Int) == 1 && (sIx items.size items.size hi-sIx items.size 0 lo) == items.size)=true then _ else _) _ _ s;have hyes:(((sIx items.size 0 lo:Nat):Int) == 0 && (1:Int) == 1 && (sIx items.size items.size hi-sIx items.size 0 lo) == items.size)=true:=by
  rw[hw.1,hw.2];simp
 rw[if_pos hyes];unfold Builtin.Tuple.tupleIsExact;refine wpAny_bind (wpAny_bind (wpAny_typeOf ht.typeIs (wpAny_pure ?_)));rw[if_pos (by rfl)];exact wpAny_bind (wpAny_rule (wpAny_pure ⟨_,rfl,wpAny_pure h⟩))
end
end HT
namespace L2
open PySem PySem.Spec PyProof.Rows
section
variable{X:Cx}
theorem ZJK:SlR X (λx lo hi H Q=>∃a xs,x=.ref a/\SqT X.K H a xs/\((HT.sIx xs.length 0 lo=0/\HT.sIx xs.length xs.length hi=xs.length)->Q (.ref a) H) /\
  (¬(HT.sIx xs.length 0 lo=0/\HT.sIx xs.length xs.length hi=xs.length)->∀p,H p=none->Q (.ref p) (upd H p (.tup (ZEJ xs lo hi))))):=by
 intro pins s σ H x v vl vu lo hi sl Q I rx hs pl pu h;obtain⟨a,xs,rfl,hx,q1,q2⟩:=h
 by_cases hw:HT.sIx xs.length 0 lo=0/\HT.sIx xs.length xs.length hi=xs.length
 ·cases rx
  obtain⟨its,r,ht,hz⟩:=I.tuple hx;have hlen:its.toArray.size=xs.length:=by rw[size_toArray];exact r.length.symm
  refine⟨"tuple",_,PyProof.Rows.slot_tuple_getitem.lookup,ht.typeIs,?_⟩;exact HT.getItem_tuple_whole ht hs pl pu (by rw[hlen];exact hw) ⟨.ref a,H,I,rfl,q1 hw⟩
 ·exact ZLh pins s σ H (.ref a) v vl vu lo hi sl Q I rx hs pl pu ⟨a,xs,rfl,hx,hw,q2 hw⟩
end
def ZHH(a:Addr):HO:=.ext λh=>∃o,h.get? a=some o/\o.cls=.type "dict"/\∃es n,o.data=.dict es n
inductive Kd (K:PySem.W.Frag) (H:Hp):V->String->Prop
 |non:Kd K H .non "NoneType"
 |bl (b:Bool):Kd K H (.bl b) "bool"
 |int (i:Int):Kd K H (.int i) "int"
 |str (x:Str):Kd K H (.str x) "str"
 |lst {a:Addr} {xs:List V}:H a=some (.lst xs)->Kd K H (.ref a) "list"
 |tup {a:Addr} {xs:List V}:SqT K H a xs->Kd K H (.ref a) "tuple"
 |dct {a:Addr}:H a=some (ZHH a)->Kd K H (.ref a) "dict"
def isi(k T:String):Bool:=decide (k=T) || (decide (k = "bool") && decide (T = "int"))
section
variable{X:Cx}{pos p2:Pos}
theorem ZGY:ZJ X (.builtin "isinstance") (λxs H Q=>∃(x:V) (T k:String),xs=[x,.ty T]/\Kd X.K H x k/\(T = "int"∨T = "bool"∨T = "tuple"∨T = "str")/\Q (.bl (isi k T)) H):=by
 intro pins s σ H xs us Q I r h;obtain⟨x,T,k,rfl,kd,hT,q⟩:=h;obtain⟨u,w',rfl,ru,rw'⟩:=ZH1 r;cases rw';have fin:∀(t:Value),PySem.W.kitOne X.K t (.type T)=some (isi k T)->∀{HH:Heap->Prop},PySem.W.KitX X.K u t HH->HH s.heap->(u≠Value.builtin "__main__.__loader__#opaque")->wpAny (model X.prog X.w) X.A (call (.builtin "isinstance") [u,.type T]) (EP X pins σ Q) X.xe s:=λt e _ kx hh hu =>
  PySem.W.kia_one kx I.kIn hh e hu λtk=>⟨.bl _,H,I.tok tk,rfl,q⟩
 cases kd with
 |non=>cases ru;exact fin (.type "NoneType") (by rcases hT with rfl|rfl|rfl|rfl <;> rfl) PySem.W.kitx_none True.intro (λz=>nomatch z)
 |bl y=>cases ru;exact fin (.type "bool") (by rcases hT with rfl|rfl|rfl|rfl <;> rfl) PySem.W.kitx_bool True.intro (λz=>nomatch z)
 |int i=>obtain⟨t,rfl⟩:=ru;exact fin (.type "int") (by rcases hT with rfl|rfl|rfl|rfl <;> rfl) PySem.W.kitx_int True.intro (λz=>nomatch z)
 |str y=>obtain⟨t,rfl⟩:=ru;exact fin (.type "str") (by rcases hT with rfl|rfl|rfl|rfl <;> rfl) PySem.W.kitx_str True.intro (λz=>nomatch z)
 |@lst a xs ea =>
  cases ru;obtain⟨_,_,n,_,h1⟩:=(show ZAM X.prog X.w H s.heap a (.lst xs) from I.hok a _ ea);exact fin (.type "list") (by rcases hT with rfl|rfl|rfl|rfl <;> rfl) PySem.W.kitx_list ⟨_,h1,rfl⟩ (λz=>nomatch z)
 |@tup a xs ea =>
  cases ru;obtain⟨_,_,⟨o,h1,h2,_⟩,_⟩:=I.tuple ea;exact fin (.type "tuple") (by rcases hT with rfl|rfl|rfl|rfl <;> rfl) PySem.W.kitx_tuple ⟨o,h1,h2⟩ (λz=>nomatch z)
 |@dct a ea =>
  cases ru;obtain⟨⟨o,h1,h2,_⟩,_⟩:=(show ZAM X.prog X.w H s.heap a (ZHH a) from I.hok a _ ea);exact fin (.type "dict") (by rcases hT with rfl|rfl|rfl|rfl <;> rfl) PySem.W.kitx_dict ⟨o,h1,h2⟩ (λz=>nomatch z)
def ZJu(mg:Str->Option Value)(x:Str)(n:Int):Prop:=∃t,mg x=some (.int n t)
theorem ZH4{x:Str}{n:Int}(hg:Gl X x)(h:ZJu X.mg x n)(hd:(x == ("__debug__" : Str))=false:=by decide):PE X (.Name x pos) (tC (.int n)):=by
 obtain⟨t,e⟩:=h;exact ZFp hg e ⟨t,rfl⟩ hd
end
end L2
namespace HT
open PySem PyProof.Rows
open Builtin
section
variable{prog:Program}{w:World}{A:Around}{E:Value->Shared->Prop}{s:Shared}
theorem cat_tupA{t b:Addr}{vs ws:List Value}{Q:Value->Shared->Prop}(ht:IsTup s.heap t vs.toArray)(hb:IsTup s.heap b ws.toArray)
  (h0:vs=[]->Q (.ref b) s)(h1:vs≠[]->ws=[]->Q (.ref t) s)(h2:vs≠[]->ws≠[]->Q (.ref s.heap.objs.size) { s with heap:=s.heap.push { cls:=.type "tuple",data:=.seq (vs++ws).toArray } })
  (hsz:vs.length+ws.length<=sizeLine):wpAny (model prog w) A (binaryOp .Add (.ref t) (.ref b)) Q E s:=by
 by_cases hv:vs=[]
 ·obtain⟨⟨cls,dd,data,sl⟩,ho,hc,n,hd⟩:=id ht
  obtain⟨⟨cls2,dd2,data2,sl2⟩,ho2,hc2,n2,hd2⟩:=id hb;simp only at hc hd hc2 hd2;subst hc hd hc2 hd2;exact concat_meets ⟨_,ho,rfl⟩ ⟨_,ho2,rfl⟩ noFill_tuple_add seq_tuple_add PySem.F.slot_tuple_add PySem.F.entry_tuple_add (PySem.F.args_tuple_add_2 _ _)
   (tuple_addW0 t b vs.toArray ws.toArray n n2 dd dd2 sl sl2 (by simp[hv])) ⟨ho,ho2,h0 hv⟩
 ·exact ZIZ ht hb hv (h1 hv) (h2 hv) hsz
theorem noFill_tuple_mul:fillsNumberSlot (.type "tuple") "mul" = pure false :=
 PySem.fillsNumberSlot_seq (id:="tuple.__mul__") (r:=some (.builtin "tuple.__rmul__")) F.slot_tuple_mul.lookup (by decide +kernel) F.slot_tuple_rmul.lookup (by decide +kernel)
theorem repeat_tuple:seqRepeat? (.type "tuple")=pure (some (.builtin "tuple.__mul__")):=by
 unfold seqRepeat?;rw[PySem.seqSlot_of (T:="tuple") (name:="__mul__") (id:="tuple.__mul__") F.slot_tuple_mul.lookup (by decide +kernel),PySem.seqSlot_of (T:="tuple") (name:="__rmul__") (id:="tuple.__rmul__") F.slot_tuple_rmul.lookup (by decide +kernel)];rfl
theorem rmul_tup(a:Int)(t:Tok)(l:Addr)(items:Array Value)(n:Nat)(dd:Option Addr)(sl:Array (Option Value)) :
  Meets (Builtin.«int.__rmul__» ⟨[.int a t,.ref l],[]⟩) (λ_ R s=>s.heap.get? l=some { cls:=.type "tuple",dict:=dd,data:=.seq items n,slots:=sl }/\R (.ok (.ret Value.notImplemented)) s) :=
 .of_wp λprog w A R s h=>by obtain⟨hp,g,d,tk,os⟩:=s;obtain⟨hl,h⟩:=h;wp_walk;exact⟨_,rfl,h⟩
theorem tuple_mulW(l:Addr)(items:Array Value)(n:Nat)(dd:Option Addr)(sl:Array (Option Value))(k:Int)(t:Tok)(hc0 : ¬(decide (k < -(2 ^ 63)) || decide (k ≥ 2 ^ 63))=true)(hc1 : ¬(items.isEmpty || k == 1)=true)(hc2 : ¬(decide (k<=0) || items.isEmpty)=true)
  (hc3 : ¬((items.size:Int)*k > (2 ^ 63-1) / 8))(hc4 : ¬Builtin.Tuple.tupleTooMany ((items.size:Int)*k)=true)(hsz:((List.replicate k.toNat items).foldl (·++·) #[]).size<=sizeLine) :
  Meets (Builtin.«tuple.__mul__» ⟨[.ref l,.int k t],[]⟩) (λ_ R s=>s.heap.get? l=some { cls:=.type "tuple",dict:=dd,data:=.seq items n,slots:=sl }/\R (.ok (.ret (Value.ref s.heap.objs.size))) { s with heap:=s.heap.push { cls:=Value.type "tuple",data:=Data.seq ((List.replicate k.toNat items).foldl (·++·) #[]) },toks:=s.toks }) :=
 .of_wp λprog w A R s h=>by
  obtain⟨hp,g,d,tk,os⟩:=s;obtain⟨hl,h⟩:=h;have f1:=AutoSeq1.idx_int;have f2:=AutoSeq1.sub_tuple_tuple
  wp_walk using wpAny_loadPart' hl
  rw[if_neg hc0]
  wp_walk using wpAny_loadPart' hl
  rw[if_neg hc3]
  wp_walk using wpAny_loadPart' hl
  exact⟨_,rfl,h⟩
end
end HT
namespace L2
open PySem PySem.Spec PyProof.Rows H1
section
variable{X:Cx}
theorem ZHa{e:Expr}{te:TE}{pos:Pos}(h:PE X e te):PE X (.JoinedStr [e] pos) te:=λpins s σ H Q I hh=>JoinedStr_one (h pins s σ H Q I hh)
theorem ZDV:∀{ss:List Str} {us:List Value},ZI (ss.map V.str) us->∃l:List (Str×Tok),us=strValues l/\l.map (·.1)=ss
 |[],_,r=>by cases r;exact⟨[],rfl,rfl⟩
 |x::ss,_,r=>by
  cases r with
  |cons r1 r2 =>
   obtain⟨t,rfl⟩:=r1;obtain⟨l,rfl,h⟩:=ZDV r2;exact⟨(x,t)::l,rfl,by rw[map_cons,h]⟩
theorem ZGv{ss:List Str}{B:Nat}(h:∀x∈ss,x.length<=B):(ss.map (·.length)).sum<=ss.length*B:=by
 induction ss with
 |nil=>simp
 |cons x r ih =>
  rw[map_cons,sum_cons,length_cons,Nat.succ_mul];have:=ih λy hy=>h y (mem_cons_of_mem _ hy)
  have:=h x (mem_cons_self ..);omega
theorem ZAn(x:String):PyData.strOk (Str.ofString x)=true:=by
 unfold PyData.strOk;rw[Str.ofString_eq_toList,List.all_toArray,all_eq_true];intro n hn;obtain⟨c,_,rfl⟩:=List.mem_map.mp hn;rw[decide_eq_true_iff];rcases c.valid with h|h
 ·exact lt_trans (show c.toNat<0xd800 from h) (by decide)
 ·exact h.2
theorem ZG1{a b:Str}(h:PyData.strOk a=true)(h':PyData.strOk b=true):PyData.strOk (a++b)=true:=by
 unfold PyData.strOk at *;rw[Str.cps_append,Array.all_append,h,h'];rfl
theorem ZFw{sep:Str}(hs:PyData.strOk sep=true):∀{ss:List Str},(∀x∈ss,PyData.strOk x=true)->PyData.strOk (Str.join sep ss)=true
 |[],_=>(by show PyData.strOk Str.empty=true;simp[PyData.strOk,Str.empty])
 |[x],h=>h x (List.mem_singleton.mpr rfl)
 |x::y::r,h=>by
  show PyData.strOk (x++sep++Str.join sep (y::r))=true;exact ZG1 (ZG1 (h x (mem_cons_self ..)) hs) (ZFw hs λz hz=>h z (mem_cons_of_mem _ hz))
theorem ZC0{sep:Str}(hs:PyData.strOk sep=true){ss:List Str}(h:∀x∈ss,PyData.strOk x=true):PyData.strOk (Txt.join sep ss)=true:=by
 show PyData.strOk (Builtin.Str.glued sep ss)=true;rw[StrLaws.glued_eq_join];exact ZFw hs h
def ZIm(mg:Str->Option Value)(x:Str)(n:Str):Prop:=∃t,mg x=some (.str n t)
theorem ZIQ{x n:Str}{pos:Pos}(hg:Gl X x)(h:ZIm X.mg x n)(hd:(x == ("__debug__" : Str))=false:=by decide):PE X (.Name x pos) (tC (.str n)):=by
 obtain⟨t,e⟩:=h;exact ZFp hg e ⟨t,rfl⟩ hd
end
theorem ZCS{sep:Str}{ss:List Str}{B N:Nat}(h:∀x∈ss,x.length<=B)(hn:ss.length<=N):(Txt.join sep ss).length<=N*B+N*sep.length:=by
 show(Builtin.Str.glued sep ss).length<=_;rw[StrLaws.glued_eq_join];cases ss with
 |nil=>exact zero_le _
 |cons a r =>
  rw[len_join_cons];have h1:=ZGv h;have h2:(a::r).length*B<=N*B:=Nat.mul_le_mul_right _ hn;have h3:r.length*sep.length<=N*sep.length:=Nat.mul_le_mul_right _ (by rw[length_cons] at hn;omega);omega
def ZAO(ns:List Int):PyData:=.tuple (ns.map .int)
end L2
namespace HT
open PySem PyProof.Rows
def lexGe:List Int->List Int->Bool
 |[],[]=>true
 |[],_::_=>false
 |_::_,[]=>true
 |x::xs,y::ys=>if x=y then lexGe xs ys else decide (y<=x)
theorem ZFQ(x y:Int)(xs ys:List Int):lexGe (x::xs) (y::ys)=if x=y then lexGe xs ys else decide (y<=x):=rfl
theorem ZDH:lexGe [] []=true:=rfl
theorem ZCV(y:Int)(ys:List Int):lexGe [] (y::ys)=false:=rfl
theorem ZCl(x:Int)(xs:List Int):lexGe (x::xs) []=true:=rfl
theorem ZHe(A:Around)(s:Shared)(a:Int)(t:Tok)(c:Int)(u:Tok)(prog:Program)(w:World)(E:Value->Shared->Prop)(Q:Value->Shared->Prop)(h:Q (.bool (decide (c<=a))) s) :
  wpAny (model prog w) A (richCompare .GtE (.int a t) (.int c u)) Q E s :=
 (PyProof.Rows.ge_int h:wpAny (model prog w) A (compareOp .GtE (.int a t) (.int c u)) Q E s)
section
open PySem.SeqAt
open PySem.AutoSeq1 (wpAny_loadPart')
open PySem.MeetsSeq PySem.MeetsSeq2 PySem.MeetsSeq3
theorem ZDM(l b:Addr)(items items2:Array Value)(n n2:Nat)(dd dd2:Option Addr)(sl sl2:Array (Option Value))(ns ms:List Int)(hi:IntsAre items.toList ns)(hj:IntsAre items2.toList ms) :
  Meets (Builtin.«tuple.__ge__» ⟨[.ref l,.ref b],[]⟩)
   (λ _ R s=>s.heap.get? l=some { cls:=.type "tuple",dict:=dd,data:=.seq items n,slots:=sl }/\s.heap.get? b=some { cls:=.type "tuple",dict:=dd2,data:=.seq items2 n2,slots:=sl2 } /\
    R (.ok (.ret (.bool (lexGe ns ms)))) s) :=
 .of_wp λprog w A R s h=>by
  obtain⟨hp,g,d,tk,os⟩:=s;obtain⟨hl,hb,h⟩:=h;have f2:=AutoSeq1.sub_tuple_tuple;have z1:items.size=ns.length:=by rw[←hi.length];simp
  have z2:items2.size=ms.length:=by rw[←hj.length];simp
  wp_walk using wpAny_loadPart' hl,wpAny_loadPart' hb,wpAny_forIn_list _ (λ rest b s'=>b.1=none/\s'=⟨hp,g,d,tk,os⟩/\∃ (vs ws:List Value) (ns' ms':List Int),rest=vs.zip ws /\
   IntsAre vs ns'/\IntsAre ws ms'/\ns'.length+items2.size=ms'.length+items.size/\R (.ok (.ret (.bool (lexGe ns' ms')))) ⟨hp,g,d,tk,os⟩) _
  case turn =>
   rintro ⟨y,x⟩ rest b s' ⟨hb',rfl,vs,ws,ns',ms',hz,hvi,hwi,hlen,hR⟩
   cases hvi with
   |nil=>rw[zip_nil_left] at hz;cases hz
   |cons a t hvi' =>
    cases hwi with
    |nil=>rw[List.zip_nil_right] at hz;cases hz
    |cons c u hwi' =>
     rw[zip_cons_cons] at hz;injection hz with hyx hrest
     injection hyx with hy hx
     subst hy hx;rw[ZFQ] at hR;simp only[length_cons] at hlen;obtain⟨e,he,hiff⟩:=ZCp A.in1 ⟨hp,g,d,tk,os⟩ a t c u;refine wpAny_bind (he prog w _ _ ?_);cases e with
     |true =>
      rw[if_pos (hiff.mp rfl)] at hR
      wp_walk
      exact⟨rfl,rfl,_,_,_,_,hrest,hvi',hwi',by omega,hR⟩
     |false =>
      rw[if_neg (λq=>absurd (hiff.mpr q) Bool.false_ne_true)] at hR;have hri:=ZHe A.in1 ⟨hp,g,d,tk,os⟩ a t c u prog w
      wp_walk using hri
      exact⟨_,rfl,by simpa using hR⟩
  case fin =>
   rintro ⟨b1,b2⟩ s' ⟨hb',rfl,vs,ws,ns',ms',hz,hvi,hwi,hlen,hR⟩
   simp only at hb';subst hb';have hv:lexGe ns' ms'=decide (items.size ≥ items2.size):=by
    cases hvi with
    |nil =>
     cases hwi with
     |nil =>
      simp only[length_nil] at hlen;rw[ZDH];exact(decide_eq_true (by omega)).symm
     |cons c u hw =>
      simp only[length_nil,length_cons] at hlen;rw[ZCV];exact(decide_eq_false (by omega)).symm
    |cons a t hv =>
     cases hwi with
     |nil =>
      simp only[length_nil,length_cons] at hlen;rw[ZCl];exact(decide_eq_true (by omega)).symm
     |cons c u hw =>
      rw[zip_cons_cons] at hz;cases hz
   rw[hv] at hR
   wp_walk
   exact⟨_,rfl,by simpa [Builtin.Tuple.tupleCompareSizes] using hR⟩
  case h =>
   exact⟨rfl,rfl,items.toList,items2.toList,ns,ms,rfl,hi,hj,by omega,h⟩
end
section
variable{prog:Program}{w:World}{A:Around}{E:Value->Shared->Prop}{s:Shared}
theorem ge_tupInts{l b:Addr}{items items2:Array Value}{ns ms:List Int}{Q:Value->Shared->Prop}(hl:IsTup s.heap l items)(hb:IsTup s.heap b items2)(hi:IntsAre items.toList ns)(hj:IntsAre items2.toList ms)
  (hu:A.units<cLine)(h:Q (.bool (lexGe ns ms)) s):wpAny (model prog w) A (compareOp .GtE (.ref l) (.ref b)) Q E s:=by
 obtain⟨⟨cls,dd,data,sl⟩,ho,hc,n,hd⟩:=id hl;obtain⟨⟨cls2,dd2,data2,sl2⟩,ho2,hc2,n2,hd2⟩:=id hb;simp only at hc hd hc2 hd2;subst hc hd hc2 hd2;exact richCompare_meets_room (op:=.GtE) ⟨_,ho,rfl⟩ ⟨_,ho2,rfl⟩ PySem.F.slot_tuple_ge PySem.F.entry_tuple_ge (PySem.F.args_tuple_ge_2 _ _) (ZDM l b items items2 n n2 dd dd2 sl sl2 ns ms hi hj)
  ⟨ho,ho2,show Value.bool (lexGe ns ms)≠Value.notImplemented/\Q (.bool (lexGe ns ms)) s from ⟨(λx=>nomatch x),h⟩⟩ hu
end
end HT
namespace L2
open PySem PySem.Spec PyProof.Rows
section
variable{X:Cx}{a b:Expr}{ta tb:TE}{pos:Pos}
def rGeT(K:PySem.W.Frag):R2:=λx y H Q=>∃a b ns ms,x=.ref a/\y=.ref b/\SqT K H a (ns.map V.int)/\SqT K H b (ms.map V.int)/\Q (.bl (HT.lexGe ns ms)) H
theorem ZL2(hu:X.A.units<cLine):OpR X (compareOp .GtE) (rGeT X.K):=by
 intro pins s σ H x y v u Q I rx ry h;obtain⟨a,b,ns,ms,rfl,rfl,ha,hb,q⟩:=h;cases rx;cases ry;obtain⟨its,r1,p1,_⟩:=I.tuple ha;obtain⟨its2,r2,p2,_⟩:=I.tuple hb;have i1:IntsAre its.toArray.toList ns:=Z0 r1;have i2:IntsAre its2.toArray.toList ms:=Z0 r2;exact HT.ge_tupInts p1 p2 i1 i2 hu ⟨.bl (HT.lexGe ns ms),H,I,rfl,q⟩
end
end L2
namespace L2
open PySem PySem.Spec PyProof.Rows H1
section
variable{prog:Program}{w:World}{A:Around}{E:Value->Shared->Prop}{s:Shared}
theorem ZEz{d:Addr}{kvs:List (Key×Value)}{ep:Nat}{ns:List Int}{Q:Value->Shared->Prop}(hh:A.handled=none)(lo:(d == sysModules)=false)(hm:s.heap.DictAt (ZAW prog w) d kvs ep)(hk:kvs.map (·.1)=ns.map Sum.inl)(h64:kvs.length<64)
  (h:∀(h1 h':Heap) (tk e:Nat) (out:Array Value) (ns':List Int),(∀b o,s.heap.get? b=some o->h1.get? b=some o)->(∀b o,h1.get? b=some o->h'.get? b=some o)->h'.get? h1.objs.size=some (seqObj "list" out e)->IntsAre out.toList ns'->ns'.Perm ns->ns'.Pairwise (· <= ·)->Q (.ref h1.objs.size) { s with heap:=h',toks:=tk }) :
  wpAny (model prog w) A (call (.builtin "sorted") [.ref d]) Q E s:=by
 have hkl:ns.length=kvs.length:=by have:=congrArg List.length hk;simpa using this.symm
 have hz:kvs.length<=sizeLine:=by rw[sizeLine_eq];omega
 refine Calls.call_function_entry kind_sorted plain_sorted entry_sorted (args_sorted1 _) ?_;unfold Builtin.«sorted»;refine wpAny_bind (m:=checkCount "sorted" 1 1 _) (wpAny_pure ?_);refine wpAny_bind (PySem.W.kdu_collect (A:=A.in1) (PySem.W.kdl_dict (knd:=ZAW prog w) (kvs:=kvs) (ep:=ep) lo) hh hm hz λh' tk acc kp hacc=>?_);have hl:acc.toList.length=kvs.length:=by rw[Array.length_toList];exact hacc.1
 have hI:IntsAre acc.toList ns:=by
  have:∀(vs:List Value) (ms:List Int),vs.length=ms.length->(∀(j:Nat) (v:Value),vs[j]? = some v->∃m t,ms[j]? = some m/\v=Value.int m t)->IntsAre vs ms:=by
   intro vs
   induction vs with
   |nil=>intro ms e _;cases ms with
    |nil=>exact .nil
    |cons _ _=>cases e
   |cons v vs ih=>intro ms e q;cases ms with
    |nil=>cases e
    |cons m ms =>
     obtain⟨m',t,e1,rfl⟩:=q 0 v rfl;cases e1;exact .cons _ _ (ih ms (by simpa using e) λj u hu=>by simpa using q (j+1) u (by simpa using hu))
  refine this _ _ (by omega) λj v hv=>?_
  obtain⟨k,x,e1,e2⟩:=hacc.2 j v (by rw[←Array.getElem?_toList];exact hv);have e3:(ns.map Sum.inl)[j]? = some k:=by rw[←hk,getElem?_map,e1];rfl
  rw[getElem?_map] at e3;cases q:ns[j]? with
  |none=>rw[q] at e3;cases e3
  |some m =>
   rw[q] at e3;cases e3;rcases ZP (k:=Sum.inl m) (v:=v) e2 with ⟨i,t,h1,h2⟩|⟨x,t,h1,h2⟩
   ·cases h1;exact⟨_,t,rfl,h2⟩
   ·cases h1
 refine wpAny_bind (wpAny_newList ?_ (by rw[hl];exact hz));have hoL:(h'.push (seqObj "list" acc.toList.toArray 0)).get? h'.objs.size=some (seqObj "list" acc.toList.toArray 0):=get?_push_size _ rfl;refine wpAny_bind (wpAny_holding (wpAny_call_entry slot_list_sort ⟨_,hoL,rfl⟩ entry_list_sort (list_sort_tree hoL hI (by omega) λout ns' a1 a2 a3=>⟨_,rfl,?_⟩) (args_list_sort _)));obtain⟨e,he⟩:=sortedHeap_at (out:=out) hoL;refine wpAny_pure ⟨_,rfl,h h' _ _ e out ns' kp (λb o q=>?_) he a1 a2 a3⟩;have hb:=lt_size q;rw[sortedHeap_old (ne_of_lt hb) (by rw[size_push'];exact Nat.lt_succ_of_lt hb)];exact get?_push_of_some _ q
end
section
variable{κ : Type}[DecidableEq κ]
def ZAk{α : Type}(kvs:List (κ×α))(k : κ)(v : α):List (κ×α):=if kvs.any (λkv=>decide (kv.1=k))=true then kvs.map (λkv=>if kv.1=k then (kv.1,v) else kv) else kvs++[(k,v)]
def ZLX{α : Type}(kvs more:List (κ×α)):List (κ×α):=more.foldl (λacc kv=>ZAk acc kv.1 kv.2) kvs
theorem KV.keys{kvs:List (κ×V)}{vs:List (κ×Value)}(r:KV kvs vs):kvs.map (·.1)=vs.map (·.1):=by
 unfold KV at r
 induction r with
 |nil=>rfl
 |cons h t ih=>rw[map_cons,map_cons,ih,h.1]
theorem KV.repl{kvs:List (κ×V)}{vs:List (κ×Value)}(r:KV kvs vs)(k : κ){y:V}{u:Value}(ry:ZS y u) :
  KV (kvs.map λkv=>if kv.1=k then (kv.1,y) else kv) (vs.map λkv=>if kv.1=k then (kv.1,u) else kv):=by
 unfold KV at r ⊢
 induction r with
 |nil=>exact .nil
 |@cons p q ps qs h t ih =>
  rw[map_cons,map_cons];refine .cons ?_ ih;obtain⟨h1,h2⟩:=h
  by_cases e:p.1=k
  ·rw[if_pos e,if_pos (h1.symm.trans e)];exact⟨h1,ry⟩
  ·rw[if_neg e,if_neg (λz=>e (h1.trans z))];exact⟨h1,h2⟩
theorem KV.put{kvs:List (κ×V)}{vs:List (κ×Value)}(r:KV kvs vs)(k : κ){y:V}{u:Value}(ry:ZS y u):KV (ZAk kvs k y) (stored vs k u):=by
 have ha:(kvs.any λkv=>decide (kv.1=k))=vs.any λkv=>decide (kv.1=k):=by
  unfold KV at r
  induction r with
  |nil=>rfl
  |cons h t ih=>rw[any_cons,any_cons,ih,h.1]
 unfold ZAk stored;rw[ha]
 split
 ·exact r.repl k ry
 ·exact Paired.snoc r ⟨rfl,ry⟩
end
section
variable{X:Cx}
theorem Inv.big{pins:List (Addr×Obj)}{σ : St}{H:Hp}{s:Shared}(I:Inv X pins σ H s):sysModules<s.heap.objs.size:=by
 have h:mainGlobals<s.heap.objs.size:=(I.mod.glob.keeps I.bk).lt;exact lt_trans (by decide) h
theorem ZD5(hc:X.calm=true):ZJ X (.builtin "sorted") (λxs H Q=>∃(p:Addr) (kvs:List (Key×V)) (ns:List Int),xs=[.ref p]/\H p=some (.dK kvs)/\kvs.map (·.1)=ns.map Sum.inl/\ns.length<64/\∀l (ms:List Int),H l=none->ms.Perm ns->ms.Pairwise (· <= ·)->Q (.ref l) (upd H l (.lst (ms.map V.int)))):=by
 intro pins s σ H xs us Q I r h;obtain⟨p,kvs,ns,rfl,hp,hk,hn,q⟩:=h;obtain⟨u,rfl,ru⟩:=ZAp r;cases ru;obtain⟨hz,lo,vs,rk,hd⟩:=I.hok p _ hp;obtain⟨ep,hat⟩:=hd.dictAt;have hvl:vs.length=ns.length:=by
  have:=congrArg List.length hk;rw[length_map,length_map,Paired.length rk] at this
  exact this
 refine ZEz (I.ok.hd hc) lo hat (ns:=ns) (by rw[←rk.keys];exact hk) (by omega) λh1 h' tk e out ns' kp kp2 he ia pm pw=>?_
 have rv':ZI (ns'.map V.int) out.toList:=by
  clear pm pw he
  generalize out.toList=l at ia
  induction ia with
  |nil=>exact .nil
  |cons a t h ih=>exact .cons ⟨t,rfl⟩ ih
 have I1:Inv X pins σ H { s with heap:=h1,toks:=tk }:=I.kept (t':=tk) kp;refine⟨.ref h1.objs.size,_,I1.laid (t':=tk) kp2 (le_refl _) (o:=.lst (ns'.map V.int)) ⟨?_,out.toList,e,rv',by simpa using he⟩,rfl,q _ ns' (I1.hok.fresh (le_refl _)) pm pw⟩;rw[length_map,pm.length_eq];exact le_of_lt (Zc (by omega))
end
theorem kV_is{P:Program}{w:World}{k:Key}{u:Value}(r:ZS (kV k) u):(ZAW P w).is k u=true:=by
 cases k with
 |inl i=>obtain⟨t,rfl⟩:=r;exact ZEV P w i t
 |inr x=>obtain⟨t,rfl⟩:=r;exact ZEg P w x t
theorem ZG0{α : Type}{kvs:List (Key×α)}{k:Key}{x : α}:(ZAk kvs k x).length<=kvs.length+1:=by
 unfold ZAk
 split
 ·rw[length_map];omega
 ·rw[length_append];exact le_refl _
section
variable{X:Cx}
theorem ZKX:ZKS X (λo i v H Q=>∃(p:Addr) (kvs:List (Key×V)) (k:Key),o=.ref p/\i=kV k/\H p=some (.dK kvs)/\kvs.length<1000/\Q (upd H p (.dK (ZAk kvs k v)))):=by
 intro pins s σ H o i v ov iv u Q I ro ri rv h;obtain⟨p,kvs,k,rfl,rfl,hp,hl,q⟩:=h;cases ro;obtain⟨hz,lo,vs,rk,hd⟩:=I.hok p _ hp;have hv:vs.length=kvs.length:=by
  have:=congrArg List.length rk.keys;rw[length_map,length_map] at this
  exact this.symm
 refine wpAny_setItem_pairs (knd:=ZAW X.prog X.w) (hsz:=by rw[hv];exact hz) (kV_is ri) hd λh' dd hs=>⟨_,?_,q⟩
 have he:∃q,h'.get? p=some q:=let ⟨q,_,_,hq,_⟩:=dd;⟨q,hq⟩
 refine I.write (x:=p) (e:=p) (by rw[hp];trivial) (.inl rfl) (λb q hb z=>(hs.2 b hb).trans z) he ⟨?_,lo,_,rk.put k rv,dd⟩;have:=ZG0 (kvs:=kvs) (k:=k) (x:=v);rw[sizeLine_eq];omega
theorem ZIt{pos:Pos}:PE X (.Dict [] [] pos) (λ_ H Q=>∀p,H p=none->Q (.ref p) (upd H p (.dK []))):=λpins s σ H Q I h =>
 wpAny_Dict_empty ⟨.ref s.heap.objs.size,_,I.laid (a:=s.heap.objs.size) (o:=.dK []) (t':=s.toks) (λ_ _ q=>get?_push_of_some _ q) (le_refl _) ⟨zero_le _,beq_eq_false_iff_ne.mpr (Ne.symm (ne_of_lt I.big)),[],.nil,Heap.DictOf.new s.heap⟩,rfl,h _ (I.hok.fresh (le_refl _))⟩
end
def XO(x C:Addr)(od:Option Addr)(tb:Value):HO:=.ext λh=>∃o us,h.get? x=some o/\o.cls=.ref C/\o.dict=od/\o.data=.fields us/\us[1]? = some tb
inductive W where
 |dat (d:PyData)
 |ref (n:Nat)
 |inp (ns:List Int)
 |ty (n:String)
 |tup (ws:List W)
 |exc (nm:Str) (t:Option Int)
structure CD where
 nm:Str
 fs:List Str
inductive Cell where
 |pl (ds:List PyData)
 |rl (ws:List W)
 |ob (c:CD) (ws:List W)
 |dk (kvs:List (Key×W))
abbrev G:=List Cell
structure Rh where
 c:List Addr
 h:List Addr
def Rh.mem(ρ : Rh)(a:Addr):Prop:=a∈ρ.c∨a∈ρ.h
abbrev Sd:=List (Option W)
def KL(K:PySem.W.Frag)(a:Addr)(xs:List V):Prop:=∃(o:Obj) (its:Array Value) (n:Nat),K.lookup a=some o/\o.cls=.type "list"/\o.dict=none/\o.data=.seq its n/\its.size<=sizeLine/\ZI xs its.toList
def KT(K:PySem.W.Frag)(a:Addr)(xs:List V):Prop:=∃(o:Obj) (its:Array Value) (n:Nat),K.lookup a=some o/\o.cls=.type "tuple"/\o.data=.seq its n/\its.size<=sizeLine/\ZI xs its.toList
def FzL(K:PySem.W.Frag)(ρ : Rh)(H:Hp)(a:Addr)(xs:List V):Prop:=(Rd H a (.lst xs)/\¬ρ.mem a)∨KL K a xs
def FzT(K:PySem.W.Frag)(ρ : Rh)(H:Hp)(a:Addr)(xs:List V):Prop:=(Rd H a (.tup xs)/\¬ρ.mem a)∨KT K a xs
theorem FzL.sq{K:PySem.W.Frag}{ρ : Rh}{H:Hp}{a:Addr}{xs:List V}(h:FzL K ρ H a xs):SqL K H a xs:=h.elim (λz=>.inl z.1) .inr
theorem FzT.sq{K:PySem.W.Frag}{ρ : Rh}{H:Hp}{a:Addr}{xs:List V}(h:FzT K ρ H a xs):SqT K H a xs:=h.elim (λz=>.inl z.1) .inr
mutual
inductive RelD (K:PySem.W.Frag) (ρ : Rh) (H:Hp):V->PyData->Prop
 |non:RelD K ρ H .non .none
 |bl (b:Bool):RelD K ρ H (.bl b) (.bool b)
 |int (i:Int):RelD K ρ H (.int i) (.int i)
 |str (x:Str):RelD K ρ H (.str x) (.str x)
 |tup {a:Addr} {xs:List V} {ds:List PyData}:FzT K ρ H a xs->RelDL K ρ H xs ds->RelD K ρ H (.ref a) (.tuple ds)
 |lst {a:Addr} {xs:List V} {ds:List PyData}:H a=some (.lst xs)->¬ρ.mem a->RelDL K ρ H xs ds->RelD K ρ H (.ref a) (.list ds)
 |dct {a:Addr}:H a=some (ZHH a)->¬ρ.mem a->RelD K ρ H (.ref a) (.dict [])
inductive RelDL (K:PySem.W.Frag) (ρ : Rh) (H:Hp):List V->List PyData->Prop
 |nil:RelDL K ρ H [] []
 |cons {x:V} {d:PyData} {xs:List V} {ds:List PyData}:RelD K ρ H x d->RelDL K ρ H xs ds->RelDL K ρ H (x::xs) (d::ds)
end
def ZBw(K:PySem.W.Frag)(ρ : Rh)(H:Hp)(x:Addr)(nm:Str)(t:Option Int):Prop:=∃C od y,PySem.W.nsIn K mainGlobals nm=some (some (.ref C))/\(H x=some (XO x C od (.ref y))/\¬ρ.mem x) /\
 ∀n,t=some n->∃dx,od=some dx/\H dx=some (.xd [("turn",.int n)])/\¬ρ.mem dx
mutual
inductive Rel (K:PySem.W.Frag) (ρ : Rh) (H:Hp):V->W->Prop
 |dat {v:V} {d:PyData}:RelD K ρ H v d->Rel K ρ H v (.dat d)
 |ref {a:Addr} {n:Nat} : ρ.c[n]? = some a->Rel K ρ H (.ref a) (.ref n)
 |inp {a:Addr} {ns:List Int}:FzL K ρ H a (ns.map V.int)->Rel K ρ H (.ref a) (.inp ns)
 |ty {n:String}:Rel K ρ H (.ty n) (.ty n)
 |exc {x:Addr} {nm:Str} {t:Option Int}:ZBw K ρ H x nm t->Rel K ρ H (.ref x) (.exc nm t)
 |tup {a:Addr} {xs:List V} {ws:List W}:FzT K ρ H a xs->RelL K ρ H xs ws->Rel K ρ H (.ref a) (.tup ws)
inductive RelL (K:PySem.W.Frag) (ρ : Rh) (H:Hp):List V->List W->Prop
 |nil:RelL K ρ H [] []
 |cons {v:V} {x:W} {vs:List V} {xs:List W}:Rel K ρ H v x->RelL K ρ H vs xs->RelL K ρ H (v::vs) (x::xs)
end
inductive RelF (K:PySem.W.Frag) (ρ : Rh) (H:Hp):List Str->List (Str×V)->List W->Prop
 |nil {ns:List Str}:RelF K ρ H ns [] []
 |cons {f:Str} {ns:List Str} {v:V} {x:W} {vs:List (Str×V)} {xs:List W}:Rel K ρ H v x->RelF K ρ H ns vs xs->RelF K ρ H (f::ns) ((f,v)::vs) (x::xs)
inductive RelK (K:PySem.W.Frag) (ρ : Rh) (H:Hp):List (Key×V)->List (Key×W)->Prop
 |nil:RelK K ρ H [] []
 |cons {k:Key} {v:V} {x:W} {vs:List (Key×V)} {xs:List (Key×W)}:Rel K ρ H v x->RelK K ρ H vs xs->RelK K ρ H ((k,v)::vs) ((k,x)::xs)
def Zw(K:PySem.W.Frag)(ρ : Rh)(H:Hp)(a:Addr):Cell->Prop
 |.pl ds=>∃vs,H a=some (.lst vs)/\RelDL K ρ H vs ds
 |.rl ws=>∃vs,H a=some (.lst vs)/\RelL K ρ H vs ws
 |.ob c fs=>∃C dx vs,PySem.W.nsIn K mainGlobals c.nm=some (some (.ref C))/\H a=some (.ins C dx vs)/\RelF K ρ H c.fs vs fs
 |.dk ws=>∃vs,H a=some (.dK vs)/\RelK K ρ H vs ws
def kdO:HO->Nat
 |.lst _=>0
 |.ins _ _ _=>1
 |_=>2
structure Stp (ρ : Rh) (H:Hp) (ρ':Rh) (H':Hp):Prop where
 pre:∃r,ρ'.c = ρ.c++r
 hid : ρ'.h = ρ.h
 frm:∀a o,H a=some o->a∉ρ.c->H' a=some o
 fre:∀a∈ρ'.c,a∈ρ.c∨H a=none
 kd:∀a o,H a=some o->∃o',H' a=some o'/\kdO o'=kdO o
section
variable{K:PySem.W.Frag}{ρ ρ' ρ2:Rh}{H H' H2:Hp}
theorem Stp.refl:Stp ρ H ρ H:=⟨⟨[],(append_nil _).symm⟩,rfl,λ_ _ h _=>h,λ_ h=>.inl h,λa o h=>⟨o,h,rfl⟩⟩
theorem Stp.ninc{a:Addr}{o:HO}(s:Stp ρ H ρ' H')(h:H a=some o)(n:a∉ρ.c):a∉ρ'.c:=λz=>(s.fre a z).elim n λe=>by rw[h] at e;cases e
theorem Stp.nin{a:Addr}{o:HO}(s:Stp ρ H ρ' H')(h:H a=some o)(n : ¬ρ.mem a) : ¬ρ'.mem a:=λz=>z.elim (s.ninc h λq=>n (.inl q)) λz=>n (.inr (by rw[←s.hid];exact z))
theorem Stp.trans(s:Stp ρ H ρ' H')(t:Stp ρ' H' ρ2 H2):Stp ρ H ρ2 H2:=by
 refine⟨?_,t.hid.trans s.hid,λa o h n=>t.frm a o (s.frm a o h n) (s.ninc h n),λa h=>?_,λa o h=>?_⟩
 ·obtain⟨r,e⟩:=s.pre
  obtain⟨q,e'⟩:=t.pre;exact⟨r++q,by rw[e',e,append_assoc]⟩
 ·rcases t.fre a h with z|z
  ·exact s.fre a z
  ·by_cases n:a∈ρ.c
   ·exact .inl n
   ·cases e:H a with
    |none=>exact .inr rfl
    |some o=>rw[s.frm a o e n] at z;cases z
 ·obtain⟨o1,h1,k1⟩:=s.kd a o h
  obtain⟨o2,h2,k2⟩:=t.kd a o1 h1;exact⟨o2,h2,k2.trans k1⟩
theorem Stp.same(s:Same H H'):Stp ρ H ρ H':=⟨⟨[],(append_nil _).symm⟩,rfl,λa o h _=>s a o h,λ_ h=>.inl h,λa o h=>⟨o,s a o h,rfl⟩⟩
theorem Rd.stp{a:Addr}{u:HO}(s:Stp ρ H ρ' H')(h:Rd H a u)(n : ¬ρ.mem a):Rd H' a u/\¬ρ'.mem a:=by
 rcases h with h|⟨o,h⟩
 ·exact⟨.inl (s.frm _ _ h λz=>n (.inl z)),s.nin h n⟩
 ·exact⟨.inr ⟨o,s.frm _ _ h λz=>n (.inl z)⟩,s.nin h n⟩
theorem FzL.mono{a:Addr}{xs:List V}(s:Stp ρ H ρ' H')(h:FzL K ρ H a xs):FzL K ρ' H' a xs:=h.elim (λz=>.inl (Rd.stp s z.1 z.2)) .inr
theorem FzT.mono{a:Addr}{xs:List V}(s:Stp ρ H ρ' H')(h:FzT K ρ H a xs):FzT K ρ' H' a xs:=h.elim (λz=>.inl (Rd.stp s z.1 z.2)) .inr
mutual
theorem RelD.mono(s:Stp ρ H ρ' H'):∀{v:V} {d:PyData},RelD K ρ H v d->RelD K ρ' H' v d
 |_,_,.non=>.non
 |_,_,.bl b=>.bl b
 |_,_,.int i=>.int i
 |_,_,.str x=>.str x
 |_,_,.tup h hl=>.tup (h.mono s) (RelDL.mono s hl)
 |_,_,.lst h n hl=>.lst (s.frm _ _ h λz=>n (.inl z)) (s.nin h n) (RelDL.mono s hl)
 |_,_,.dct h n=>.dct (s.frm _ _ h λz=>n (.inl z)) (s.nin h n)
theorem RelDL.mono(s:Stp ρ H ρ' H'):∀{vs:List V} {ds:List PyData},RelDL K ρ H vs ds->RelDL K ρ' H' vs ds
 |_,_,.nil=>.nil
 |_,_,.cons h hl=>.cons (RelD.mono s h) (RelDL.mono s hl)
end
theorem ZBw.mono{x:Addr}{nm:Str}{t:Option Int}(s:Stp ρ H ρ' H')(h:ZBw K ρ H x nm t):ZBw K ρ' H' x nm t:=by
 obtain⟨C,od,y,e,⟨hx,nx⟩,ha⟩:=h;refine⟨C,od,y,e,⟨s.frm _ _ hx λz=>nx (.inl z),s.nin hx nx⟩,λn q=>?_⟩;obtain⟨dx,e1,e2,e3⟩:=ha n q;exact⟨dx,e1,s.frm _ _ e2 λz=>e3 (.inl z),s.nin e2 e3⟩
theorem ZBw.less{x:Addr}{nm:Str}{t:Option Int}(s:∀a,ρ'.mem a->ρ.mem a)(h:ZBw K ρ H x nm t):ZBw K ρ' H x nm t:=by
 obtain⟨C,od,y,e,⟨hx,nx⟩,ha⟩:=h;refine⟨C,od,y,e,⟨hx,λz=>nx (s _ z)⟩,λn q=>?_⟩;obtain⟨dx,e1,e2,e3⟩:=ha n q;exact⟨dx,e1,e2,λz=>e3 (s _ z)⟩
theorem ZCU(s:Stp ρ H ρ' H'){a:Addr}{n:Nat}(h : ρ.c[n]? = some a) : ρ'.c[n]? = some a:=by
 obtain⟨r,e⟩:=s.pre;rw[e,getElem?_append_left (List.getElem?_eq_some_iff.mp h).1];exact h
mutual
theorem Rel.mono(s:Stp ρ H ρ' H'):∀{v:V} {x:W},Rel K ρ H v x->Rel K ρ' H' v x
 |_,_,.dat h=>.dat (h.mono s)
 |_,_,.ref h=>.ref (ZCU s h)
 |_,_,.inp h=>.inp (h.mono s)
 |_,_,.ty=>.ty
 |_,_,.exc h=>.exc (h.mono s)
 |_,_,.tup h t=>.tup (h.mono s) (RelL.mono s t)
theorem RelL.mono(s:Stp ρ H ρ' H'):∀{vs:List V} {xs:List W},RelL K ρ H vs xs->RelL K ρ' H' vs xs
 |_,_,.nil=>.nil
 |_,_,.cons h t=>.cons (Rel.mono s h) (RelL.mono s t)
end
theorem RelF.mono(s:Stp ρ H ρ' H'):∀{ns:List Str} {vs:List (Str×V)} {xs:List W},RelF K ρ H ns vs xs->RelF K ρ' H' ns vs xs
 |_,_,_,.nil=>.nil
 |_,_,_,.cons h t=>.cons (h.mono s) (t.mono s)
theorem RelK.mono(s:Stp ρ H ρ' H'):∀{vs:List (Key×V)} {xs:List (Key×W)},RelK K ρ H vs xs->RelK K ρ' H' vs xs
 |_,_,.nil=>.nil
 |_,_,.cons h t=>.cons (h.mono s) (t.mono s)
theorem FzL.less{a:Addr}{xs:List V}(s:∀a,ρ'.mem a->ρ.mem a)(h:FzL K ρ H a xs):FzL K ρ' H a xs:=h.elim (λz=>.inl ⟨z.1,λq=>z.2 (s _ q)⟩) .inr
theorem FzT.less{a:Addr}{xs:List V}(s:∀a,ρ'.mem a->ρ.mem a)(h:FzT K ρ H a xs):FzT K ρ' H a xs:=h.elim (λz=>.inl ⟨z.1,λq=>z.2 (s _ q)⟩) .inr
mutual
theorem RelD.less(s:∀a,ρ'.mem a->ρ.mem a):∀{v:V} {d:PyData},RelD K ρ H v d->RelD K ρ' H v d
 |_,_,.non=>.non
 |_,_,.bl b=>.bl b
 |_,_,.int i=>.int i
 |_,_,.str x=>.str x
 |_,_,.tup h hl=>.tup (h.less s) (RelDL.less s hl)
 |_,_,.lst h n hl=>.lst h (λz=>n (s _ z)) (RelDL.less s hl)
 |_,_,.dct h n=>.dct h λz=>n (s _ z)
theorem RelDL.less(s:∀a,ρ'.mem a->ρ.mem a):∀{vs:List V} {ds:List PyData},RelDL K ρ H vs ds->RelDL K ρ' H vs ds
 |_,_,.nil=>.nil
 |_,_,.cons h hl=>.cons (RelD.less s h) (RelDL.less s hl)
end
mutual
theorem Rel.less(hc : ρ'.c = ρ.c)(s:∀a,ρ'.mem a->ρ.mem a):∀{v:V} {x:W},Rel K ρ H v x->Rel K ρ' H v x
 |_,_,.dat h=>.dat (h.less s)
 |_,_,.ref h=>.ref (by rw[hc];exact h)
 |_,_,.inp h=>.inp (h.less s)
 |_,_,.ty=>.ty
 |_,_,.exc h=>.exc (h.less s)
 |_,_,.tup h t=>.tup (h.less s) (RelL.less hc s t)
theorem RelL.less(hc : ρ'.c = ρ.c)(s:∀a,ρ'.mem a->ρ.mem a):∀{vs:List V} {xs:List W},RelL K ρ H vs xs->RelL K ρ' H vs xs
 |_,_,.nil=>.nil
 |_,_,.cons h t=>.cons (Rel.less hc s h) (RelL.less hc s t)
end
theorem RelF.less(hc : ρ'.c = ρ.c)(s:∀a,ρ'.mem a->ρ.mem a):∀{ns:List Str} {vs:List (Str×V)} {xs:List W},RelF K ρ H ns vs xs->RelF K ρ' H ns vs xs
 |_,_,_,.nil=>.nil
 |_,_,_,.cons h t=>.cons (h.less hc s) (t.less hc s)
theorem RelK.less(hc : ρ'.c = ρ.c)(s:∀a,ρ'.mem a->ρ.mem a):∀{vs:List (Key×V)} {xs:List (Key×W)},RelK K ρ H vs xs->RelK K ρ' H vs xs
 |_,_,.nil=>.nil
 |_,_,.cons h t=>.cons (h.less hc s) (t.less hc s)
theorem RelDL.length:∀{vs:List V} {ds:List PyData},RelDL K ρ H vs ds->vs.length=ds.length
 |_,_,.nil=>rfl
 |_,_,.cons _ h=>by rw[length_cons,length_cons,h.length]
theorem RelDL.getD:∀{vs:List V} {ds:List PyData} {i:Nat} {d:PyData},RelDL K ρ H vs ds->ds[i]? = some d->∃v,vs[i]? = some v/\RelD K ρ H v d
 |_,_,_,_,.nil,h=>by simp at h
 |_,_,0,_,.cons t _,h=>by cases h;exact⟨_,rfl,t⟩
 |_,_,i+1,_,.cons _ t,h=>t.getD (i:=i) (by simpa using h)
theorem RelDL.append:∀{vs us:List V} {ds es:List PyData},RelDL K ρ H vs ds->RelDL K ρ H us es->RelDL K ρ H (vs++us) (ds++es)
 |_,_,_,_,.nil,h=>h
 |_,_,_,_,.cons t r,h=>.cons t (r.append h)
theorem RelDL.set{v:V}{d:PyData}(t:RelD K ρ H v d):∀{vs:List V} {ds:List PyData} (i:Nat),RelDL K ρ H vs ds->RelDL K ρ H (vs.set i v) (ds.set i d)
 |_,_,_,.nil=>.nil
 |_,_,0,.cons _ r=>.cons t r
 |_,_,i+1,.cons u r=>.cons u (RelDL.set t i r)
theorem RelDL.take:∀{vs:List V} {ds:List PyData} (n:Nat),RelDL K ρ H vs ds->RelDL K ρ H (vs.take n) (ds.take n)
 |_,_,0,_=>.nil
 |_,_,_+1,.nil=>.nil
 |_,_,n+1,.cons r t=>.cons r (RelDL.take n t)
theorem RelDL.drop:∀{vs:List V} {ds:List PyData} (n:Nat),RelDL K ρ H vs ds->RelDL K ρ H (vs.drop n) (ds.drop n)
 |_,_,0,r=>r
 |_,_,_+1,.nil=>.nil
 |_,_,n+1,.cons _ t=>RelDL.drop n t
theorem RelDL.rep{vs:List V}{ds:List PyData}(t:RelDL K ρ H vs ds):∀k:Nat,RelDL K ρ H (List.replicate k vs).flatten (List.replicate k ds).flatten
 |0=>.nil
 |k+1=>by rw[replicate_succ,replicate_succ,flatten_cons,flatten_cons];exact t.append (t.rep k)
theorem RelDL.ofInts:∀{ns:List Int},RelDL K ρ H (ns.map V.int) (ns.map .int)
 |[]=>.nil
 |n::ns=>.cons (.int n) RelDL.ofInts
theorem RelL.length:∀{vs:List V} {ws:List W},RelL K ρ H vs ws->vs.length=ws.length
 |_,_,.nil=>rfl
 |_,_,.cons _ h=>by rw[length_cons,length_cons,h.length]
theorem RelL.append:∀{vs us:List V} {ds es:List W},RelL K ρ H vs ds->RelL K ρ H us es->RelL K ρ H (vs++us) (ds++es)
 |_,_,_,_,.nil,h=>h
 |_,_,_,_,.cons t r,h=>.cons t (r.append h)
theorem RelL.set{v:V}{d:W}(t:Rel K ρ H v d):∀{vs:List V} {ds:List W} (i:Nat),RelL K ρ H vs ds->RelL K ρ H (vs.set i v) (ds.set i d)
 |_,_,_,.nil=>.nil
 |_,_,0,.cons _ r=>.cons t r
 |_,_,i+1,.cons u r=>.cons u (RelL.set t i r)
theorem RelL.getD:∀{vs:List V} {ds:List W} {i:Nat} {d:W},RelL K ρ H vs ds->ds[i]? = some d->∃v,vs[i]? = some v/\Rel K ρ H v d
 |_,_,_,_,.nil,h=>by simp at h
 |_,_,0,_,.cons t _,h=>by cases h;exact⟨_,rfl,t⟩
 |_,_,i+1,_,.cons _ t,h=>t.getD (i:=i) (by simpa using h)
theorem Zw.mono(s:Stp ρ H ρ' H'){a:Addr}{c:Cell}(e:H' a=H a)(h:Zw K ρ H a c):Zw K ρ' H' a c:=by
 cases c with
 |pl ds=>obtain⟨vs,h1,h2⟩:=h;exact⟨vs,by rw[e];exact h1,h2.mono s⟩
 |rl ws=>obtain⟨vs,h1,h2⟩:=h;exact⟨vs,by rw[e];exact h1,h2.mono s⟩
 |dk ws=>obtain⟨vs,h1,h2⟩:=h;exact⟨vs,by rw[e];exact h1,h2.mono s⟩
 |ob c fs=>obtain⟨C,dx,vs,h0,h1,h2⟩:=h;exact⟨C,dx,vs,h0,by rw[e];exact h1,h2.mono s⟩
theorem Zw.less(hc : ρ'.c = ρ.c)(s:∀a,ρ'.mem a->ρ.mem a){a:Addr}{c:Cell}(h:Zw K ρ H a c):Zw K ρ' H a c:=by
 cases c with
 |pl ds=>obtain⟨vs,h1,h2⟩:=h;exact⟨vs,h1,h2.less s⟩
 |rl ws=>obtain⟨vs,h1,h2⟩:=h;exact⟨vs,h1,h2.less hc s⟩
 |dk ws=>obtain⟨vs,h1,h2⟩:=h;exact⟨vs,h1,h2.less hc s⟩
 |ob c fs=>obtain⟨C,dx,vs,h0,h1,h2⟩:=h;exact⟨C,dx,vs,h0,h1,h2.less hc s⟩
theorem Zw.has{a:Addr}{c:Cell}(h:Zw K ρ H a c):∃o,H a=some o:=by
 cases c with
 |pl ds=>obtain⟨vs,h1,h2⟩:=h;exact⟨_,h1⟩
 |rl ws=>obtain⟨vs,h1,h2⟩:=h;exact⟨_,h1⟩
 |dk ws=>obtain⟨vs,h1,h2⟩:=h;exact⟨_,h1⟩
 |ob c fs=>obtain⟨C,dx,vs,h0,h1,h2⟩:=h;exact⟨_,h1⟩
structure HR (K:PySem.W.Frag) (ρ : Rh) (H:Hp) (g:G):Prop where
 len : ρ.c.length=g.length
 nd : ρ.c.Nodup
 ce:∀(n:Nat) (c:Cell),g[n]? = some c->∃a,ρ.c[n]? = some a/\Zw K ρ H a c
 hid:∀a∈ρ.h,a∉ρ.c/\∃o,H a=some o
theorem HR.at_{g:G}(h:HR K ρ H g):∀(n:Nat) (ds:List PyData),g[n]? = some (.pl ds)->∃a vs,ρ.c[n]? = some a/\H a=some (.lst vs)/\RelDL K ρ H vs ds:=λn ds e=>by
 obtain⟨a,h1,vs,h2,h3⟩:=h.ce n _ e;exact⟨a,vs,h1,h2,h3⟩
theorem HR.has{g:G}(h:HR K ρ H g){a:Addr}(ha:a∈ρ.c):∃o,H a=some o:=by
 obtain⟨n,hn⟩:=List.mem_iff_getElem?.mp ha;have hl:=(List.getElem?_eq_some_iff.mp hn).1;rw[h.len] at hl;obtain⟨a',e,hv⟩:=h.ce n _ (getElem?_eq_getElem hl);rw[hn] at e;cases e;exact hv.has
theorem HR.nin{g:G}(h:HR K ρ H g){p:Addr}(hp:H p=none) : ¬ρ.mem p:=λz=>by
 rcases z with z|z
 ·obtain⟨vs,e⟩:=h.has z
  rw[hp] at e;cases e
 ·obtain⟨_,o,e⟩:=h.hid _ z
  rw[hp] at e;cases e
theorem HR.same{g:G}(s:Same H H')(h:HR K ρ H g):HR K ρ H' g:=⟨h.len,h.nd,λn ds e=>by
 obtain⟨a,h1,h2⟩:=h.ce n ds e;obtain⟨o,h3⟩:=h2.has;exact⟨a,h1,h2.mono (Stp.same s) (by rw[h3];exact s _ _ h3)⟩,λa z=>by
 obtain⟨h1,o,e⟩:=h.hid a z;exact⟨h1,o,s _ _ e⟩⟩
def Rh.add(ρ : Rh)(p:Addr):Rh:=⟨ρ.c++[p],ρ.h⟩
theorem HR.allocC{g:G}(h:HR K ρ H g){p:Addr}(hp:H p=none){o:HO}{c:Cell}(t:Stp ρ H (ρ.add p) (upd H p o)->Zw K (ρ.add p) (upd H p o) p c):HR K (ρ.add p) (upd H p o) (g++[c])/\Stp ρ H (ρ.add p) (upd H p o):=by
 have s:Stp ρ H (ρ.add p) (upd H p o):=⟨⟨[p],rfl⟩,rfl,λa o e _=>by rw[ZE (ZF e hp)];exact e,λa z=>by
  rcases List.mem_append.mp z with z|z
  ·exact .inl z
  ·rw[List.mem_singleton.mp z];exact .inr hp,λa u e=>⟨u,by rw[ZE (ZF e hp)];exact e,rfl⟩⟩
 refine⟨⟨by show(ρ.c++[p]).length=_;rw[length_append,length_append,h.len];rfl,?_,λn d e=>?_,λa z=>?_⟩,s⟩
 ·show(ρ.c++[p]).Nodup
  rw[List.nodup_append];refine⟨h.nd,by simp,λa ha b hb=>?_⟩;rw[List.mem_singleton.mp hb];intro z;rw[z] at ha;exact h.nin hp (.inl ha)
 ·show ∃a,(ρ.c++[p])[n]? = some a/\_
  by_cases hn:n<g.length
  ·rw[getElem?_append_left hn] at e
   obtain⟨a,h1,h2⟩:=h.ce n d e;obtain⟨u,h3⟩:=h2.has;exact⟨a,by rw[getElem?_append_left (by rw[h.len];exact hn)];exact h1,h2.mono s (ZE (ZF h3 hp))⟩
  ·have hl:n<(g++[c]).length:=(List.getElem?_eq_some_iff.mp e).1
   have hn':n=g.length:=by rw[length_append] at hl;simp at hl;omega
   rw[hn',getElem?_append_right (le_refl _)] at e;simp at e;subst e;refine⟨p,?_,t s⟩;rw[hn',←h.len,getElem?_append_right (le_refl _)];simp
 ·obtain⟨h1,u,e⟩:=h.hid a z
  refine⟨λq=>?_,u,by rw[ZE (ZF e hp)];exact e⟩;rcases List.mem_append.mp q with q|q
  ·exact h1 q
  ·rw[List.mem_singleton.mp q] at e;rw[e] at hp;cases hp
theorem HR.alloc{g:G}(h:HR K ρ H g){p:Addr}(hp:H p=none){vs:List V}{ds:List PyData}(t:RelDL K ρ H vs ds):HR K (ρ.add p) (upd H p (.lst vs)) (g++[.pl ds])/\Stp ρ H (ρ.add p) (upd H p (.lst vs)):=h.allocC hp λs=>⟨vs,ZG,t.mono s⟩
theorem HR.writeC{g:G}(h:HR K ρ H g){n:Nat}{a:Addr}(ha : ρ.c[n]? = some a){o:HO}{c:Cell}(hk:∀u,H a=some u->kdO o=kdO u)(t:Stp ρ H ρ (upd H a o)->Zw K ρ (upd H a o) a c):HR K ρ (upd H a o) (g.set n c)/\Stp ρ H ρ (upd H a o):=by
 have hm:a∈ρ.c:=mem_of_getElem? ha;have s:Stp ρ H ρ (upd H a o):=⟨⟨[],(append_nil _).symm⟩,rfl,λb o e nb=>by rw[ZE (λz=>nb (by rw[z];exact hm))];exact e,λ_ z=>.inl z,λb u e=>by
  by_cases q:b=a
  ·subst q;exact⟨o,ZG,hk u e⟩
  ·exact⟨u,by rw[ZE q];exact e,rfl⟩⟩
 refine⟨⟨by rw[length_set,h.len],h.nd,λm d e=>?_,λb z=>?_⟩,s⟩
 ·by_cases hnm:n=m
  ·subst hnm
   have hl:n<g.length:=by have:=(List.getElem?_eq_some_iff.mp e).1;rw[length_set] at this;exact this
   rw[getElem?_set_self hl] at e;cases e;exact⟨a,ha,t s⟩
  ·rw[getElem?_set_ne hnm] at e
   obtain⟨b,h1,h2⟩:=h.ce m d e;have:b≠a:=λz=>by
    rw[z] at h1;have l1:=(List.getElem?_eq_some_iff.mp h1).1;have e1:=(List.getElem?_eq_some_iff.mp h1).2;have l2:=(List.getElem?_eq_some_iff.mp ha).1;have e2:=(List.getElem?_eq_some_iff.mp ha).2;rcases Nat.lt_or_gt_of_ne hnm with q|q
    ·exact(List.pairwise_iff_getElem.mp h.nd n m l2 l1 q) (by rw[e1,e2])
    ·exact(List.pairwise_iff_getElem.mp h.nd m n l1 l2 q) (by rw[e1,e2])
   exact⟨b,h1,h2.mono s (ZE this)⟩
 ·obtain⟨h1,u,e⟩:=h.hid b z
  exact⟨h1,u,by rw[ZE (λq=>h1 (by rw[q];exact hm))];exact e⟩
theorem HR.write{g:G}(h:HR K ρ H g){n:Nat}{a:Addr}(ha : ρ.c[n]? = some a){us:List V}(hl:H a=some (.lst us)){vs:List V}{ds:List PyData}(t:RelDL K ρ H vs ds):HR K ρ (upd H a (.lst vs)) (g.set n (.pl ds))/\Stp ρ H ρ (upd H a (.lst vs)):=h.writeC ha (λu e=>by rw[hl] at e;cases e;rfl) λs=>⟨vs,ZG,t.mono s⟩
theorem ZAa{g:G}(h:HR K ρ H g){p:Addr}{o:HO}(hp:H p=none):Same H (upd H p o)/\HR K ρ (upd H p o) g/\¬ρ.mem p:=⟨H1.Same.upd hp,h.same (H1.Same.upd hp),h.nin hp⟩
def Rh.hide(ρ : Rh)(p:Addr):Rh:=⟨ρ.c,p::ρ.h⟩
theorem FzL.hide{a p:Addr}{xs:List V}(hp:H p=none)(h:FzL K ρ H a xs):FzL K (ρ.hide p) (upd H p o) a xs:=by
 rcases h with ⟨h,n⟩|h
 ·have hn:a≠p:=by
   rcases h with h|⟨_,h⟩ <;> exact ZF h hp
  refine .inl ⟨?_,λz=>z.elim (λq=>n (.inl q)) λq=>(List.mem_cons.mp q).elim hn λq=>n (.inr q)⟩;unfold Rd;rw[ZE hn];exact h
 ·exact .inr h
theorem FzT.hide{a p:Addr}{xs:List V}(hp:H p=none)(h:FzT K ρ H a xs):FzT K (ρ.hide p) (upd H p o) a xs:=by
 rcases h with ⟨h,n⟩|h
 ·have hn:a≠p:=by
   rcases h with h|⟨_,h⟩ <;> exact ZF h hp
  refine .inl ⟨?_,λz=>z.elim (λq=>n (.inl q)) λq=>(List.mem_cons.mp q).elim hn λq=>n (.inr q)⟩;unfold Rd;rw[ZE hn];exact h
 ·exact .inr h
mutual
theorem RelD.hide{p:Addr}{o:HO}(hp:H p=none):∀{v:V} {d:PyData},RelD K ρ H v d->RelD K (ρ.hide p) (upd H p o) v d
 |_,_,.non=>.non
 |_,_,.bl b=>.bl b
 |_,_,.int i=>.int i
 |_,_,.str x=>.str x
 |_,_,.tup h hl=>.tup (h.hide hp) (RelDL.hide hp hl)
 |_,_,.lst h n hl=>.lst (by rw[ZE (ZF h hp)];exact h) (λz=>z.elim (λq=>n (.inl q)) λq=>(List.mem_cons.mp q).elim (ZF h hp) λq=>n (.inr q)) (RelDL.hide hp hl)
 |_,_,.dct h n=>.dct (by rw[ZE (ZF h hp)];exact h) λz=>z.elim (λq=>n (.inl q)) λq=>(List.mem_cons.mp q).elim (ZF h hp) λq=>n (.inr q)
theorem RelDL.hide{p:Addr}{o:HO}(hp:H p=none):∀{vs:List V} {ds:List PyData},RelDL K ρ H vs ds->RelDL K (ρ.hide p) (upd H p o) vs ds
 |_,_,.nil=>.nil
 |_,_,.cons h hl=>.cons (RelD.hide hp h) (RelDL.hide hp hl)
end
theorem ZBw.hide{p:Addr}{o:HO}{x:Addr}{nm:Str}{t:Option Int}(hp:H p=none)(h:ZBw K ρ H x nm t):ZBw K (ρ.hide p) (upd H p o) x nm t:=by
 obtain⟨C,od,y,e,⟨hx,nx⟩,ha⟩:=h;have nm:∀a u,H a=some u->¬ρ.mem a->¬(ρ.hide p).mem a:=λa u e n z=>z.elim (λq=>n (.inl q)) λq=>(List.mem_cons.mp q).elim (ZF e hp) λq=>n (.inr q)
 refine⟨C,od,y,e,⟨by rw[ZE (ZF hx hp)];exact hx,nm _ _ hx nx⟩,λn q=>?_⟩;obtain⟨dx,e1,e2,e3⟩:=ha n q;exact⟨dx,e1,by rw[ZE (ZF e2 hp)];exact e2,nm _ _ e2 e3⟩
mutual
theorem Rel.hide{p:Addr}{o:HO}(hp:H p=none):∀{v:V} {x:W},Rel K ρ H v x->Rel K (ρ.hide p) (upd H p o) v x
 |_,_,.dat h=>.dat (h.hide hp)
 |_,_,.ref h=>.ref h
 |_,_,.inp h=>.inp (h.hide hp)
 |_,_,.ty=>.ty
 |_,_,.exc h=>.exc (h.hide hp)
 |_,_,.tup h t=>.tup (h.hide hp) (RelL.hide hp t)
theorem RelL.hide{p:Addr}{o:HO}(hp:H p=none):∀{vs:List V} {xs:List W},RelL K ρ H vs xs->RelL K (ρ.hide p) (upd H p o) vs xs
 |_,_,.nil=>.nil
 |_,_,.cons h t=>.cons (Rel.hide hp h) (RelL.hide hp t)
end
theorem RelF.hide{p:Addr}{o:HO}(hp:H p=none):∀{ns:List Str} {vs:List (Str×V)} {xs:List W},RelF K ρ H ns vs xs->RelF K (ρ.hide p) (upd H p o) ns vs xs
 |_,_,_,.nil=>.nil
 |_,_,_,.cons h t=>.cons (h.hide hp) (t.hide hp)
theorem RelK.hide{p:Addr}{o:HO}(hp:H p=none):∀{vs:List (Key×V)} {xs:List (Key×W)},RelK K ρ H vs xs->RelK K (ρ.hide p) (upd H p o) vs xs
 |_,_,.nil=>.nil
 |_,_,.cons h t=>.cons (h.hide hp) (t.hide hp)
theorem Zw.hide{p:Addr}{o:HO}(hp:H p=none){a:Addr}{c:Cell}(h:Zw K ρ H a c):Zw K (ρ.hide p) (upd H p o) a c:=by
 obtain⟨u,hu⟩:=h.has;have e:upd H p o a=H a:=ZE (ZF hu hp);cases c with
 |pl ds=>obtain⟨vs,h1,h2⟩:=h;exact⟨vs,by rw[e];exact h1,h2.hide hp⟩
 |rl ws=>obtain⟨vs,h1,h2⟩:=h;exact⟨vs,by rw[e];exact h1,h2.hide hp⟩
 |dk ws=>obtain⟨vs,h1,h2⟩:=h;exact⟨vs,by rw[e];exact h1,h2.hide hp⟩
 |ob c fs=>obtain⟨C,dx,vs,h0,h1,h2⟩:=h;exact⟨C,dx,vs,h0,by rw[e];exact h1,h2.hide hp⟩
theorem HR.hide{g:G}{p:Addr}{o:HO}(hp:H p=none)(h:HR K ρ H g):HR K (ρ.hide p) (upd H p o) g:=⟨h.len,h.nd,λn ds e=>by
 obtain⟨a,h1,h2⟩:=h.ce n ds e;exact⟨a,h1,h2.hide hp⟩,λa z=>by
 rcases List.mem_cons.mp z with rfl|z
 ·exact⟨λq=>h.nin hp (.inl q),o,ZG⟩
 ·obtain⟨h1,u,e⟩:=h.hid a z
  exact⟨h1,u,by rw[ZE (ZF e hp)];exact e⟩⟩
theorem FzL.grow{a p:Addr}{xs:List V}(hp:p∈ρ.h)(h:FzL K ρ H a xs):FzL K ρ (upd H p o) a xs:=by
 rcases h with ⟨h,n⟩|h
 ·refine .inl ⟨?_,n⟩
  unfold Rd;rw[ZE λz=>n (.inr (by rw[z];exact hp))];exact h
 ·exact .inr h
theorem FzT.grow{a p:Addr}{xs:List V}(hp:p∈ρ.h)(h:FzT K ρ H a xs):FzT K ρ (upd H p o) a xs:=by
 rcases h with ⟨h,n⟩|h
 ·refine .inl ⟨?_,n⟩
  unfold Rd;rw[ZE λz=>n (.inr (by rw[z];exact hp))];exact h
 ·exact .inr h
mutual
theorem RelD.grow{p:Addr}{o:HO}(hp:p∈ρ.h):∀{v:V} {d:PyData},RelD K ρ H v d->RelD K ρ (upd H p o) v d
 |_,_,.non=>.non
 |_,_,.bl b=>.bl b
 |_,_,.int i=>.int i
 |_,_,.str x=>.str x
 |_,_,.tup h hl=>.tup (h.grow hp) (RelDL.grow hp hl)
 |_,_,.lst h n hl=>.lst (by rw[ZE λz=>n (.inr (by rw[z];exact hp))];exact h) n (RelDL.grow hp hl)
 |_,_,.dct h n=>.dct (by rw[ZE λz=>n (.inr (by rw[z];exact hp))];exact h) n
theorem RelDL.grow{p:Addr}{o:HO}(hp:p∈ρ.h):∀{vs:List V} {ds:List PyData},RelDL K ρ H vs ds->RelDL K ρ (upd H p o) vs ds
 |_,_,.nil=>.nil
 |_,_,.cons h hl=>.cons (RelD.grow hp h) (RelDL.grow hp hl)
end
theorem ZBw.grow{p:Addr}{o:HO}{x:Addr}{nm:Str}{t:Option Int}(hp:p∈ρ.h)(h:ZBw K ρ H x nm t):ZBw K ρ (upd H p o) x nm t:=by
 obtain⟨C,od,y,e,⟨hx,nx⟩,ha⟩:=h;refine⟨C,od,y,e,⟨by rw[ZE λz=>nx (.inr (by rw[z];exact hp))];exact hx,nx⟩,λn q=>?_⟩;obtain⟨dx,e1,e2,e3⟩:=ha n q;exact⟨dx,e1,by rw[ZE λz=>e3 (.inr (by rw[z];exact hp))];exact e2,e3⟩
mutual
theorem Rel.grow{p:Addr}{o:HO}(hp:p∈ρ.h):∀{v:V} {x:W},Rel K ρ H v x->Rel K ρ (upd H p o) v x
 |_,_,.dat h=>.dat (h.grow hp)
 |_,_,.ref h=>.ref h
 |_,_,.inp h=>.inp (h.grow hp)
 |_,_,.ty=>.ty
 |_,_,.exc h=>.exc (h.grow hp)
 |_,_,.tup h t=>.tup (h.grow hp) (RelL.grow hp t)
theorem RelL.grow{p:Addr}{o:HO}(hp:p∈ρ.h):∀{vs:List V} {xs:List W},RelL K ρ H vs xs->RelL K ρ (upd H p o) vs xs
 |_,_,.nil=>.nil
 |_,_,.cons h t=>.cons (Rel.grow hp h) (RelL.grow hp t)
end
theorem RelF.grow{p:Addr}{o:HO}(hp:p∈ρ.h):∀{ns:List Str} {vs:List (Str×V)} {xs:List W},RelF K ρ H ns vs xs->RelF K ρ (upd H p o) ns vs xs
 |_,_,_,.nil=>.nil
 |_,_,_,.cons h t=>.cons (h.grow hp) (t.grow hp)
theorem RelK.grow{p:Addr}{o:HO}(hp:p∈ρ.h):∀{vs:List (Key×V)} {xs:List (Key×W)},RelK K ρ H vs xs->RelK K ρ (upd H p o) vs xs
 |_,_,.nil=>.nil
 |_,_,.cons h t=>.cons (h.grow hp) (t.grow hp)
theorem HR.grow{g:G}{p:Addr}{o:HO}(hp:p∈ρ.h)(h:HR K ρ H g):HR K ρ (upd H p o) g:=⟨h.len,h.nd,λn ds e=>by
 obtain⟨a,h1,h2⟩:=h.ce n ds e;have eh:upd H p o a=H a:=ZE λz=>(h.hid p hp).1 (by rw[←z];exact mem_of_getElem? h1)
 refine⟨a,h1,?_⟩;cases ds with
 |pl ds=>obtain⟨vs,h1,h2⟩:=h2;exact⟨vs,by rw[eh];exact h1,h2.grow hp⟩
 |rl ws=>obtain⟨vs,h1,h2⟩:=h2;exact⟨vs,by rw[eh];exact h1,h2.grow hp⟩
 |dk ws=>obtain⟨vs,h1,h2⟩:=h2;exact⟨vs,by rw[eh];exact h1,h2.grow hp⟩
 |ob c fs=>obtain⟨C,dx,vs,h0,h1,h2⟩:=h2;exact⟨C,dx,vs,h0,by rw[eh];exact h1,h2.grow hp⟩,λa z=>by
 obtain⟨h1,u,e⟩:=h.hid a z
 by_cases q:a=p
 ·subst q;exact⟨h1,o,ZG⟩
 ·exact⟨h1,u,by rw[ZE q];exact e⟩⟩
theorem HR.shown{g:G}{p:Addr}(h:HR K (ρ.hide p) H g):HR K ρ H g:=⟨h.len,h.nd,λn ds e=>by
 obtain⟨a,h1,h2⟩:=h.ce n ds e;exact⟨a,h1,h2.less (ρ':=ρ) (ρ:=ρ.hide p) rfl (λ_ z=>z.elim .inl λq=>.inr (mem_cons_of_mem _ q))⟩,λa z=>h.hid a (mem_cons_of_mem _ z)⟩
end
structure Rst (K:PySem.W.Frag) (ρ : Rh) (H:Hp) (σ : St) (sd:Sd) (g:G):Prop where
 len : σ.length=sd.length
 env:∀(i:Nat) (x:W),sd[i]? = some (some x)->∃v,σ[i]? = some (some v)/\Rel K ρ H v x
 hr:HR K ρ H g
theorem Rst.step{K:PySem.W.Frag}{ρ ρ':Rh}{H H':Hp}{σ : St}{sd:Sd}{g g':G}(r:Rst K ρ H σ sd g)(s:Stp ρ H ρ' H')(h:HR K ρ' H' g'):Rst K ρ' H' σ sd g':=⟨r.len,λi x e=>by
 obtain⟨v,h1,h2⟩:=r.env i x e;exact⟨v,h1,h2.mono s⟩,h⟩
theorem Rst.set{K:PySem.W.Frag}{ρ : Rh}{H:Hp}{σ : St}{sd:Sd}{g:G}(r:Rst K ρ H σ sd g){v:V}{x:W}(t:Rel K ρ H v x)(i:Nat):Rst K ρ H (σ.set i (some v)) (sd.set i (some x)) g:=⟨by rw[length_set,length_set,r.len],λj y e=>by
 by_cases hj:i=j
 ·subst hj
  have hl:i<sd.length:=by have:=(List.getElem?_eq_some_iff.mp e).1;rw[length_set] at this;exact this
  rw[getElem?_set_self hl] at e;cases e;exact⟨v,by rw[getElem?_set_self (by rw[r.len];exact hl)],t⟩
 ·rw[getElem?_set_ne hj] at e
  obtain⟨u,h1,h2⟩:=r.env j y e;exact⟨u,by rw[getElem?_set_ne hj];exact h1,h2⟩,r.hr⟩
abbrev DE:=Sd->G->Option (W×G)
abbrev DB:=Sd->G->Option (Bool×G)
abbrev DA:=Sd->G->Option (List W×G)
def Pv(K:PySem.W.Frag)(ρ : Rh)(H:Hp)(x:W)(g:G)(Q:VK):Prop:=∀v H' ρ',Stp ρ H ρ' H'->HR K ρ' H' g->Rel K ρ' H' v x->Q v H'
theorem Pv.step{K:PySem.W.Frag}{ρ ρ':Rh}{H H':Hp}{x:W}{g:G}{Q:VK}(p:Pv K ρ H x g Q)(s:Stp ρ H ρ' H'):Pv K ρ' H' x g Q:=λv H2 ρ2 s2 h r=>p v H2 ρ2 (s.trans s2) h r
def tE(K:PySem.W.Frag)(d:DE):TE:=λσ H Q=>∃ρ sd g x g',Rst K ρ H σ sd g/\d sd g=some (x,g')/\Pv K ρ H x g' Q
def tT(K:PySem.W.Frag)(d:DB):TT:=λσ H Q=>∃ρ sd g b g',Rst K ρ H σ sd g/\d sd g=some (b,g')/\∀H' ρ',Stp ρ H ρ' H'->HR K ρ' H' g'->Q b H'
def tA(K:PySem.W.Frag)(d:DA):TA:=λσ H Q=>∃ρ sd g xs g',Rst K ρ H σ sd g/\d sd g=some (xs,g')/\∀vs H' ρ',Stp ρ H ρ' H'->HR K ρ' H' g'->RelL K ρ' H' vs xs->Q vs H'
theorem PE.imp{X:Cx}{e:Expr}{t u:TE}(h:PE X e t)(k:∀σ H Q,u σ H Q->t σ H Q):PE X e u:=λpins s σ H Q I q=>h pins s σ H Q I (k σ H Q q)
theorem PT.imp{X:Cx}{e:Expr}{t u:TT}(h:PT X e t)(k:∀σ H Q,u σ H Q->t σ H Q):PT X e u:=λpins s σ H Q I q=>h pins s σ H Q I (k σ H Q q)
theorem PW.imp{X:Cx}{e:Expr}{t u:TT}(h:PW X e t)(k:∀σ H Q,u σ H Q->t σ H Q):PW X e u:=λwh pins s σ H Q I q=>h wh pins s σ H Q I (k σ H Q q)
theorem PA.imp{X:Cx}{e:List Expr}{t u:TA}(h:PA X e t)(k:∀σ H Q,u σ H Q->t σ H Q):PA X e u:=λpos pins s σ H Q I q=>h pos pins s σ H Q I (k σ H Q q)
theorem PS.imp{X:Cx}{e:Stmt}{t u:TS}(h:PS X e t)(k:∀D σ H,u D σ H->t D σ H):PS X e u:=λpins s σ H D I q=>h pins s σ H D I (k D σ H q)
theorem PSs.imp{X:Cx}{e:List Stmt}{t u:TS}(h:PSs X e t)(k:∀D σ H,u D σ H->t D σ H):PSs X e u:=λpins s σ H D I q=>h pins s σ H D I (k D σ H q)
theorem OpR.imp{X:Cx}{f:Value->Value->Sem Value}{r r':R2}(h:OpR X f r)(k:∀x y H Q,r' x y H Q->r x y H Q):OpR X f r':=λpins s σ H x y v u Q I rx ry q=>h pins s σ H x y v u Q I rx ry (k x y H Q q)
theorem ZJ.imp{X:Cx}{f:Value}{r r':List V->Hp->VK->Prop}(h:ZJ X f r)(k:∀xs H Q,r' xs H Q->r xs H Q):ZJ X f r':=λpins s σ H xs us Q I rx q=>h pins s σ H xs us Q I rx (k xs H Q q)
def ZB(i:Nat):DE:=λsd g=>match sd.getD i none with|some x=>some (x,g)|none=>none
def dC(d:PyData):DE:=λ_ g=>some (.dat d,g)
def dOp(f:W->W->G->Option (W×G))(da db:DE):DE:=λsd g=>(da sd g).bind λp=>(db sd p.2).bind λq=>f p.1 q.1 q.2
def bW:W×G->Option (Bool×G)
 |(.dat (.bool b),g)=>some (b,g)
 |_=>none
def dB(d:DE):DB:=λsd g=>(d sd g).bind bW
def ZC7(d:DB):DB:=λsd g=>(d sd g).map λp=>(!p.1,p.2)
def ZDu(d e:DB):DB:=λsd g=>(d sd g).bind λp=>if p.1=true then e sd p.2 else some (false,p.2)
def dOr(d e:DB):DB:=λsd g=>(d sd g).bind λp=>if p.1=true then some (true,p.2) else e sd p.2
def dIf(c:DB)(a b:DE):DE:=λsd g=>(c sd g).bind λp=>if p.1=true then a sd p.2 else b sd p.2
def ZC:DA:=λ_ g=>some ([],g)
def ZA(d:DE)(a:DA):DA:=λsd g=>(d sd g).bind λp=>(a sd p.2).map λq=>(p.1::q.1,q.2)
def dF(f:List W->G->Option (W×G))(a:DA):DE:=λsd g=>(a sd g).bind λp=>f p.1 p.2
def dats:List W->Option (List PyData)
 |[]=>some []
 |.dat d::r=>(dats r).map λds=>d::ds
 |_::_=>none
def ZAz(ws:List W)(g:G):Option (W×G):=(dats ws).bind λds=>if ds.length<=1000 then some (.dat (.tuple ds),g) else none
def ZJO(ws:List W)(g:G):Option (W×G):=(dats ws).bind λds=>if ds.length<=1000 then some (.dat (.list ds),g) else none
def ZCb(ws:List W)(g:G):Option (W×G):=(dats ws).bind λds=>if ds.length<=1000 then some (.ref g.length,g++[.pl ds]) else none
def rOp(K:PySem.W.Frag)(f:W->W->G->Option (W×G)):R2:=λx y H Q=>∃ρ a b g z g',HR K ρ H g/\Rel K ρ H x a/\Rel K ρ H y b/\f a b g=some (z,g')/\Pv K ρ H z g' Q
def rF(K:PySem.W.Frag)(f:List W->G->Option (W×G)):List V->Hp->VK->Prop:=λxs H Q=>∃ρ ws g z g',HR K ρ H g/\RelL K ρ H xs ws/\f ws g=some (z,g')/\Pv K ρ H z g' Q
theorem bnd{α β : Type}{o:Option α}{f : α->Option β}{y : β}(h:o.bind f=some y):∃x,o=some x/\f x=some y:=by
 cases o with
 |none=>cases h
 |some x=>exact⟨x,rfl,h⟩
theorem mp{α β : Type}{o:Option α}{f : α->β}{y : β}(h:o.map f=some y):∃x,o=some x/\f x=y:=by
 cases o with
 |none=>cases h
 |some x=>exact⟨x,rfl,Option.some.inj h⟩
theorem ZC1{K:PySem.W.Frag}{ρ : Rh}{H:Hp}{ws:List W}:∀{vs:List V} {ds:List PyData},RelL K ρ H vs ws->dats ws=some ds->RelDL K ρ H vs ds:=by
 induction ws with
 |nil=>intro vs ds t e;cases t;cases e;exact .nil
 |cons w r ih =>
  intro vs ds t e;cases t with
  |cons h t =>
   cases h with
   |dat h =>
    obtain⟨x,e1,rfl⟩:=mp e;exact .cons h (ih t e1)
   |_=>cases e
section
variable{X:Cx}{a b c e:Expr}{es:List Expr}{da db dc d:DE}{ta tb:DB}{aa:DA}{pos p2:Pos}{f f':W->W->G->Option (W×G)}
theorem ZLV(i:Nat){x:Str}{pos:Pos}(hN:X.N[i]? = some x:=by rfl)(hv:Vis X.env.scope x:=by first|exact Or.inl rfl|exact Or.inr (Or.inl rfl)|exact Or.inr (Or.inr rfl))(hd:(x == ("__debug__" : Str))=false:=by decide)
  (hcd:(x == ("__classdict__" : Str))=false:=by decide):PE X (.Name x pos) (tE X.K (ZB i)):=(ZK3 hN hv hd hcd).imp λσ H Q ⟨ρ,sd,g,y,g',r,e,q⟩=>by
 unfold ZB at e;cases h:sd.getD i none with
 |none=>rw[h] at e;cases e
 |some z =>
  rw[h] at e;cases e;have h':sd[i]? = some (some y):=by
   rw[List.getD_eq_getElem?_getD] at h;cases k:sd[i]? with
   |none=>rw[k] at h;cases h
   |some w=>rw[k] at h;exact congrArg some h
  obtain⟨v,h1,h2⟩:=r.env i y h';exact⟨v,h1,q v H ρ .refl r.hr h2⟩
theorem ZHF{v:V}{d:PyData}(h:PE X e (tC v))(r:∀ρ H,RelD X.K ρ H v d):PE X e (tE X.K (dC d)):=h.imp λσ H Q ⟨ρ,sd,g,y,g',hr,e,q⟩=>by
 cases e;exact q v H ρ .refl hr.hr (.dat (r ρ H))
theorem ZKr{i j pos}:PE X (.Constant (.int i) j pos) (tE X.K (dC (.int i))):=ZHF ZFT λ_ _=>.int i
theorem de_bl{b j pos}:PE X (.Constant (.bool b) j pos) (tE X.K (dC (.bool b))):=ZHF pe_bl λ_ _=>.bl b
theorem ZLF{x j pos}:PE X (.Constant (.str x) j pos) (tE X.K (dC (.str x))):=ZHF ZKQ λ_ _=>.str x
theorem ZHi{x:Str}{n:Int}(hg:Gl X x)(h:ZJu X.mg x n)(hd:(x == ("__debug__" : Str))=false:=by decide):PE X (.Name x pos) (tE X.K (dC (.int n))):=ZHF (ZH4 hg h hd) λ_ _=>.int n
theorem ZFi{σ : St}{H:Hp}{Q:VK}(h:tE X.K (dOp f da db) σ H Q):tOp (rOp X.K f) (tE X.K da) (tE X.K db) σ H Q:=by
 obtain⟨ρ,sd,g,x,g',r,e,q⟩:=h;obtain⟨⟨y,g1⟩,e1,e⟩:=bnd e;obtain⟨⟨z,g2⟩,e2,e⟩:=bnd e;refine⟨ρ,sd,g,y,g1,r,e1,λv H1 ρ1 s1 h1 r1=>⟨ρ1,sd,g1,z,g2,r.step s1 h1,e2,λw H2 ρ2 s2 h2 r2=>?_⟩⟩;exact⟨ρ2,y,z,g2,x,g',h2,r1.mono s2,r2,e,q.step (s1.trans s2)⟩
theorem de_op{op:Operator}(ho:OpR X (binaryOp op) (rOp X.K f))(ha:PE X a (tE X.K da))(hb:PE X b (tE X.K db)):PE X (.BinOp a op b pos) (tE X.K (dOp f da db)):=(ZJ8 ho ha hb).imp λ_ _ _ h=>ZFi h
theorem ZK0{op:CmpOp}(ho:OpR X (compareOp op) (rOp X.K f))(ha:PE X a (tE X.K da))(hb:PE X b (tE X.K db))(hm:behindInMarks op b=false):PE X (.Compare a [op] [b] pos) (tE X.K (dOp f da db)):=(ZIj ho ha hb hm).imp λ_ _ _ h=>ZFi h
theorem de_ix(ho:IxR X (rOp X.K f))(ha:PE X a (tE X.K da))(hb:PE X b (tE X.K db))(hs:ZEA b):PE X (.Subscript a b pos) (tE X.K (dOp f da db)):=(pe_ix ho ha hb hs).imp λ_ _ _ h=>ZFi h
theorem ZCX{K:PySem.W.Frag}{ρ : Rh}{H:Hp}{v:V}{x:W}{g g':G}{k:Bool}(r:Rel K ρ H v x)(h:bW (x,g)=some (k,g')):v=.bl k/\g=g':=by
 cases r with
 |ref _=>cases h
 |inp _=>cases h
 |ty=>cases h
 |exc _=>cases h
 |tup _ _=>cases h
 |dat r =>
  cases r with
  |bl c=>cases h;exact⟨rfl,rfl⟩
  |_=>cases h
theorem ZD2{σ : St}{H:Hp}{Q:Bool->Hp->Prop}{t:TE}(k:∀σ H Q,tE X.K d σ H Q->t σ H Q)(h:tT X.K (dB d) σ H Q):ZHS t σ H Q:=by
 obtain⟨ρ,sd,g,b,g',r,e,q⟩:=h;obtain⟨⟨y,g1⟩,e1,e⟩:=bnd e;refine k _ _ _ ⟨ρ,sd,g,y,g1,r,e1,λv H1 ρ1 s1 h1 r1=>?_⟩;obtain⟨rfl,rfl⟩:=ZCX r1 e;exact⟨b,rfl,q H1 ρ1 s1 h1⟩
theorem ZLN{op:CmpOp}(ho:OpR X (compareOp op) (rOp X.K f))(ha:PE X a (tE X.K da))(hb:PE X b (tE X.K db))(hm:behindInMarks op b=false):PT X (.Compare a [op] [b] pos) (tT X.K (dB (dOp f da db))):=(ZJI ho ha hb hm).imp λ_ _ _ h=>ZD2 (λ_ _ _ h=>ZFi h) h
theorem ZKn(h:PE X e (tE X.K d))(he:∀whole,isTrue e X.env whole=(do let v ←whole;standAt e.pos;holding [v] (truthy v)):=by intro _;rfl):PT X e (tT X.K (dB d)):=(ZLS h he).imp λ_ _ _ h=>ZD2 (λ_ _ _ h=>h) h
def ZBd(f f':W->W->G->Option (W×G))(da db dc:DE):DE:=λsd g=>(da sd g).bind λp=>(db sd p.2).bind λq=>(f p.1 q.1 q.2).bind λz=>(bW z).bind λk=>if k.1=true then (dc sd k.2).bind λu=>f' q.1 u.1 u.2 else some (.dat (.bool false),k.2)
theorem ZHf{σ : St}{H:Hp}{Q:VK}(h:tE X.K (ZBd f f' da db dc) σ H Q):ZHR (rOp X.K f) (rOp X.K f') (tE X.K da) (tE X.K db) (tE X.K dc) σ H Q:=by
 obtain⟨ρ,sd,g,x,g',r,e,q⟩:=h;obtain⟨⟨y,g1⟩,e1,e⟩:=bnd e;obtain⟨⟨z,g2⟩,e2,e⟩:=bnd e;obtain⟨⟨u,g3⟩,e3,e⟩:=bnd e;obtain⟨⟨k,g4⟩,e4,e⟩:=bnd e;refine⟨ρ,sd,g,y,g1,r,e1,λv H1 ρ1 s1 h1 r1=>⟨ρ1,sd,g1,z,g2,r.step s1 h1,e2,λw H2 ρ2 s2 h2 r2=>⟨ρ2,y,z,g2,u,g3,h2,r1.mono s2,r2,e3,λt H3 ρ3 s3 h3 r3=>?_⟩⟩⟩;obtain⟨rfl,rfl⟩:=ZCX r3 e4;refine⟨k,rfl,?_⟩;have s13:=s1.trans (s2.trans s3);cases k with
 |true =>
  obtain⟨⟨u2,g5⟩,e5,e⟩:=bnd e;exact⟨ρ3,sd,g3,u2,g5,r.step s13 h3,e5,λt4 H4 ρ4 s4 h4 r4=>⟨ρ4,z,u2,g5,x,g',h4,(r2.mono s3).mono s4,r4,e,q.step (s13.trans s4)⟩⟩
 |false =>
  cases e;exact q (.bl false) H3 ρ3 s13 h3 (.dat (.bl false))
theorem ZG9{op op':CmpOp}(ho:OpR X (compareOp op) (rOp X.K f))(ho':OpR X (compareOp op') (rOp X.K f'))(ha:PE X a (tE X.K da))(hb:PE X b (tE X.K db))(hc:PE X c (tE X.K dc))(hm:lastMarks [op,op'] [b,c]=false:=by with_unfolding_all rfl) :
  PT X (.Compare a [op,op'] [b,c] pos) (tT X.K (dB (ZBd f f' da db dc))):=(ZIW ho ho' ha hb hc hm).imp λ_ _ _ h=>ZD2 (λ_ _ _ h=>ZHf h) h
theorem ZLy(h:PT X a (tT X.K ta)):PT X (.UnaryOp .Not a pos) (tT X.K (ZC7 ta)):=(ZLW h).imp λσ H Q ⟨ρ,sd,g,b,g',r,e,q⟩=>by
 obtain⟨⟨y,g1⟩,e1,e⟩:=mp e;cases e;exact⟨ρ,sd,g,y,g1,r,e1,q⟩
theorem ZJm(h:PT X a (tT X.K ta)):PW X (.BoolOp .And [a] pos) (tT X.K ta):=ZIh h
theorem ZLp(h:PT X a (tT X.K ta)):PW X (.BoolOp .Or [a] pos) (tT X.K ta):=ZLn h
theorem ZLr{rest:List Expr}(ha:PT X a (tT X.K ta))(hb:PW X (.BoolOp .And (b::rest) pos) (tT X.K tb)):PW X (.BoolOp .And (a::b::rest) pos) (tT X.K (ZDu ta tb)):=(ZLP ha hb).imp λσ H Q ⟨ρ,sd,g,b,g',r,e,q⟩=>by
 obtain⟨⟨y,g1⟩,e1,e⟩:=bnd e;refine⟨ρ,sd,g,y,g1,r,e1,λH1 ρ1 s1 h1=>?_⟩;cases y with
 |true=>exact⟨ρ1,sd,g1,b,g',r.step s1 h1,e,λH2 ρ2 s2 h2=>q H2 ρ2 (s1.trans s2) h2⟩
 |false=>cases e;exact q H1 ρ1 s1 h1
theorem dw_or{rest:List Expr}(ha:PT X a (tT X.K ta))(hb:PW X (.BoolOp .Or (b::rest) pos) (tT X.K tb)):PW X (.BoolOp .Or (a::b::rest) pos) (tT X.K (dOr ta tb)):=(pw_or ha hb).imp λσ H Q ⟨ρ,sd,g,b,g',r,e,q⟩=>by
 obtain⟨⟨y,g1⟩,e1,e⟩:=bnd e;refine⟨ρ,sd,g,y,g1,r,e1,λH1 ρ1 s1 h1=>?_⟩;cases y with
 |false=>exact⟨ρ1,sd,g1,b,g',r.step s1 h1,e,λH2 ρ2 s2 h2=>q H2 ρ2 (s1.trans s2) h2⟩
 |true=>cases e;exact q H1 ρ1 s1 h1
def ZBA(a b:DE):DE:=λsd g=>((a sd g).bind bW).bind λp=>if p.1=true then b sd p.2 else some (.dat (.bool false),p.2)
def ZGU(a b:DE):DE:=λsd g=>((a sd g).bind bW).bind λp=>if p.1=true then some (.dat (.bool true),p.2) else b sd p.2
def ZEy(a:DE):DE:=λsd g=>((a sd g).bind bW).map λp=>(.dat (.bool !p.1),p.2)
theorem ZK2{op}(h:PE X a (tE X.K da)):PE X (.BoolOp op [a] pos) (tE X.K da):=ZLT h
theorem ZKl{rest:List Expr}(ha:PE X a (tE X.K da))(hb:PE X (.BoolOp .And (b::rest) pos) (tE X.K db)):PE X (.BoolOp .And (a::b::rest) pos) (tE X.K (ZBA da db)):=(ZLB ha hb).imp λσ H Q ⟨ρ,sd,g,x,g',r,e,q⟩=>by
 obtain⟨⟨k,g2⟩,e1,e⟩:=bnd e;obtain⟨⟨y,g1⟩,e1,e2⟩:=bnd e1;refine⟨ρ,sd,g,y,g1,r,e1,λv H1 ρ1 s1 h1 r1=>?_⟩;obtain⟨rfl,rfl⟩:=ZCX r1 e2;refine⟨k,rfl,?_⟩;cases k with
 |true=>exact⟨ρ1,sd,g1,x,g',r.step s1 h1,e,q.step s1⟩
 |false=>cases e;exact q _ H1 ρ1 s1 h1 (.dat (.bl false))
theorem de_or{rest:List Expr}(ha:PE X a (tE X.K da))(hb:PE X (.BoolOp .Or (b::rest) pos) (tE X.K db)):PE X (.BoolOp .Or (a::b::rest) pos) (tE X.K (ZGU da db)):=(pe_or ha hb).imp λσ H Q ⟨ρ,sd,g,x,g',r,e,q⟩=>by
 obtain⟨⟨k,g2⟩,e1,e⟩:=bnd e;obtain⟨⟨y,g1⟩,e1,e2⟩:=bnd e1;refine⟨ρ,sd,g,y,g1,r,e1,λv H1 ρ1 s1 h1 r1=>?_⟩;obtain⟨rfl,rfl⟩:=ZCX r1 e2;refine⟨k,rfl,?_⟩;cases k with
 |false=>exact⟨ρ1,sd,g1,x,g',r.step s1 h1,e,q.step s1⟩
 |true=>cases e;exact q _ H1 ρ1 s1 h1 (.dat (.bl true))
theorem ZLO(ha:PE X a (tE X.K da)):PE X (.UnaryOp .Not a pos) (tE X.K (ZEy da)):=(ZLv ha).imp λσ H Q ⟨ρ,sd,g,x,g',r,e,q⟩=>by
 obtain⟨⟨k,g2⟩,e1,e⟩:=mp e;obtain⟨⟨y,g1⟩,e1,e2⟩:=bnd e1;refine⟨ρ,sd,g,y,g1,r,e1,λv H1 ρ1 s1 h1 r1=>?_⟩;obtain⟨rfl,rfl⟩:=ZCX r1 e2;cases e;exact⟨k,rfl,q _ H1 ρ1 s1 h1 (.dat (.bl _))⟩
theorem de_if(hc:PT X c (tT X.K ta))(ha:PE X a (tE X.K da))(hb:PE X b (tE X.K db)):PE X (.IfExp c a b pos) (tE X.K (dIf ta da db)):=(ZHY hc ha hb).imp λσ H Q ⟨ρ,sd,g,x,g',r,e,q⟩=>by
 obtain⟨⟨k,g1⟩,e1,e⟩:=bnd e;refine⟨ρ,sd,g,k,g1,r,e1,λH1 ρ1 s1 h1=>?_⟩;cases k with
 |true=>exact⟨ρ1,sd,g1,x,g',r.step s1 h1,e,q.step s1⟩
 |false=>exact⟨ρ1,sd,g1,x,g',r.step s1 h1,e,q.step s1⟩
theorem ZH7:PA X [] (tA X.K ZC):=ZKo.imp λσ H Q ⟨ρ,sd,g,xs,g',r,e,q⟩=>by
 cases e;exact q [] H ρ .refl r.hr .nil
theorem ZFy(ha:PE X e (tE X.K d))(hr:PA X es (tA X.K aa))(hs:starEach (e::es) X.env=(false,eval e X.env)::starEach es X.env:=by rfl):PA X (e::es) (tA X.K (ZA d aa)):=(ZIp ha hr hs).imp λσ H Q ⟨ρ,sd,g,xs,g',r,e,q⟩=>by
 obtain⟨⟨y,g1⟩,e1,e⟩:=bnd e;obtain⟨⟨ys,g2⟩,e2,e⟩:=mp e;cases e;exact⟨ρ,sd,g,y,g1,r,e1,λv H1 ρ1 s1 h1 r1=>⟨ρ1,sd,g1,ys,g2,r.step s1 h1,e2,λvs H2 ρ2 s2 h2 r2=>q (v::vs) H2 ρ2 (s1.trans s2) h2 (.cons (r1.mono s2) r2)⟩⟩
theorem ZK1{x1}(h:PA X es (tA X.K aa)):PE X (.Tuple es x1 pos) (tE X.K (dF ZAz aa)):=(ZKM h).imp λσ H Q ⟨ρ,sd,g,x,g',r,e,q⟩=>by
 obtain⟨⟨ws,g1⟩,e1,e⟩:=bnd e;refine⟨ρ,sd,g,ws,g1,r,e1,λvs H1 ρ1 s1 h1 r1=>?_⟩;obtain⟨ds,e2,e⟩:=bnd e;have rd:=ZC1 r1 e2
 by_cases hz:ds.length<=1000
 ·simp only[if_pos hz] at e
  cases e;refine⟨by rw[rd.length];exact le_of_lt (Zc hz),λp hp=>?_⟩;obtain⟨sm,hr2,hn⟩:=ZAa (o:=.tup vs) h1 hp;exact q _ _ ρ1 (s1.trans (.same sm)) hr2 (.dat (.tup (.inl ⟨.inl ZG,hn⟩) (rd.mono (.same sm))))
 ·simp only[if_neg hz] at e
  cases e
theorem ZK4(h:PA X es (tA X.K aa)):PE X (.List es pos) (tE X.K (dF ZJO aa)):=(ZFU h).imp λσ H Q ⟨ρ,sd,g,x,g',r,e,q⟩=>by
 obtain⟨⟨ws,g1⟩,e1,e⟩:=bnd e;refine⟨ρ,sd,g,ws,g1,r,e1,λvs H1 ρ1 s1 h1 r1=>?_⟩;obtain⟨ds,e2,e⟩:=bnd e;have rd:=ZC1 r1 e2
 by_cases hz:ds.length<=1000
 ·simp only[if_pos hz] at e
  cases e;refine⟨by rw[rd.length];exact le_of_lt (Zc hz),λp hp=>?_⟩;obtain⟨sm,hr2,hn⟩:=ZAa (o:=.lst vs) h1 hp;exact q _ _ ρ1 (s1.trans (.same sm)) hr2 (.dat (.lst ZG hn (rd.mono (.same sm))))
 ·simp only[if_neg hz] at e
  cases e
theorem ZIe(h:PA X es (tA X.K aa)):PE X (.List es pos) (tE X.K (dF ZCb aa)):=(ZFU h).imp λσ H Q ⟨ρ,sd,g,x,g',r,e,q⟩=>by
 obtain⟨⟨ws,g1⟩,e1,e⟩:=bnd e;refine⟨ρ,sd,g,ws,g1,r,e1,λvs H1 ρ1 s1 h1 r1=>?_⟩;obtain⟨ds,e2,e⟩:=bnd e;have rd:=ZC1 r1 e2
 by_cases hz:ds.length<=1000
 ·simp only[if_pos hz] at e
  cases e;refine⟨by rw[rd.length];exact le_of_lt (Zc hz),λp hp=>?_⟩;obtain⟨hr2,st⟩:=h1.alloc hp rd;exact q _ _ _ (s1.trans st) hr2 (.ref (by show(ρ1.c++[p])[_]? = _;rw[←h1.len];simp))
 ·simp only[if_neg hz] at e
  cases e
theorem ZMR{fn:List W->G->Option (W×G)}{σ : St}{H:Hp}{Q:VK}(h:tE X.K (dF fn aa) σ H Q):tA X.K aa σ H λvs H1=>rF X.K fn vs H1 Q:=by
 obtain⟨ρ,sd,g,x,g',r,e,q⟩:=h;obtain⟨⟨ws,g1⟩,e1,e⟩:=bnd e;exact⟨ρ,sd,g,ws,g1,r,e1,λvs H1 ρ1 s1 h1 r1=>⟨ρ1,ws,g1,x,g',h1,r1,e,q.step s1⟩⟩
end
end L2
namespace L2
open PySem PySem.Spec PyProof.Rows
def Itz3(K:PySem.W.Frag)(a b c:Addr):It :=
 ⟨λi H=>∃xs ys zs x y z,SqT K H a xs/\SqT K H b ys/\SqT K H c zs/\xs[i]? = some x/\ys[i]? = some y/\zs[i]? = some z,λi H v H'=>∃p x y z,v=.ref p/\H p=none/\H'=upd H p (.tup [x,y,z])/\∀xs ys zs,SqT K H a xs->SqT K H b ys->SqT K H c zs->xs[i]? = some x/\ys[i]? = some y/\zs[i]? = some z,
  λi H=>∃xs ys zs,SqT K H a xs/\SqT K H b ys/\SqT K H c zs/\(xs.length<=i∨ys.length<=i∨zs.length<=i)⟩
end L2
namespace L2
open PySem PySem.Spec PyProof.Rows H1
def Its(x:Str):It:=⟨λi _=>i<x.cps.size,λi H v H'=>H'=H/\v=.str ⟨#[x.cps.getD i 0]⟩,λi _=>x.cps.size<=i⟩
theorem ZEj{P:Program}{w:World}{K:PySem.W.Frag}{tg:Expr}(it:Addr)(T:String)(hT:T = "str_ascii_iterator"∨T = "str_iterator")(x:Str)(t:Tok):Turn P w K tg (Its x) [it] it (λi h=>h.IsStrIter it T x t i) where
 mem:=by simp
 obj:=λi h st b hb=>by
  have e:b=it:=by simpa using hb
  subst e;obtain⟨o,ho,_,hd⟩:=st;exact⟨o,ho,λv z=>by rw[hd] at z;cases z⟩
 keep:=λi h h' st k=>let ⟨o,ho,r⟩:=st;⟨o,k it (by simp) o ho,r⟩
 item:=by
  intro X hP hw hK hc i pins s σ H E I hf st hg;subst hP hw hK;obtain⟨f0,f1,f2,f3,f4,f5⟩:=hf it (by simp);have W:Walks X.prog X.w X.A it [it] [it] x.cps.size (SignAt x) (λi h=>h.IsStrIter it T x t i):=by
   rcases hT with rfl|rfl
   ·exact Walks.strAscii (I.ok.hd hc) it x t
   ·exact Walks.strWide (I.ok.hd hc) it x t
  refine W.item i s _ _ hg st λv h' tk hv st' kk=>?_
  obtain⟨c,u,hcp,rfl⟩:=hv;have I1:Inv X pins σ H { s with heap:=h',toks:=tk }:=I.turned (λb o hb e=>kk b o (by simpa using hb) e) f0 f1 f3 f4 f5;have hv:c=x.cps.getD i 0:=by rw[Array.getD_eq_getD_getElem?,hcp];rfl
  obtain⟨o,ho,h1,h2⟩:=id st';refine⟨_,rfl,ZFk (s:={ s with heap:=h',toks:=tk }) (n:=T) ho h1 h2 (by rcases hT with rfl|rfl <;> decide) ⟨.str ⟨#[x.cps.getD i 0]⟩,H,I1,⟨u,by rw[←hv]⟩,⟨rfl,rfl⟩,st',λb hb=>(hf b hb).1⟩⟩
 done:=by
  intro X hP hw hK hc i pins s σ H E I hf st hg;subst hP hw hK;obtain⟨f0,f1,f2,f3,f4,f5⟩:=hf it (by simp);have hn:x.cps[i]? = none:=by
   have:x.cps.size<=i:=hg;rw[Array.getElem?_eq_none this]
  rcases hT with rfl|rfl
  ·exact wpAny_pyNext_ascii_end (I.ok.hd hc) st hn λh' eb=>⟨rfl,I.turned (t':=s.toks) (λb o hb e=>eb b o hb e) f0 f1 f3 f4 f5⟩
  ·exact wpAny_pyNext_wide_end (I.ok.hd hc) st hn λh' eb=>⟨rfl,I.turned (t':=s.toks) (λb o hb e=>eb b o hb e) f0 f1 f3 f4 f5⟩
 self:=λ_ _ _ _ _ st h=>by
  rcases hT with rfl|rfl
  ·exact wpAny_pyIter_striter_ascii st h
  ·exact wpAny_pyIter_striter_wide st h
def iStr(tl:TE):TI:=λσ H R=>tl σ H λx H1=>∃a:Str,x=.str a/\R (Its a) H1
theorem ZMG{X:Cx}{tg l:Expr}{tl:TE}(hl:PE X l tl):PI X tg l (iStr tl):=by
 intro pins s σ H R I h;refine thn (hl pins s σ H _ I h) λv s1 ⟨x,H1,I1,r1,q1⟩=>?_
 obtain⟨a,e,q⟩:=q1;subst e;obtain⟨t,rfl⟩:=r1;cases ha:a.cps.all (· < 128)
 ·refine wpAny_pyIter_wide ha ?_
  refine⟨s1.heap.objs.size,[s1.heap.objs.size],_,_,H1,rfl,I1.kept (t':=s1.toks) λb o e=>get?_push_of_some _ e,ZEj _ _ (.inr rfl) a t,⟨_,get?_push_size _ rfl,rfl,rfl⟩,λb hb=>?_,q⟩;have e:b=s1.heap.objs.size:=by simpa using hb
  subst e;exact I1.fpOk (le_refl _) (I1.hok.fresh (le_refl _))
 ·refine wpAny_pyIter_ascii ha ?_
  refine⟨s1.heap.objs.size,[s1.heap.objs.size],_,_,H1,rfl,I1.kept (t':=s1.toks) λb o e=>get?_push_of_some _ e,ZEj _ _ (.inl rfl) a t,⟨_,get?_push_size _ rfl,rfl,rfl⟩,λb hb=>?_,q⟩;have e:b=s1.heap.objs.size:=by simpa using hb
  subst e;exact I1.fpOk (le_refl _) (I1.hok.fresh (le_refl _))
section
variable{X:Cx}{x:Str}{p pos:Pos}{e:Expr}{es:List Expr}{aa:DA}{id T:String}{fn:List W->G->Option (W×G)}
theorem ZII(hc:ZJ X (.builtin id) (rF X.K fn))(hg:Gl X x)(hm:X.mg x=none)(hv:bootBuiltins x=some (.builtin id))(ha:PA X (e::es) (tA X.K aa))(hn:x≠"__name__":=by decide)(hdb:(x == ("__debug__" : Str))=false:=by decide)
  (he:starEach (e::es) X.env=(false,eval e X.env)::starEach es X.env:=by rfl)(hpl:(backTo pos (starEach es X.env)).any (·.1)=false:=by rfl):PE X (.Call (.Name x p) (e::es) [] pos) (tE X.K (dF fn aa)):=(ZHo hc hg hm hv ha hn hdb he hpl).imp λ_ _ _ h=>ZMR h
theorem ZGF(hc:ZJ X (.type T) (rF X.K fn))(hg:Gl X x)(hm:X.mg x=none)(hv:bootBuiltins x=some (.type T))(ha:PA X (e::es) (tA X.K aa))(hn:x≠"__name__":=by decide)(hdb:(x == ("__debug__" : Str))=false:=by decide)
  (he:starEach (e::es) X.env=(false,eval e X.env)::starEach es X.env:=by rfl)(hpl:(backTo pos (starEach es X.env)).any (·.1)=false:=by rfl):PE X (.Call (.Name x p) (e::es) [] pos) (tE X.K (dF fn aa)):=(ZGT hc hg hm hv ha hn hdb he hpl).imp λ_ _ _ h=>ZMR h
def spD(K:PySem.W.Frag)(n:Nat)(fn:List W->G->Option (W×G)):Sp:=λvs H Q _=>vs.length=n/\rF K fn vs H Q
inductive Many:DA->Nat->Prop
 |nil:Many ZC 0
 |cons {d:DE} {a:DA} {n:Nat}:Many a n->Many (ZA d a) (n+1)
theorem Many.len{a:DA}{n:Nat}(m:Many a n):∀{sd:Sd} {g g':G} {ws:List W},a sd g=some (ws,g')->ws.length=n:=by
 induction m with
 |nil=>intro sd g g' ws e;cases e;rfl
 |cons m ih =>
  intro sd g g' ws e;obtain⟨⟨y,g1⟩,e1,e⟩:=bnd e;obtain⟨⟨ys,g2⟩,e2,e⟩:=mp e;cases e;rw[length_cons,ih e2]
theorem ZJM{st:Stmt}{ps:List Str}{f:Addr}{fd:FuncData}{k n:Nat}(D:Def X.K X.mg x st ps f fd)(F:FnOk X.prog X.w X.K X.mg X.base CX0 k f fd ps (spD X.K n fn))(hr:Room k X.A)
  (ha:PA X (e::es) (tA X.K aa))(hm:Many aa n)(hg:Gl X x:=by rfl)(hdb:(x == ("__debug__" : Str))=false:=by decide)(he:starEach (e::es) X.env=(false,eval e X.env)::starEach es X.env:=by rfl)(hpl:(backTo pos (starEach es X.env)).any (·.1)=false:=by rfl) :
  PE X (.Call (.Name x p) (e::es) [] pos) (tE X.K (dF fn aa)):=(pcall D F hr ha hg hdb he hpl).imp λσ H Q h=>by
 obtain⟨ρ,sd,g,x,g',r,e,q⟩:=h;obtain⟨⟨ws,g1⟩,e1,e⟩:=bnd e;refine⟨ρ,sd,g,ws,g1,r,e1,λvs H1 ρ1 s1 h1 r1=>?_⟩;show spD X.K n fn (vs++[]) H1 Q E0;rw[append_nil];exact⟨by rw[r1.length];exact hm.len e1,ρ1,ws,g1,x,g',h1,r1,e,q.step s1⟩
end
mutual
inductive Pat where
 |nm (i:Nat)
 |tp (ps:Pats)
inductive Pats where
 |nil
 |cons (p:Pat) (r:Pats)
end
def Pats.len:Pats->Nat
 |.nil=>0
 |.cons _ r=>r.len+1
mutual
def Pat.all(f:Nat->Bool):Pat->Bool
 |.nm i=>f i
 |.tp ps=>ps.all f
def Pats.all(f:Nat->Bool):Pats->Bool
 |.nil=>true
 |.cons p r=>p.all f && r.all f
end
mutual
def gP(K:PySem.W.Frag):Pat->TG
 |.nm i=>ZEm i
 |.tp ps=>ZMX K ps.len (gPs K ps)
def gPs(K:PySem.W.Frag):Pats->TGs
 |.nil=>ZMM
 |.cons p r=>ZKF (gP K p) (gPs K r)
end
mutual
def Zi:Pat->W->Sd->Option Sd
 |.nm i,x,sd=>some (sd.set i (some x))
 |.tp ps,.dat (.tuple ds),sd=>ZAN ps ds sd
 |.tp ps,.tup ws,sd=>Zy ps ws sd
 |.tp _,_,_=>none
def Zy:Pats->List W->Sd->Option Sd
 |.nil,[],sd=>some sd
 |.cons p r,d::ds,sd=>(Zi p d sd).bind λsd'=>Zy r ds sd'
 |_,_,_=>none
def ZAN:Pats->List PyData->Sd->Option Sd
 |.nil,[],sd=>some sd
 |.cons p r,d::ds,sd=>(Zi p (.dat d) sd).bind λsd'=>ZAN r ds sd'
 |_,_,_=>none
end
def ZDx(f:Nat->Bool)(σ σ':St):Prop:=σ.length = σ'.length/\∀i,f i=false->σ'[i]? = σ[i]?
theorem ZDx.refl{f:Nat->Bool}{σ : St}:ZDx f σ σ:=⟨rfl,λ_ _=>rfl⟩
theorem ZDx.trans{f:Nat->Bool}{σ σ1 σ2:St}(h:ZDx f σ σ1)(k:ZDx f σ1 σ2):ZDx f σ σ2:=⟨h.1.trans k.1,λi e=>(k.2 i e).trans (h.2 i e)⟩
mutual
theorem ZDR{K:PySem.W.Frag}{ρ : Rh}{H:Hp}{g:G}{f:Nat->Bool}:∀{p:Pat} {x:W} {sd sd':Sd} {σ : St} {v:V} {Q:St->Hp->Prop},p.all f=true->Zi p x sd=some sd'->Rst K ρ H σ sd g->Rel K ρ H v x->(∀σ',Rst K ρ H σ' sd' g->ZDx f σ σ'->Q σ' H)->gP K p v σ H Q
 |.nm i,x,sd,sd',σ,v,Q,hf,e,r,rv,q=>by
  rw[Zi] at e;cases e;rw[gP];refine q _ (r.set rv i) ⟨by rw[length_set],λj hj=>?_⟩;have:i≠j:=λz=>by rw[Pat.all,z,hj] at hf;cases hf
  rw[getElem?_set_ne this]
 |.tp ps,x,sd,sd',σ,v,Q,hf,e,r,rv,q=>by
  rw[Pat.all] at hf;cases rv with
  |dat rv =>
   cases rv with
   |tup h hl =>
    rw[Zi] at e;rw[gP];exact⟨_,_,rfl,h.sq,hl.length.trans (ZCs e),ZHZ hf e r hl q⟩
   |_=>simp[Zi] at e
  |tup h hl =>
   rw[Zi] at e;rw[gP];exact⟨_,_,rfl,h.sq,hl.length.trans (ZCE e),ZFz hf e r hl q⟩
  |_=>simp[Zi] at e
theorem ZHZ{K:PySem.W.Frag}{ρ : Rh}{H:Hp}{g:G}{f:Nat->Bool}:∀{ps:Pats} {ds:List PyData} {sd sd':Sd} {σ : St} {vs:List V} {Q:St->Hp->Prop},ps.all f=true->ZAN ps ds sd=some sd'->Rst K ρ H σ sd g->RelDL K ρ H vs ds->(∀σ',Rst K ρ H σ' sd' g->ZDx f σ σ'->Q σ' H)->gPs K ps vs σ H Q
 |.nil,[],sd,sd',σ,_,Q,hf,e,r,.nil,q=>by
  rw[ZAN] at e;cases e;rw[gPs];exact⟨rfl,q _ r .refl⟩
 |.cons p ps,d::ds,sd,sd',σ,_,Q,hf,e,r,.cons (x:=v) (xs:=vs) h t,q=>by
  rw[ZAN] at e;obtain⟨sd1,e1,e⟩:=bnd e;rw[Pats.all,Bool.and_eq_true] at hf;rw[gPs];exact⟨v,vs,rfl,ZDR hf.1 e1 r (.dat h) λσ1 r1 k1=>ZHZ hf.2 e r1 t λσ2 r2 k2=>q σ2 r2 (k1.trans k2)⟩
 |.nil,_::_,_,_,_,_,_,_,e,_,_,_=>by simp[ZAN] at e
 |.cons _ _,[],_,_,_,_,_,_,e,_,_,_=>by simp[ZAN] at e
theorem ZFz{K:PySem.W.Frag}{ρ : Rh}{H:Hp}{g:G}{f:Nat->Bool}:∀{ps:Pats} {ds:List W} {sd sd':Sd} {σ : St} {vs:List V} {Q:St->Hp->Prop},ps.all f=true->Zy ps ds sd=some sd'->Rst K ρ H σ sd g->RelL K ρ H vs ds->(∀σ',Rst K ρ H σ' sd' g->ZDx f σ σ'->Q σ' H)->gPs K ps vs σ H Q
 |.nil,[],sd,sd',σ,_,Q,hf,e,r,.nil,q=>by
  rw[Zy] at e;cases e;rw[gPs];exact⟨rfl,q _ r .refl⟩
 |.cons p ps,d::ds,sd,sd',σ,_,Q,hf,e,r,.cons (v:=v) (vs:=vs) h t,q=>by
  rw[Zy] at e;obtain⟨sd1,e1,e⟩:=bnd e;rw[Pats.all,Bool.and_eq_true] at hf;rw[gPs];exact⟨v,vs,rfl,ZDR hf.1 e1 r h λσ1 r1 k1=>ZFz hf.2 e r1 t λσ2 r2 k2=>q σ2 r2 (k1.trans k2)⟩
 |.nil,_::_,_,_,_,_,_,_,e,_,_,_=>by simp[Zy] at e
 |.cons _ _,[],_,_,_,_,_,_,e,_,_,_=>by simp[Zy] at e
theorem ZCE:∀{ps:Pats} {ds:List W} {sd sd':Sd},Zy ps ds sd=some sd'->ds.length=ps.len
 |.nil,[],_,_,_=>rfl
 |.cons p ps,d::ds,sd,sd',e=>by
  rw[Zy] at e;obtain⟨sd1,e1,e⟩:=bnd e;rw[length_cons,ZCE e,Pats.len]
 |.nil,_::_,_,_,e=>by simp[Zy] at e
 |.cons _ _,[],_,_,e=>by simp[Zy] at e
theorem ZCs:∀{ps:Pats} {ds:List PyData} {sd sd':Sd},ZAN ps ds sd=some sd'->ds.length=ps.len
 |.nil,[],_,_,_=>rfl
 |.cons p ps,d::ds,sd,sd',e=>by
  rw[ZAN] at e;obtain⟨sd1,e1,e⟩:=bnd e;rw[length_cons,ZCs e,Pats.len]
 |.nil,_::_,_,_,e=>by simp[ZAN] at e
 |.cons _ _,[],_,_,e=>by simp[ZAN] at e
end
section
variable{X:Cx}{pos:Pos}
theorem dg_nm{i:Nat}{x:Str}(hN:X.N.Nodup)(hi:X.N[i]? = some x)(hx:Loc X.env.scope x)(hf:X.fn x=true∨X.env.scope.names.lookup x=some .local:=by first|exact .inl rfl|exact .inr rfl|assumption):PG X (.Name x pos) (gP X.K (.nm i)):=by
 rw[gP];exact ZJh hN hi hx hf
theorem dg_tp{es:List Expr}{k:Nat}{ps:Pats}(hc:X.calm=true)(h:PGs X es (gPs X.K ps))(hn:(assignEach es X.env).length=ps.len:=by rfl)(hst:(assignEach es X.env).findIdx? (·.1)=none:=by rfl):PG X (.Tuple es k pos) (gP X.K (.tp ps)):=by
 rw[gP];exact ZKe hc h hn hst
theorem ZKt:PGs X [] (gPs X.K .nil):=by
 rw[gPs];exact ZJq
theorem ZJG{e:Expr}{es:List Expr}{p:Pat}{ps:Pats}(h1:PG X e (gP X.K p))(h2:PGs X es (gPs X.K ps))(hs:(assignEach (e::es) X.env).map (·.2)=assign e X.env::(assignEach es X.env).map (·.2):=by rfl):PGs X (e::es) (gPs X.K (.cons p ps)):=by
 rw[gPs];exact ZHV h1 h2 hs
end
inductive Out where
 |nx (sd:Sd) (g:G)
 |rt (x:W) (g:G)
 |bk (sd:Sd) (g:G)
 |ct (sd:Sd) (g:G)
abbrev DS:=Sd->G->Option Out
def ZDo(K:PySem.W.Frag)(ρ : Rh)(H:Hp)(E:Ends):Out->Prop
 |.nx sd g=>∀σ' H' ρ',Stp ρ H ρ' H'->Rst K ρ' H' σ' sd g->E.nx σ' H'
 |.rt x g=>Pv K ρ H x g E.rt
 |.bk sd g=>∀σ' H' ρ',Stp ρ H ρ' H'->Rst K ρ' H' σ' sd g->E.bk σ' H'
 |.ct sd g=>∀σ' H' ρ',Stp ρ H ρ' H'->Rst K ρ' H' σ' sd g->E.ct σ' H'
theorem ZDo.step{K:PySem.W.Frag}{ρ ρ':Rh}{H H':Hp}{E:Ends}{o:Out}(h:ZDo K ρ H E o)(s:Stp ρ H ρ' H'):ZDo K ρ' H' E o:=by
 cases o with
 |nx sd g=>exact λσ2 H2 ρ2 s2 r=>h σ2 H2 ρ2 (s.trans s2) r
 |rt x g=>exact Pv.step h s
 |bk sd g=>exact λσ2 H2 ρ2 s2 r=>h σ2 H2 ρ2 (s.trans s2) r
 |ct sd g=>exact λσ2 H2 ρ2 s2 r=>h σ2 H2 ρ2 (s.trans s2) r
def tS(K:PySem.W.Frag)(d:DS):TS:=λE σ H=>∃ρ sd g o,Rst K ρ H σ sd g/\d sd g=some o/\ZDo K ρ H E o
def dNx:DS:=λsd g=>some (.nx sd g)
def Zb(a b:DS):DS:=λsd g=>(a sd g).bind λo=>match o with|.nx sd' g'=>b sd' g'|o=>some o
def ZAH(i:Nat)(d:DE):DS:=λsd g=>(d sd g).bind λp=>some (.nx (sd.set i (some p.1)) p.2)
def ZGP(pt:Pat)(d:DE):DS:=λsd g=>(d sd g).bind λp=>(Zi pt p.1 sd).map λsd'=>.nx sd' p.2
def ZN(d:DE):DS:=λsd g=>(d sd g).map λp=>.rt p.1 p.2
def ZEZ(d:DE):DS:=λsd g=>(d sd g).map λp=>.nx sd p.2
def ZBN(c:DB)(a b:DS):DS:=λsd g=>(c sd g).bind λp=>if p.1=true then a sd p.2 else b sd p.2
section
variable{X:Cx}{pos:Pos}{st:Stmt}{rest ss:List Stmt}{a b:DS}{d:DE}{e c:Expr}{tc:DB}
theorem ZJc:PSs X [] (tS X.K dNx):=ZJa.imp λD σ H ⟨ρ,sd,g,o,r,e,q⟩=>by
 cases e;exact q σ H ρ .refl r
theorem ZJi(h:PS X st (tS X.K a)):PSs X [st] (tS X.K a):=ZIo h
theorem ZIP(h1:PS X st (tS X.K a))(h2:PSs X rest (tS X.K b)):PSs X (st::rest) (tS X.K (Zb a b)):=(ZHT h1 h2).imp λD σ H ⟨ρ,sd,g,o,r,e,q⟩=>by
 obtain⟨o1,e1,e⟩:=bnd e;refine⟨ρ,sd,g,o1,r,e1,?_⟩;cases o1 with
 |nx sd1 g1=>exact λσ1 H1 ρ1 s1 r1=>⟨ρ1,sd1,g1,o,r1,e,q.step s1⟩
 |rt x g1=>cases e;exact q
 |bk _ _=>cases e;exact q
 |ct _ _=>cases e;exact q
theorem ZLL{i:Nat}{x:Str}{pos':Pos}(hN:X.N.Nodup)(hi:X.N[i]? = some x)(hx:Loc X.env.scope x)(he:PE X e (tE X.K d))(hs:swapsWith e (some (.Name x pos')) pos.line X.env=pure false:=by rfl)(hf:X.fn x=true∨X.env.scope.names.lookup x=some .local:=by first|exact .inl rfl|exact .inr rfl|assumption) :
  PS X (.Assign [.Name x pos'] e pos) (tS X.K (ZAH i d)):=(ZMA hN hi hx he hs hf).imp λD σ H ⟨ρ,sd,g,o,r,e,q⟩=>by
 obtain⟨⟨y,g1⟩,e1,e⟩:=bnd e;cases e;exact⟨ρ,sd,g,y,g1,r,e1,λv H1 ρ1 s1 h1 r1=>q _ H1 ρ1 s1 ((r.step s1 h1).set r1 i)⟩
theorem ZL7{tg:Expr}{pt:Pat}(he:PE X e (tE X.K d))(hg:PG X tg (gP X.K pt))(hs:swapsWithSole [tg] e pos.line X.env=pure false:=by rfl)(hw:swappedStores [tg] e X.env=pure none:=by rfl)
  (h1:(assignEach [tg] X.env).map (·.2)=[assign tg X.env]:=by rfl):PS X (.Assign [tg] e pos) (tS X.K (ZGP pt d)):=(ZFL he hg hs hw h1).imp λD σ H ⟨ρ,sd,g,o,r,e,q⟩=>by
 obtain⟨⟨y,g1⟩,e1,e⟩:=bnd e;obtain⟨sd1,e2,e⟩:=mp e;cases e;refine⟨ρ,sd,g,y,g1,r,e1,λv H1 ρ1 s1 h1 r1=>ZDR (f:=λ_=>true) ?_ e2 (r.step s1 h1) r1 λσ2 r2 _=>q _ H1 ρ1 s1 r2⟩;clear e2 hg;exact Pat.rec (motive_1:=λp=>p.all (λ_=>true)=true) (motive_2:=λp=>p.all (λ_=>true)=true) (λi=>by rw[Pat.all]) (λps h=>by rw[Pat.all];exact h) (by rw[Pats.all]) (λp r h1 h2=>by rw[Pats.all,h1,h2];rfl) pt
theorem ZKj(he:PE X e (tE X.K d)):PS X (.Return (some e) pos) (tS X.K (ZN d)):=(ZKz he).imp λD σ H ⟨ρ,sd,g,o,r,e,q⟩=>by
 obtain⟨⟨y,g1⟩,e1,e⟩:=mp e;cases e;exact⟨ρ,sd,g,y,g1,r,e1,q⟩
theorem ZJn(he:PE X e (tE X.K d))(hs:swapsWith e none pos.line X.env=pure false:=by rfl):PS X (.Expr e pos) (tS X.K (ZEZ d)):=(ZI0 he hs).imp λD σ H ⟨ρ,sd,g,o,r,e,q⟩=>by
 obtain⟨⟨y,g1⟩,e1,e⟩:=mp e;cases e;exact⟨ρ,sd,g,y,g1,r,e1,λv H1 ρ1 s1 h1 r1=>q σ H1 ρ1 s1 (r.step s1 h1)⟩
theorem ds_if{sa sb:List Stmt}(hc:PT X c (tT X.K tc))(ha:PSs X sa (tS X.K a))(hb:PSs X sb (tS X.K b)):PS X (.If c sa sb pos) (tS X.K (ZBN tc a b)):=(ps_if hc ha hb).imp λD σ H ⟨ρ,sd,g,o,r,e,q⟩=>by
 obtain⟨⟨k,g1⟩,e1,e⟩:=bnd e;refine⟨ρ,sd,g,k,g1,r,e1,λH1 ρ1 s1 h1=>?_⟩;cases k with
 |true=>exact⟨ρ1,sd,g1,o,r.step s1 h1,e,q.step s1⟩
 |false=>exact⟨ρ1,sd,g1,o,r.step s1 h1,e,q.step s1⟩
end
abbrev DI:=Sd->G->Option (List PyData×Option Nat×G)
def ZAC(src:Option Nat)(xs:List PyData)(g:G):Prop:=match src with|none=>True|some n=>g[n]? = some (.pl xs)
def lk(g:G)(n:Nat):Option (List PyData):=match g[n]? with|some (.pl ds)=>some ds|_=>none
theorem ZEK{g:G}{n:Nat}{ds:List PyData}(h:lk g n=some ds):g[n]? = some (.pl ds):=by
 unfold lk at h
 split at h
 ·rename_i e;cases h;exact e
 ·cases h
theorem ZJ9{g:G}{n:Nat}{ds:List PyData}(h:g[n]? = some (.pl ds)):lk g n=some ds:=by
 unfold lk;rw[h]
def ZDC(n:Nat)(lo:Int):List PyData:=(List.range n).map λ(i:Nat)=>.int (lo+(i:Int))
def ZBm:Nat->List PyData->List PyData
 |_,[]=>[]
 |i,x::r=>.tuple [.int (i:Int),x]::ZBm (i+1) r
def ZA8:List PyData->List PyData->List PyData
 |x::r,y::q=>.tuple [x,y]::ZA8 r q
 |_,_=>[]
theorem ZB5:∀{xs:List PyData} {k i:Nat} {x:PyData},(ZBm k xs)[i]? = some x->∃y,xs[i]? = some y/\x=.tuple [.int ((k+i:Nat):Int),y]
 |[],_,_,_,e=>by simp[ZBm] at e
 |y::r,k,0,x,e=>by
  rw[ZBm] at e;simp at e;exact⟨y,rfl,e.symm⟩
 |y::r,k,i+1,x,e=>by
  rw[ZBm,List.getElem?_cons_succ] at e;obtain⟨z,e1,e2⟩:=ZB5 e;exact⟨z,by simpa using e1,by rw[e2];congr 4;omega⟩
theorem ZBz:∀{xs:List PyData} {k:Nat},(ZBm k xs).length=xs.length
 |[],_=>rfl
 |y::r,k=>by rw[ZBm,length_cons,length_cons,ZBz]
def ZAl:List PyData->List PyData->List PyData->List PyData
 |x::r,y::q,z::p=>.tuple [x,y,z]::ZAl r q p
 |_,_,_=>[]
theorem ZDj:∀{xs ys zs:List PyData} {i:Nat} {x:PyData},(ZAl xs ys zs)[i]? = some x->∃y z u,xs[i]? = some y/\ys[i]? = some z/\zs[i]? = some u/\x=.tuple [y,z,u]
 |[],_,_,_,_,e=>by simp[ZAl] at e
 |_::_,[],_,_,_,e=>by simp[ZAl] at e
 |_::_,_::_,[],_,_,e=>by simp[ZAl] at e
 |y::r,z::q,u::p,0,x,e=>by
  rw[ZAl] at e;simp at e;exact⟨y,z,u,rfl,rfl,rfl,e.symm⟩
 |y::r,z::q,u::p,i+1,x,e=>by
  rw[ZAl,List.getElem?_cons_succ] at e;obtain⟨a,b,c,e1,e2,e3,e4⟩:=ZDj e;exact⟨a,b,c,by simpa using e1,by simpa using e2,by simpa using e3,e4⟩
theorem ZDY:∀{xs ys zs:List PyData},(ZAl xs ys zs).length=min xs.length (min ys.length zs.length)
 |[],_,_=>by simp[ZAl]
 |_::_,[],_=>by simp[ZAl]
 |_::_,_::_,[]=>by simp[ZAl]
 |y::r,z::q,u::p=>by rw[ZAl,length_cons,length_cons,length_cons,length_cons,ZDY];omega
theorem ZBr:∀{xs ys:List PyData} {i:Nat} {x:PyData},(ZA8 xs ys)[i]? = some x->∃y z,xs[i]? = some y/\ys[i]? = some z/\x=.tuple [y,z]
 |[],_,_,_,e=>by simp[ZA8] at e
 |_::_,[],_,_,e=>by simp[ZA8] at e
 |y::r,z::q,0,x,e=>by
  rw[ZA8] at e;simp at e;exact⟨y,z,rfl,rfl,e.symm⟩
 |y::r,z::q,i+1,x,e=>by
  rw[ZA8,List.getElem?_cons_succ] at e;obtain⟨u,v,e1,e2,e3⟩:=ZBr e;exact⟨u,v,by simpa using e1,by simpa using e2,e3⟩
theorem ZA9:∀{xs ys:List PyData},(ZA8 xs ys).length=min xs.length ys.length
 |[],_=>by simp[ZA8]
 |_::_,[]=>by simp[ZA8]
 |y::r,z::q=>by rw[ZA8,length_cons,length_cons,length_cons,ZA9];omega
def ZIE(x:Str):List PyData:=x.cps.toList.map λc=>.str ⟨#[c]⟩
inductive ItOk (K:PySem.W.Frag) (ρ : Rh) (H:Hp):It->List PyData->Option Nat->Prop
 |list {a:Addr} {vs:List V} {ds:List PyData}:FzL K ρ H a vs->RelDL K ρ H vs ds->ItOk K ρ H (Itl K a) ds none
 |tup {a:Addr} {vs:List V} {ds:List PyData}:FzT K ρ H a vs->RelDL K ρ H vs ds->ItOk K ρ H (Itt K a) ds none
 |cell {a:Addr} {n:Nat} {ds:List PyData} : ρ.c[n]? = some a->ItOk K ρ H (Itl K a) ds (some n)
 |rng {lo:Int} {n:Nat}:ItOk K ρ H (Itr lo n) (ZDC n lo) none
 |str {x:Str}:ItOk K ρ H (Its x) (ZIE x) none
 |enum {a:Addr} {vs:List V} {ds:List PyData}:FzT K ρ H a vs->RelDL K ρ H vs ds->ItOk K ρ H (Ite K a) (ZBm 0 ds) none
 |enuml {a:Addr} {vs:List V} {ds:List PyData}:FzL K ρ H a vs->RelDL K ρ H vs ds->ItOk K ρ H (ZMP false K a) (ZBm 0 ds) none
 |zip {a b:Addr} {vs us:List V} {ds es:List PyData}:FzT K ρ H a vs->RelDL K ρ H vs ds->FzT K ρ H b us->RelDL K ρ H us es->ItOk K ρ H (Itz K a b) (ZA8 ds es) none
 |zipl {a b:Addr} {vs us:List V} {ds es:List PyData}:FzL K ρ H a vs->RelDL K ρ H vs ds->FzL K ρ H b us->RelDL K ρ H us es->ItOk K ρ H (Itzl K a b) (ZA8 ds es) none
 |zipx {a b:Addr} {vs us:List V} {ds es:List PyData}:FzT K ρ H a vs->RelDL K ρ H vs ds->FzL K ρ H b us->RelDL K ρ H us es->ItOk K ρ H (ZIK true false K a b) (ZA8 ds es) none
 |zip3 {a b c:Addr} {vs us ts:List V} {ds es fs:List PyData}:FzT K ρ H a vs->RelDL K ρ H vs ds->FzT K ρ H b us->RelDL K ρ H us es->FzT K ρ H c ts->RelDL K ρ H ts fs->ItOk K ρ H (Itz3 K a b c) (ZAl ds es fs) none
section
variable{K:PySem.W.Frag}{ρ ρ':Rh}{H H':Hp}{J:It}{xs:List PyData}{src:Option Nat}
theorem ItOk.mono(s:Stp ρ H ρ' H')(h:ItOk K ρ H J xs src):ItOk K ρ' H' J xs src:=by
 cases h with
 |list f t=>exact .list (f.mono s) (t.mono s)
 |tup f t=>exact .tup (f.mono s) (t.mono s)
 |cell h =>
  obtain⟨r,e⟩:=s.pre;exact .cell (by rw[e,getElem?_append_left (List.getElem?_eq_some_iff.mp h).1];exact h)
 |rng=>exact .rng
 |str=>exact .str
 |enum f t=>exact .enum (f.mono s) (t.mono s)
 |enuml f t=>exact .enuml (f.mono s) (t.mono s)
 |zip f t f2 t2=>exact .zip (f.mono s) (t.mono s) (f2.mono s) (t2.mono s)
 |zipl f t f2 t2=>exact .zipl (f.mono s) (t.mono s) (f2.mono s) (t2.mono s)
 |zipx f t f2 t2=>exact .zipx (f.mono s) (t.mono s) (f2.mono s) (t2.mono s)
 |zip3 f t f2 t2 f3 t3=>exact .zip3 (f.mono s) (t.mono s) (f2.mono s) (t2.mono s) (f3.mono s) (t3.mono s)
theorem ItOk.hide{p:Addr}{o:HO}(hp:H p=none)(h:ItOk K ρ H J xs src):ItOk K (ρ.hide p) (upd H p o) J xs src:=by
 cases h with
 |list f t=>exact .list (f.hide hp) (t.hide hp)
 |tup f t=>exact .tup (f.hide hp) (t.hide hp)
 |cell h=>exact .cell h
 |rng=>exact .rng
 |str=>exact .str
 |enum f t=>exact .enum (f.hide hp) (t.hide hp)
 |enuml f t=>exact .enuml (f.hide hp) (t.hide hp)
 |zip f t f2 t2=>exact .zip (f.hide hp) (t.hide hp) (f2.hide hp) (t2.hide hp)
 |zipl f t f2 t2=>exact .zipl (f.hide hp) (t.hide hp) (f2.hide hp) (t2.hide hp)
 |zipx f t f2 t2=>exact .zipx (f.hide hp) (t.hide hp) (f2.hide hp) (t2.hide hp)
 |zip3 f t f2 t2 f3 t3=>exact .zip3 (f.hide hp) (t.hide hp) (f2.hide hp) (t2.hide hp) (f3.hide hp) (t3.hide hp)
theorem ItOk.grow{p:Addr}{o:HO}(hp:p∈ρ.h)(h:ItOk K ρ H J xs src):ItOk K ρ (upd H p o) J xs src:=by
 cases h with
 |list f t=>exact .list (f.grow hp) (t.grow hp)
 |tup f t=>exact .tup (f.grow hp) (t.grow hp)
 |cell h=>exact .cell h
 |rng=>exact .rng
 |str=>exact .str
 |enum f t=>exact .enum (f.grow hp) (t.grow hp)
 |enuml f t=>exact .enuml (f.grow hp) (t.grow hp)
 |zip f t f2 t2=>exact .zip (f.grow hp) (t.grow hp) (f2.grow hp) (t2.grow hp)
 |zipl f t f2 t2=>exact .zipl (f.grow hp) (t.grow hp) (f2.grow hp) (t2.grow hp)
 |zipx f t f2 t2=>exact .zipx (f.grow hp) (t.grow hp) (f2.grow hp) (t2.grow hp)
 |zip3 f t f2 t2 f3 t3=>exact .zip3 (f.grow hp) (t.grow hp) (f2.grow hp) (t2.grow hp) (f3.grow hp) (t3.grow hp)
theorem ItOk.use{g:G}(h:ItOk K ρ H J xs src)(h':HR K ρ H g)(so:ZAC src xs g):(∀(i:Nat) x,xs[i]? = some x->J.go i H/\∀v H2,J.yld i H v H2->Same H H2/\RelD K ρ H2 v x)/\∀i,xs.length<=i->J.stop i H:=by
 cases h with
 |@list a vs ds f t =>
  refine⟨λi x e=>?_,λi hi=>⟨vs,f.sq,by rw[t.length];exact hi⟩⟩;obtain⟨v,e1,r1⟩:=t.getD e;refine⟨⟨vs,v,f.sq,e1⟩,λu H2 y=>?_⟩;obtain⟨rfl,y⟩:=y;have:=y vs f.sq;rw[e1] at this
  cases this
  exact⟨Same.refl _,r1⟩
 |@tup a vs ds f t =>
  refine⟨λi x e=>?_,λi hi=>⟨vs,f.sq,by rw[t.length];exact hi⟩⟩;obtain⟨v,e1,r1⟩:=t.getD e;refine⟨⟨vs,v,f.sq,e1⟩,λu H2 y=>?_⟩;obtain⟨rfl,y⟩:=y;have:=y vs f.sq;rw[e1] at this
  cases this
  exact⟨Same.refl _,r1⟩
 |@str x =>
  refine⟨λi d e=>?_,λi hi=>?_⟩
  ·unfold ZIE at e
   rw[getElem?_map] at e;cases hc:x.cps.toList[i]? with
   |none=>rw[hc] at e;cases e
   |some c =>
    rw[hc] at e;cases e;have hc':x.cps[i]? = some c:=by rw[←Array.getElem?_toList];exact hc
    have hi:i<x.cps.size:=(Array.getElem?_eq_some_iff.mp hc').1;refine⟨hi,λv H2 y=>?_⟩;obtain⟨rfl,rfl⟩:=y;have:x.cps.getD i 0=c:=by rw[Array.getD_eq_getD_getElem?,hc'];rfl
    rw[this];exact⟨Same.refl _,.str _⟩
  ·unfold ZIE at hi
   rw[length_map,Array.length_toList] at hi;exact hi
 |@cell a n ds h =>
  obtain⟨b,vs,e1,e2,tq⟩:=h'.at_ n _ so;rw[h] at e1;cases e1;have hq:SqL K H a vs:=SqL.of e2;refine⟨λi x e=>?_,λi hi=>⟨vs,hq,by rw[tq.length];exact hi⟩⟩;obtain⟨v,e1,r1⟩:=tq.getD e;refine⟨⟨vs,v,hq,e1⟩,λu H2 y=>?_⟩;obtain⟨rfl,y⟩:=y;have:=y vs hq;rw[e1] at this
  cases this
  exact⟨Same.refl _,r1⟩
 |@rng lo n =>
  refine⟨λi x e=>?_,λi hi=>?_⟩
  ·unfold ZDC at e
   rw[getElem?_map] at e;obtain⟨k,e1,rfl⟩:=mp e;obtain⟨hl,hk⟩:=List.getElem?_eq_some_iff.mp e1;rw[List.getElem_range] at hk;subst hk;rw[length_range] at hl;refine⟨hl,λu H2 y=>?_⟩;obtain⟨rfl,rfl⟩:=y;exact⟨Same.refl _,.int _⟩
  ·unfold ZDC at hi
   rw[length_map,length_range] at hi;exact hi
 |@enum a vs ds f t =>
  refine⟨λi x e=>?_,λi hi=>⟨vs,f.sq,by rw[t.length];rw[ZBz] at hi;exact hi⟩⟩;obtain⟨y,e2,rfl⟩:=ZB5 e;obtain⟨v,e3,r1⟩:=t.getD e2;refine⟨⟨vs,v,f.sq,e3⟩,λu H2 yy=>?_⟩;obtain⟨pp,x',rfl,hp,rfl,yy⟩:=yy;have:=yy vs f.sq;rw[e3] at this
  cases this
  obtain⟨sm,hr2,hn2⟩:=ZAa (o:=.tup [.int i,v]) h' hp;refine⟨sm,.tup (.inl ⟨.inl ZG,hn2⟩) (.cons ?_ (.cons (r1.mono (.same sm)) .nil))⟩;rw[Nat.zero_add];exact .int _
 |@enuml a vs ds f t =>
  refine⟨λi x e=>?_,λi hi=>⟨vs,f.sq,by rw[t.length];rw[ZBz] at hi;exact hi⟩⟩;obtain⟨y,e2,rfl⟩:=ZB5 e;obtain⟨v,e3,r1⟩:=t.getD e2;refine⟨⟨vs,v,f.sq,e3⟩,λu H2 yy=>?_⟩;obtain⟨pp,x',rfl,hp,rfl,yy⟩:=yy;have:=yy vs f.sq;rw[e3] at this
  cases this
  obtain⟨sm,hr2,hn2⟩:=ZAa (o:=.tup [.int i,v]) h' hp;refine⟨sm,.tup (.inl ⟨.inl ZG,hn2⟩) (.cons ?_ (.cons (r1.mono (.same sm)) .nil))⟩;rw[Nat.zero_add];exact .int _
 |@zip3 a b c vs us ts ds es fs f t f2 t2 f3 t3 =>
  refine⟨λi x e=>?_,λi hi=>⟨vs,us,ts,f.sq,f2.sq,f3.sq,by rw[t.length,t2.length,t3.length];rw[ZDY] at hi;omega⟩⟩;obtain⟨y,z,u,e2,e3,e33,rfl⟩:=ZDj e;obtain⟨v,e4,r4⟩:=t.getD e2;obtain⟨w,e5,r5⟩:=t2.getD e3;obtain⟨o,e6,r6⟩:=t3.getD e33;refine⟨⟨vs,us,ts,v,w,o,f.sq,f2.sq,f3.sq,e4,e5,e6⟩,λu H2 yy=>?_⟩;obtain⟨pp,x',y',z',rfl,hp,rfl,yy⟩:=yy;obtain⟨y1,y2,y3⟩:=yy vs us ts f.sq f2.sq f3.sq;rw[e4] at y1;rw[e5] at y2;rw[e6] at y3;cases y1;cases y2;cases y3;obtain⟨sm,hr2,hn2⟩:=ZAa (o:=.tup [v,w,o]) h' hp;exact⟨sm,.tup (.inl ⟨.inl ZG,hn2⟩) (.cons (r4.mono (.same sm)) (.cons (r5.mono (.same sm)) (.cons (r6.mono (.same sm)) .nil)))⟩
 |@zip a b vs us ds es f t f2 t2 =>
  refine⟨λi x e=>?_,λi hi=>⟨vs,us,f.sq,f2.sq,by rw[t.length,t2.length];rw[ZA9] at hi;omega⟩⟩;obtain⟨y,z,e2,e3,rfl⟩:=ZBr e;obtain⟨v,e4,r4⟩:=t.getD e2;obtain⟨w,e5,r5⟩:=t2.getD e3;refine⟨⟨vs,us,v,w,f.sq,f2.sq,e4,e5⟩,λu H2 yy=>?_⟩;obtain⟨pp,x',y',rfl,hp,rfl,yy⟩:=yy;obtain⟨y1,y2⟩:=yy vs us f.sq f2.sq;rw[e4] at y1;rw[e5] at y2;cases y1;cases y2;obtain⟨sm,hr2,hn2⟩:=ZAa (o:=.tup [v,w]) h' hp;exact⟨sm,.tup (.inl ⟨.inl ZG,hn2⟩) (.cons (r4.mono (.same sm)) (.cons (r5.mono (.same sm)) .nil))⟩
 |@zipl a b vs us ds es f t f2 t2 =>
  refine⟨λi x e=>?_,λi hi=>⟨vs,us,f.sq,f2.sq,by rw[t.length,t2.length];rw[ZA9] at hi;omega⟩⟩;obtain⟨y,z,e2,e3,rfl⟩:=ZBr e;obtain⟨v,e4,r4⟩:=t.getD e2;obtain⟨w,e5,r5⟩:=t2.getD e3;refine⟨⟨vs,us,v,w,f.sq,f2.sq,e4,e5⟩,λu H2 yy=>?_⟩;obtain⟨pp,x',y',rfl,hp,rfl,yy⟩:=yy;obtain⟨y1,y2⟩:=yy vs us f.sq f2.sq;rw[e4] at y1;rw[e5] at y2;cases y1;cases y2;obtain⟨sm,hr2,hn2⟩:=ZAa (o:=.tup [v,w]) h' hp;exact⟨sm,.tup (.inl ⟨.inl ZG,hn2⟩) (.cons (r4.mono (.same sm)) (.cons (r5.mono (.same sm)) .nil))⟩
 |@zipx a b vs us ds es f t f2 t2 =>
  refine⟨λi x e=>?_,λi hi=>⟨vs,us,f.sq,f2.sq,by rw[t.length,t2.length];rw[ZA9] at hi;omega⟩⟩;obtain⟨y,z,e2,e3,rfl⟩:=ZBr e;obtain⟨v,e4,r4⟩:=t.getD e2;obtain⟨w,e5,r5⟩:=t2.getD e3;refine⟨⟨vs,us,v,w,f.sq,f2.sq,e4,e5⟩,λu H2 yy=>?_⟩;obtain⟨pp,x',y',rfl,hp,rfl,yy⟩:=yy;obtain⟨y1,y2⟩:=yy vs us f.sq f2.sq;rw[e4] at y1;rw[e5] at y2;cases y1;cases y2;obtain⟨sm,hr2,hn2⟩:=ZAa (o:=.tup [v,w]) h' hp;exact⟨sm,.tup (.inl ⟨.inl ZG,hn2⟩) (.cons (r4.mono (.same sm)) (.cons (r5.mono (.same sm)) .nil))⟩
end
def tI(K:PySem.W.Frag)(d:DI):TI:=λσ H R=>∃ρ sd g xs src g',Rst K ρ H σ sd g/\d sd g=some (xs,src,g')/\∀J H' ρ',Stp ρ H ρ' H'->HR K ρ' H' g'->ZAC src xs g'/\ItOk K ρ' H' J xs src->R J H'
def ZJ6:W->G->Option (List PyData×Option Nat×G)
 |.dat (.list ds),g=>some (ds,none,g)
 |.dat (.tuple ds),g=>some (ds,none,g)
 |.ref n,g=>(lk g n).map λds=>(ds,some n,g)
 |.inp ns,g=>some (ns.map .int,none,g)
 |_,_=>none
def ZBG(d:DE):DI:=λsd g=>(d sd g).bind λp=>ZJ6 p.1 p.2
theorem PI.imp{X:Cx}{tg e:Expr}{t u:TI}(h:PI X tg e t)(k:∀σ H Q,u σ H Q->t σ H Q):PI X tg e u:=λpins s σ H Q I q=>h pins s σ H Q I (k σ H Q q)
def ZJf(K:PySem.W.Frag)(tl:TE):TI:=λσ H R=>tl σ H λx H1=>(∃a,x=.ref a/\(∃xs,SqL K H1 a xs)/\R (Itl K a) H1)∨(∃a,x=.ref a/\(∃xs,SqT K H1 a xs)/\R (Itt K a) H1)
section
variable{X:Cx}{tg:Expr}{pos:Pos}
theorem ZGa{l:Expr}{tl:TE}(hl:PE X l tl):PI X tg l (ZJf X.K tl):=by
 intro pins s σ H R I h;refine thn (hl pins s σ H _ I h) λv s1 ⟨x,H1,I1,r1,q1⟩=>?_
 rcases q1 with ⟨a,e,⟨xs,hq⟩,q⟩|⟨a,e,⟨xs,hq⟩,q⟩
 ·subst e
  cases r1;obtain⟨its,rv,p,hz⟩:=I1.list hq;refine wpAny_pyIter_list p.isList ?_;refine⟨s1.heap.objs.size,[s1.heap.objs.size],_,_,H1,rfl,I1.kept (t':=s1.toks) λb o e=>get?_push_of_some _ e,ZF6 a _,⟨_,get?_push_size _ rfl,rfl,rfl⟩,λb hb=>?_,q⟩;have e:b=s1.heap.objs.size:=by simpa using hb
  subst e;exact I1.fpOk (le_refl _) (I1.hok.fresh (le_refl _))
 ·subst e
  cases r1;obtain⟨its,rv,p,hz⟩:=I1.tuple hq;refine wpAny_pyIter_tuple (show s1.heap.IsTuple a its.toArray from p) ?_;refine⟨s1.heap.objs.size,[s1.heap.objs.size],_,_,H1,rfl,I1.kept (t':=s1.toks) λb o e=>get?_push_of_some _ e,ZFB a _,⟨_,get?_push_size _ rfl,rfl,rfl⟩,λb hb=>?_,q⟩;have e:b=s1.heap.objs.size:=by simpa using hb
  subst e;exact I1.fpOk (le_refl _) (I1.hok.fresh (le_refl _))
theorem ZLa{l:Expr}{d:DE}(hl:PE X l (tE X.K d)):PI X tg l (tI X.K (ZBG d)):=(ZGa hl).imp λσ H R ⟨ρ,sd,g,xs,src,g',r,e,q⟩=>by
 obtain⟨⟨y,g1⟩,e1,e⟩:=bnd e;refine⟨ρ,sd,g,y,g1,r,e1,λv H1 ρ1 s1 h1 r1=>?_⟩;cases r1 with
 |ref h =>
  obtain⟨ds,e2,e⟩:=mp e;cases e;have e2:=ZEK e2;obtain⟨b,vs,e3,e4,tq⟩:=h1.at_ _ _ e2;rw[h] at e3;cases e3;exact .inl ⟨_,rfl,⟨vs,SqL.of e4⟩,q _ H1 ρ1 s1 h1 ⟨e2,ItOk.cell h⟩⟩
 |ty=>cases e
 |exc _=>cases e
 |tup _ _=>cases e
 |inp h=>cases e;exact .inl ⟨_,rfl,⟨_,h.sq⟩,q _ H1 ρ1 s1 h1 ⟨trivial,ItOk.list h RelDL.ofInts⟩⟩
 |dat h =>
  cases h with
  |tup h t=>cases e;exact .inr ⟨_,rfl,⟨_,h.sq⟩,q _ H1 ρ1 s1 h1 ⟨trivial,ItOk.tup h t⟩⟩
  |lst h n t=>cases e;exact .inl ⟨_,rfl,⟨_,SqL.of h⟩,q _ H1 ρ1 s1 h1 ⟨trivial,ItOk.list (.inl ⟨.inl h,n⟩) t⟩⟩
  |_=>cases e
theorem RelL.one{K:PySem.W.Frag}{ρ : Rh}{H:Hp}{vs:List V}{ws:List W}(r:RelL K ρ H vs ws)(hl:ws.length=1):∃v w,vs=[v]/\ws=[w]/\Rel K ρ H v w:=by
 cases r with
 |nil=>cases hl
 |cons h t=>cases t with
  |nil=>exact⟨_,_,rfl,rfl,h⟩
  |cons _ _=>cases hl
theorem RelL.two{K:PySem.W.Frag}{ρ : Rh}{H:Hp}{vs:List V}{ws:List W}(r:RelL K ρ H vs ws)(hl:ws.length=2):∃v v2 w w2,vs=[v,v2]/\ws=[w,w2]/\Rel K ρ H v w/\Rel K ρ H v2 w2:=by
 cases r with
 |nil=>cases hl
 |cons h t =>
  obtain⟨v2,w2,rfl,rfl,h2⟩:=t.one (Nat.succ.inj hl);exact⟨_,_,_,_,rfl,rfl,h,h2⟩
def ZBH:W->Option Int
 |.dat (.int i)=>some i
 |_=>none
def ZFh:W->Option (List PyData)
 |.dat (.tuple ds)=>some ds
 |_=>none
theorem ZHJ{w:W}{i:Int}(e:ZBH w=some i):w=.dat (.int i):=by
 unfold ZBH at e
 split at e
 ·cases e;rfl
 ·cases e
theorem ZEr{w:W}{ds:List PyData}(e:ZFh w=some ds):w=.dat (.tuple ds):=by
 unfold ZFh at e
 split at e
 ·cases e;rfl
 ·cases e
theorem ZAK{K:PySem.W.Frag}{ρ : Rh}{H:Hp}{v:V}{w:W}{i:Int}(r:Rel K ρ H v w)(e:ZBH w=some i):v=.int i:=by
 rw[ZHJ e] at r;cases r with
 |dat r=>cases r;rfl
def ZBM(a:DA):DI:=λsd g=>(a sd g).bind λp=>match p.1 with
 |[a]=>(ZBH a).bind λj=>if j<=1000/\-1000<=j then some (ZDC j.toNat 0,none,p.2) else none
 |[a,b]=>(ZBH a).bind λi=>(ZBH b).bind λj=>if (j<=1000/\-1000<=j)/\(i<=1000/\-1000<=i) then some (ZDC (j-i).toNat i,none,p.2) else none
 |_=>none
theorem ZGV{a:Expr}{da:DA}{p pos:Pos}(hg:Gl X "range")(hm:X.mg "range" = none)(ha:PA X [a] (tA X.K da))(hs:starEach [a] X.env=[(false,eval a X.env)]:=by rfl)(hn:Many da 1):PI X tg (.Call (.Name "range" p) [a] [] pos) (tI X.K (ZBM da)):=(ZGL hg hm ha hs).imp λσ H R ⟨ρ,sd,g,xs,src,g',r,e,q⟩=>by
 obtain⟨⟨ws,g1⟩,e1,e⟩:=bnd e;refine⟨ρ,sd,g,ws,g1,r,e1,λvs H1 ρ1 s1 h1 r1=>?_⟩;obtain⟨v,w,rfl,rfl,h⟩:=r1.one (hn.len e1);obtain⟨j,e2,e⟩:=bnd e;have:=ZAK h e2;subst this
 split at e
 ·rename_i hj
  cases e;exact⟨j,rfl,by omega,by omega,q _ H1 ρ1 s1 h1 ⟨trivial,ItOk.rng⟩⟩
 ·cases e
def ZER(a:DA):DI:=λsd g=>(a sd g).bind λp=>match p.1 with
 |[a,b]=>(ZFh a).bind λds=>(ZFh b).map λes=>(ZA8 ds es,none,p.2)
 |_=>none
theorem ZLK{a b:Expr}{da:DA}{p pos:Pos}(hg:Gl X "zip")(hm:X.mg "zip" = none)(ha:PA X [a,b] (tA X.K da))(hs:starEach [a,b] X.env=[(false,eval a X.env),(false,eval b X.env)]:=by rfl)(hs2:starEach [b] X.env=[(false,eval b X.env)]:=by rfl)(hn:Many da 2) :
  PI X tg (.Call (.Name "zip" p) [a,b] [] pos) (tI X.K (ZER da)):=(ZLi (q:=true) (qq:=true) hg hm ha hs hs2).imp λσ H R ⟨ρ,sd,g,xs,src,g',r,e,q⟩=>by
 obtain⟨⟨ws,g1⟩,e1,e⟩:=bnd e;refine⟨ρ,sd,g,ws,g1,r,e1,λvs H1 ρ1 s1 h1 r1=>?_⟩;obtain⟨v,v2,w,w2,rfl,rfl,h,h2⟩:=r1.two (hn.len e1);obtain⟨ds,e2,e⟩:=bnd e;obtain⟨es,e3,e⟩:=mp e;cases e;rw[ZEr e2] at h;rw[ZEr e3] at h2;cases h with
 |dat h=>cases h with
  |tup f1 t1=>cases h2 with
   |dat h2=>cases h2 with
    |tup f2 t2=>exact⟨_,_,rfl,⟨_,_,f1.sq,f2.sq⟩,q _ H1 ρ1 s1 h1 ⟨trivial,ItOk.zip f1 t1 f2 t2⟩⟩
end
end L2
namespace L2
open PySem PySem.Spec PyProof.Rows H1
open Classical in
noncomputable def ZA6{α : Type}(src:Option Nat)(xs:List PyData)(g:G)(k:Option α):Option α:=match src with|none=>k|some n=>if g[n]? = some (.pl xs) then k else none
theorem ZAs{α : Type}{src:Option Nat}{xs:List PyData}{g:G}{k:Option α}{y : α}(h:ZA6 src xs g k=some y):ZAC src xs g/\k=some y:=by
 unfold ZA6 at h;cases src with
 |none=>exact⟨trivial,h⟩
 |some n =>
  dsimp only at h
  split at h
  ·rename_i q;exact⟨q,h⟩
  ·cases h
noncomputable def ZA5(src:Option Nat)(xs:List PyData)(pt:Pat)(db:DS):List PyData->Sd->G->Option Out
 |[],sd,g=>some (.nx sd g)
 |x::r,sd,g=>(Zi pt (.dat x) sd).bind λsd1=>(db sd1 g).bind λo=>match o with
  |.nx sd2 g2=>ZA6 src xs g2 (ZA5 src xs pt db r sd2 g2)
  |.ct sd2 g2=>ZA6 src xs g2 (ZA5 src xs pt db r sd2 g2)
  |.bk sd2 g2=>some (.nx sd2 g2)
  |.rt y g2=>some (.rt y g2)
noncomputable def ZFE(pt:Pat)(di:DI)(db:DS):DS:=λsd g=>(di sd g).bind λt=>ZA5 t.2.1 t.1 pt db t.1 sd t.2.2
theorem allT(pt:Pat):pt.all (λ_=>true)=true:=Pat.rec (motive_1:=λp=>p.all (λ_=>true)=true) (motive_2:=λp=>p.all (λ_=>true)=true) (λi=>by rw[Pat.all]) (λps h=>by rw[Pat.all];exact h) (by rw[Pats.all]) (λp r h1 h2=>by rw[Pats.all,h1,h2];rfl) pt
section
variable{X:Cx}{tg iter:Expr}{pos:Pos}{di:DI}{pt:Pat}{db:DS}
theorem ZL6{body:List Stmt}(hp:PassesOwn (model X.prog X.w) X.A X.env X.xe)(hc:X.calm=true)(hi:PI X tg iter (tI X.K di))(hg:PG X tg (gP X.K pt))(hb:PSs X body (tS X.K db))
  (hs:∀x,foldedSetIterable iter X.env x=pure x:=by intro _;rfl):PS X (.For tg iter body [] pos) (tS X.K (ZFE pt di db)):=(ZKu hp hc hi hg hb hs).imp λD σ H ⟨ρ,sd,g,o,r,e,q⟩=>by
 obtain⟨⟨xs,src,g1⟩,e1,e⟩:=bnd e;refine⟨ρ,sd,g,xs,src,g1,r,e1,λJ H1 ρ1 s1 h1 ⟨so,it⟩=>?_⟩;refine⟨λi m σ' H'=>m=xs.length-i/\i<=xs.length/\∃ρ' sd' g',Stp ρ1 H1 ρ' H'/\Rst X.K ρ' H' σ' sd' g'/\ZAC src xs g'/\ZA5 src xs pt db (xs.drop i) sd' g'=some o,⟨xs.length,rfl,zero_le _,ρ1,sd,g1,.refl,r.step s1 h1,so,e⟩,?_⟩
 rintro i m σ' H' ⟨rfl,hi,ρ',sd',g',s',r',so',e'⟩
 obtain⟨hgo,hst⟩:=(it.mono s').use r'.hr so'
 by_cases hlt:i<xs.length
 ·rw[List.drop_eq_getElem_cons hlt] at e'
  rw[ZA5] at e';obtain⟨sd1,e2,e'⟩:=bnd e';obtain⟨o1,e3,e'⟩:=bnd e';obtain⟨hg1,hy⟩:=hgo i xs[i] (getElem?_eq_getElem hlt);refine .inr ⟨hg1,λσ2 H2=>∃ρ2 sd2 g2,Stp ρ1 H1 ρ2 H2/\Rst X.K ρ2 H2 σ2 sd2 g2/\ZAC src xs g2/\ZA5 src xs pt db (xs.drop (i+1)) sd2 g2=some o,λσ2 H2 ⟨ρ2,sd2,g2,k1,k2,k3,k4⟩=>⟨xs.length-(i+1),by omega,rfl,hlt,ρ2,sd2,g2,k1,k2,k3,k4⟩,λv H2 y=>?_⟩;obtain⟨sm,rv⟩:=hy v H2 y;have s2:Stp ρ' H' ρ' H2:=.same sm;refine ZDR (f:=λ_=>true) (allT pt) e2 (r'.step s2 (r'.hr.same sm)) (.dat rv) λσ3 r3 _=>⟨ρ',sd1,g',o1,r3,e3,?_⟩
  have s02:=s1.trans (s'.trans s2);cases o1 with
  |nx sd2 g2 =>
   obtain⟨so2,e4⟩:=ZAs e';exact λσ4 H4 ρ4 s4 r4=>⟨ρ4,sd2,g2,(s'.trans s2).trans s4,r4,so2,e4⟩
  |ct sd2 g2 =>
   obtain⟨so2,e4⟩:=ZAs e';exact λσ4 H4 ρ4 s4 r4=>⟨ρ4,sd2,g2,(s'.trans s2).trans s4,r4,so2,e4⟩
  |bk sd2 g2 =>
   cases e';exact ZDo.step q s02
  |rt y g2 =>
   cases e';exact ZDo.step q s02
 ·have ei:i=xs.length:=by omega
  subst ei;rw[drop_length,ZA5] at e';cases e';exact .inl ⟨hst _ (le_refl _),q σ' H' ρ' (s1.trans s') r'⟩
end
def ZGm(own:Nat)(cap:List Nat)(sd:Sd):Sd:=List.replicate own none++cap.map λj=>(sd[j]?).join
noncomputable def ZAB(src:Option Nat)(xs:List PyData)(pt:Pat)(dt:DB)(de:DE)(sd0:Sd):List PyData->G->Option (List PyData×G)
 |[],g=>some ([],g)
 |x::r,g=>(Zi pt (.dat x) sd0).bind λsd1=>(dt sd1 g).bind λb=>if b.1=true then (de sd1 b.2).bind λy=>match y.1 with
   |.dat d=>ZA6 src xs y.2 ((ZAB src xs pt dt de sd0 r y.2).map λq=>(d::q.1,q.2))
   |_=>none
  else ZA6 src xs b.2 (ZAB src xs pt dt de sd0 r b.2)
noncomputable def Ze(own:Nat)(cap:List Nat)(pt:Pat)(di:DI)(dt:DB)(de:DE):DE:=λsd g=>(di sd g).bind λt=>if t.1.length<=1000 then (ZAB t.2.1 t.1 pt dt de (ZGm own cap sd) t.1 t.2.2).map λp=>(.dat (.list p.1),p.2) else none
def ZA7:DB:=λ_ g=>some (true,g)
theorem ZJd{K:PySem.W.Frag}{ρ : Rh}{H:Hp}{σ : St}{sd:Sd}{g:G}(r:Rst K ρ H σ sd g)(own:Nat)(cap:List Nat):Rst K ρ H (ZC5 own cap σ) (ZGm own cap sd) g:=by
 refine⟨by unfold ZC5 ZGm;simp,λi x e=>?_,r.hr⟩;unfold ZGm at e;unfold ZC5
 by_cases hi:i<own
 ·rw[getElem?_append_left (by simpa using hi),getElem?_replicate] at e
  split at e <;> cases e
 ·rw[getElem?_append_right (by simpa using hi),length_replicate,getElem?_map] at e
  rw[getElem?_append_right (by simpa using hi),length_replicate,getElem?_map];obtain⟨j,e1,e⟩:=mp e;rw[e1];cases k:sd[j]? with
  |none=>rw[k] at e;cases e
  |some w =>
   rw[k] at e;have e:w=some x:=e;subst e;obtain⟨v,h1,h2⟩:=r.env j x k;exact⟨v,by show some ((σ[j]?).join)=_;rw[h1];rfl,h2⟩
theorem ZHI{own:Nat}{cap:List Nat}{σ : St}{i:Nat}(h:i<own):(ZC5 own cap σ)[i]? = some none:=by
 unfold ZC5;rw[getElem?_append_left (by simpa using h),getElem?_replicate,if_pos h]
theorem PTs.imp{X:Cx}{ifs:List Expr}{t u:TT}(h:PTs X ifs t)(k:∀σ H Q,u σ H Q->t σ H Q):PTs X ifs u:=λpins s σ H Q I q=>h pins s σ H Q I (k σ H Q q)
theorem ZIk{X:Cx}:PTs X [] (tT X.K ZA7):=ZJj.imp λσ H Q ⟨ρ,sd,g,b,g',r,e,q⟩=>by
 cases e;exact q H ρ .refl r.hr
theorem ZI9{X:Cx}{c:Expr}{d:DB}(h:PT X c (tT X.K d)):PTs X [c] (tT X.K d):=ZJW h
theorem Stp.grow{ρ ρ':Rh}{H H':Hp}{p:Addr}{o:HO}(hp:H p=none)(s:Stp ρ H ρ' H'):Stp ρ H ρ' (upd H' p o):=⟨s.pre,s.hid,λa u e n=>by rw[ZE (ZF e hp)];exact s.frm a u e n,s.fre,λa u e=>by rw[ZE (ZF e hp)];exact s.kd a u e⟩
theorem Stp.unhide{ρ ρ':Rh}{H H':Hp}{p:Addr}(s:Stp (ρ.hide p) H ρ' H'):Stp ρ H ⟨ρ'.c,ρ.h⟩ H'/\ρ'=(⟨ρ'.c,ρ.h⟩:Rh).hide p:=⟨⟨s.pre,rfl,s.frm,s.fre,s.kd⟩,by
 have:=s.hid;obtain⟨c,h⟩:=ρ';have e:h=p::ρ.h:=this
 subst e;rfl⟩
theorem Rst.hide{K:PySem.W.Frag}{ρ : Rh}{H:Hp}{σ : St}{sd:Sd}{g:G}{p:Addr}{o:HO}(hp:H p=none)(r:Rst K ρ H σ sd g):Rst K (ρ.hide p) (upd H p o) σ sd g:=⟨r.len,λi x e=>by
 obtain⟨v,h1,h2⟩:=r.env i x e;exact⟨v,h1,h2.hide hp⟩,r.hr.hide hp⟩
theorem Rst.grow{K:PySem.W.Frag}{ρ : Rh}{H:Hp}{σ : St}{sd:Sd}{g:G}{p:Addr}{o:HO}(hp:p∈ρ.h)(r:Rst K ρ H σ sd g):Rst K ρ (upd H p o) σ sd g:=⟨r.len,λi x e=>by
 obtain⟨v,h1,h2⟩:=r.env i x e;exact⟨v,h1,h2.grow hp⟩,r.hr.grow hp⟩
section
variable{X:Cx}{tg elt iter:Expr}{ifs:List Expr}{scope sc:Scope}{pos:Pos}{di:DI}{pt:Pat}{dt:DB}{de:DE}{N NX:List Str}{own:Nat}{cap:List Nat}
inductive CRun (so:G->Prop) (pt:Pat) (dt:DB) (de:DE) (sd0:Sd):List W->G->List W->G->Prop
 |nil {g:G}:CRun so pt dt de sd0 [] g [] g
 |yes {x:W} {r ys:List W} {y:W} {sd1:Sd} {g g1 g2 g3:G}:Zi pt x sd0=some sd1->dt sd1 g=some (true,g1)->de sd1 g1=some (y,g2)->so g2->CRun so pt dt de sd0 r g2 ys g3->CRun so pt dt de sd0 (x::r) g (y::ys) g3
 |no {x:W} {r ys:List W} {sd1:Sd} {g g1 g3:G}:Zi pt x sd0=some sd1->dt sd1 g=some (false,g1)->so g1->CRun so pt dt de sd0 r g1 ys g3->CRun so pt dt de sd0 (x::r) g ys g3
theorem ZF8{K:PySem.W.Frag}{Q:VK}{J:It}{IO:Rh->Hp->Prop}{so:G->Prop}{xs zs:List W}{ρ1:Rh}{H1:Hp}{σ0:St}{sd0:Sd}{g1 g2:G}{D:Addr}(hp:pt.all (λi=>decide (i<own))=true)
  (mono:∀{ρ H ρ' H'},Stp ρ H ρ' H'->IO ρ H->IO ρ' H')(grow:∀{ρ H o},D∈ρ.h->IO ρ H->IO ρ (upd H D o))
  (use:∀{ρ H g},IO ρ H->HR K ρ H g->so g->(∀(i:Nat) x,xs[i]? = some x->J.go i H/\∀v H2,J.yld i H v H2->Same H H2/\Rel K ρ H2 v x)/\∀i,xs.length<=i->J.stop i H)
  (hz:xs.length<=1000)(hD:H1 D=none)(r1:Rst K ρ1 H1 σ0 sd0 g1)(hσ : ∀i,i<own->σ0[i]? = some none)(so1:so g1)(io:IO (ρ1.hide D) (upd H1 D (.lst [])))(run:CRun so pt dt de sd0 xs g1 zs g2)
  (fin:∀acc H' ρ',Stp ρ1 H1 ρ' H'->HR K (ρ'.hide D) H' g2->H' D=some (.lst acc)->RelL K (ρ'.hide D) H' acc zs->Q (.ref D) H'):ZFd J (gP K pt) (tT K dt) (tE K de) σ0 D Q (upd H1 D (.lst [])):=by
 have hDm:∀{ρx:Rh},D∈(ρx.hide D).h:=λ{ρx}=>mem_cons_self ..
 refine⟨λi m acc H'=>m=xs.length-i/\i<=xs.length/\acc.length<=i/\∃ρ' g' ads ys,Stp ρ1 H1 ρ' H'/\Rst K (ρ'.hide D) H' σ0 sd0 g'/\so g'/\H' D=some (.lst acc)/\RelL K (ρ'.hide D) H' acc ads/\IO (ρ'.hide D) H'/\CRun so pt dt de sd0 (xs.drop i) g' ys g2/\ads++ys=zs,⟨xs.length,rfl,zero_le _,le_refl _,ρ1,g1,[],zs,.same (_root_.H1.Same.upd hD),r1.hide hD,so1,ZG,.nil,io,run,rfl⟩,?_⟩
 rintro i m acc H' ⟨rfl,hi,ha,ρ',g',ads,ys,s',r',so',hacc,ra,it',e',ez⟩
 obtain⟨hgo,hst⟩:=use it' r'.hr so'
 by_cases hlt:i<xs.length
 ·rw[List.drop_eq_getElem_cons hlt] at e'
  obtain⟨hg1,hy⟩:=hgo i xs[i] (getElem?_eq_getElem hlt);refine .inr ⟨hg1,λacc2 H2=>acc2.length<=i+1/\∃ρ' g' ads ys,Stp ρ1 H1 ρ' H2/\Rst K (ρ'.hide D) H2 σ0 sd0 g'/\so g'/\H2 D=some (.lst acc2)/\RelL K (ρ'.hide D) H2 acc2 ads/\IO (ρ'.hide D) H2/\CRun so pt dt de sd0 (xs.drop (i+1)) g' ys g2/\ads++ys=zs,λacc2 H2 ⟨k0,k⟩=>⟨xs.length-(i+1),by omega,rfl,hlt,k0,k⟩,λv H2 y=>?_⟩;obtain⟨sm,rv⟩:=hy v H2 y;have s2:Stp (ρ'.hide D) H' (ρ'.hide D) H2:=.same sm;cases e' with
  |no e2 e3 so3 e4 =>
   refine ZDR (f:=λi=>decide (i<own)) hp e2 (r'.step s2 (r'.hr.same sm)) rv λσ3 r3 kp=>⟨?_,ρ'.hide D,_,g',_,_,r3,e3,λH3 ρ3 s3 h3=>?_⟩
   ·exact⟨kp.1,λi v e=>by
     by_cases hi:i<own
     ·rw[hσ i hi] at e;cases e
     ·rw[kp.2 i (decide_eq_false hi)];exact e⟩
   have s23:=s2.trans s3;obtain⟨u3,e3h⟩:=s23.unhide;have hD3:H3 D=some (.lst acc):=s23.frm _ _ hacc (r'.hr.hid D hDm).1;rw[e3h] at h3 s23;refine iteF ?_;exact⟨Nat.le_succ_of_le ha,⟨ρ3.c,ρ'.h⟩,_,ads,ys,s'.trans u3,r'.step s23 h3,so3,hD3,ra.mono s23,mono s23 it',e4,ez⟩
  |@yes _ _ ys' w sd1 _ g3 g4 _ e2 e3 e4 so4 e6 =>
   refine ZDR (f:=λi=>decide (i<own)) hp e2 (r'.step s2 (r'.hr.same sm)) rv λσ3 r3 kp=>⟨?_,ρ'.hide D,_,g',_,_,r3,e3,λH3 ρ3 s3 h3=>?_⟩
   ·exact⟨kp.1,λi v e=>by
     by_cases hi:i<own
     ·rw[hσ i hi] at e;cases e
     ·rw[kp.2 i (decide_eq_false hi)];exact e⟩
   have s23:=s2.trans s3;obtain⟨u3,e3h⟩:=s23.unhide;have hD3:H3 D=some (.lst acc):=s23.frm _ _ hacc (r'.hr.hid D hDm).1;have r3':=r3.step s3 h3;rw[e3h] at r3' h3 s3 s23;refine iteT ?_;refine⟨(⟨ρ3.c,ρ'.h⟩:Rh).hide D,sd1,g3,w,g4,r3',e4,λy4 H4 ρ4 s4 h4 r4=>?_⟩;obtain⟨u4,e4h⟩:=s4.unhide;rw[e4h] at h4 r4 s4;have s24:=s23.trans s4;have hD4:H4 D=some (.lst acc):=s4.frm _ _ hD3 (h3.hid D hDm).1;refine⟨hD4,Nat.lt_of_le_of_lt ha (Zc (by omega)),?_⟩;refine⟨by rw[length_append];exact Nat.add_le_add_right ha 1,⟨ρ4.c,ρ'.h⟩,g4,ads++[w],ys',((s'.trans u3).trans u4).grow hD,(r'.step s24 h4).grow hDm,so4,ZG,((ra.mono s24).append (.cons r4 .nil)).grow hDm,grow hDm (mono s24 it'),e6,?_⟩;rw[append_assoc];exact ez
 ·have ei:i=xs.length:=by omega
  subst ei;rw[drop_length] at e';cases e';rw[append_nil] at ez;subst ez;exact .inl ⟨hst _ (le_refl _),fin acc H' ρ' s' r'.hr hacc ra⟩
theorem ZE7{src:Option Nat}{xs:List PyData}{sd0:Sd}{g2:G}:∀{r ys:List PyData} {g:G},ZAB src xs pt dt de sd0 r g=some (ys,g2)->CRun (ZAC src xs) pt dt de sd0 (r.map .dat) g (ys.map .dat) g2
 |[],_,_,e=>by
  rw[ZAB] at e;cases e;exact .nil
 |x::r,ys,g,e=>by
  rw[ZAB] at e;obtain⟨sd1,e2,e⟩:=bnd e;obtain⟨⟨b,g3⟩,e3,e⟩:=bnd e;cases b with
  |false =>
   rw[if_neg Bool.false_ne_true] at e;obtain⟨so,e⟩:=ZAs e;exact .no e2 e3 so (ZE7 e)
  |true =>
   rw[if_pos rfl] at e;obtain⟨⟨w,g4⟩,e4,e⟩:=bnd e;dsimp only at e
   split at e
   ·obtain⟨so,e⟩:=ZAs e
    obtain⟨⟨ys',g5⟩,e6,e⟩:=mp e;cases e;exact .yes e2 e3 e4 so (ZE7 e6)
   ·cases e
theorem RelL.dats{K:PySem.W.Frag}{ρ : Rh}{H:Hp}:∀{ds:List PyData} {vs:List V},RelL K ρ H vs (ds.map .dat)->RelDL K ρ H vs ds
 |[],_,.nil=>.nil
 |_::_,_,.cons (.dat h) t=>.cons h (RelL.dats t)
theorem ItOk.useW{K:PySem.W.Frag}{ρ : Rh}{H:Hp}{g:G}{J:It}{xs:List PyData}{src:Option Nat}(it:ItOk K ρ H J xs src)(h:HR K ρ H g)(so:ZAC src xs g):(∀(i:Nat) x,(xs.map W.dat)[i]? = some x->J.go i H/\∀v H2,J.yld i H v H2->Same H H2/\Rel K ρ H2 v x)/\∀i,(xs.map W.dat).length<=i->J.stop i H:=by
 obtain⟨a,b⟩:=it.use h so;refine⟨λi x e=>?_,λi hi=>b i (by rwa [length_map] at hi)⟩;rw[getElem?_map] at e;obtain⟨d,e2,rfl⟩:=mp e;exact⟨(a i d e2).1,λv H2 y=>⟨((a i d e2).2 v H2 y).1,.dat ((a i d e2).2 v H2 y).2⟩⟩
theorem ZJT{K:PySem.W.Frag}{Q:VK}{ρ ρ1 ρ':Rh}{H H1 H':Hp}{D:Addr}{acc:List V}{ds:List PyData}{g1 g2:G}(hD:H1 D=none)(h1:HR K ρ1 H1 g1)(q:Pv K ρ H (.dat (.list ds)) g2 Q)(s1:Stp ρ H ρ1 H1)(s':Stp ρ1 H1 ρ' H')(hr:HR K (ρ'.hide D) H' g2)(hacc:H' D=some (.lst acc))(ra:RelL K (ρ'.hide D) H' acc (ds.map .dat)):Q (.ref D) H':=by
 have hnh:D∉ρ1.h:=λz=>h1.nin hD (.inr z)
 refine q _ H' ρ' (s1.trans s') hr.shown (.dat (.lst hacc (λz=>?_) (ra.dats.less (ρ':=ρ') (ρ:=ρ'.hide D) λ_ z=>z.elim .inl λq=>.inr (mem_cons_of_mem _ q))));rcases z with z|z
 ·exact(hr.hid D (mem_cons_self ..)).1 z
 ·rw[s'.hid] at z
  exact hnh z
theorem ZFb{K:PySem.W.Frag}{σ : St}{H:Hp}{Q:VK}(hp:pt.all (λi=>decide (i<own))=true)(h:tE K (Ze own cap pt di dt de) σ H Q):ZIT own cap (tI K di) (gP K pt) (tT K dt) (tE K de) σ H Q:=by
 obtain⟨ρ,sd,g,x,gz,r,e,q⟩:=h;obtain⟨⟨xs,src,g1⟩,e1,e⟩:=bnd e;dsimp only at e
 split at e
 ·rename_i hz
  obtain⟨⟨zs,g2⟩,e2,e⟩:=mp e;cases e;exact⟨ρ,sd,g,xs,src,g1,r,e1,λJ H1 ρ1 s1 h1 ⟨so,it⟩ D hD=>ZF8 hp (IO:=λρ H=>ItOk K ρ H J xs src) (λs i=>i.mono s) (λh i=>i.grow h) (λi h s=>i.useW h s) (by rw[length_map];exact hz) hD (ZJd (r.step s1 h1) own cap) (λi hi=>ZHI hi) so (it.hide hD) (ZE7 e2) λacc H' ρ' s' hr hacc ra=>ZJT hD h1 q s1 s' hr hacc ra⟩
 ·cases e
theorem ZI4(hc:X.calm=true)(hi:PI X tg iter (tI X.K di))(hsc:X.env.scope=sc)(hNX:X.N=NX)
  (hb:∀cl C s0 H0 fp,PG (blk X N (compEnvC scope cl C X.env) s0 H0 fp) tg (gP X.K pt)/\PTs (blk X N (compEnvC scope cl C X.env) s0 H0 fp) ifs (tT X.K dt)/\PE (blk X N (compEnvC scope cl C X.env) s0 H0 fp) elt (tE X.K de))
  (co:ZC8 sc scope NX N own cap=true)(hp:pt.all (λi=>decide (i<own))=true)(hs:∀x,foldedSetIterable iter X.env x=pure x:=by intro _;rfl):PE X (.ListComp elt [⟨tg,iter,ifs,0⟩] scope pos) (tE X.K (Ze own cap pt di dt de)) :=
 (ZIf hc hi hsc hNX hb co hs).imp λ_ _ _ h=>ZFb hp h
theorem ZJz{i:Nat}{x:Str}{py spos:Pos}(hN:X.N.Nodup)(hi:X.N[i]? = some x)(hx:Loc X.env.scope x)(hc:X.calm=true)(hit:PI X tg iter (tI X.K di))(hsc:X.env.scope=sc)(hNX:X.N=NX)
  (hb:∀cl C s0 H0 fp,PG (blk X N (compEnvC scope cl C X.env) s0 H0 fp) tg (gP X.K pt)/\PTs (blk X N (compEnvC scope cl C X.env) s0 H0 fp) ifs (tT X.K dt)/\PE (blk X N (compEnvC scope cl C X.env) s0 H0 fp) elt (tE X.K de))
  (co:ZC8 sc scope NX N own cap=true)(hp:pt.all (λi=>decide (i<own))=true)(hsw:swapsWith (.ListComp elt [⟨tg,iter,ifs,0⟩] scope pos) (some (.Name x py)) spos.line X.env=pure true:=by rfl)(hs:∀x,foldedSetIterable iter X.env x=pure x:=by intro _;rfl)
  (hf:X.fn x=true∨X.env.scope.names.lookup x=some .local:=by first|exact .inl rfl|exact .inr rfl|assumption) :
  PS X (.Assign [.Name x py] (.ListComp elt [⟨tg,iter,ifs,0⟩] scope pos) spos) (tS X.K (ZAH i (Ze own cap pt di dt de))):=(ZI6 hN hi hx hc hit hsc hNX hb co hsw hs hf).imp λD σ H ⟨ρ,sd,g,o,r,e,q⟩=>by
 obtain⟨⟨y,g1⟩,e1,e⟩:=bnd e;cases e;exact ZFb hp ⟨ρ,sd,g,y,g1,r,e1,λv H1 ρ1 s1 h1 r1=>q _ H1 ρ1 s1 ((r.step s1 h1).set r1 i)⟩
end
def ZAA(n:Nat)(d:DS)(ws:List W)(g:G):Option (W×G):=match d (ws.map some++List.replicate (n-ws.length) none) g with
 |some (.rt x g')=>some (x,g')
 |some (.nx _ g')=>some (.dat .none,g')
 |_=>none
theorem ZDX{K:PySem.W.Frag}{ρ : Rh}{H:Hp}{g:G}(h:HR K ρ H g)(k:Nat):∀{vs:List V} {ws:List W},RelL K ρ H vs ws->Rst K ρ H (vs.map some++List.replicate k none) (ws.map some++List.replicate k none) g
 |_,_,.nil=>by
  refine⟨by simp,λi x e=>?_,h⟩;simp only[map_nil,nil_append] at e;rw[getElem?_replicate] at e
  split at e <;> cases e
 |v::vs,w::ws,.cons r t=>by
  have q:=ZDX h k t;refine⟨by have:=q.len;simp at this ⊢;exact this,λi x e=>?_,h⟩;cases i with
  |zero=>simp at e;subst e;exact⟨v,by simp,r⟩
  |succ i =>
   simp at e;obtain⟨u,h1,h2⟩:=q.env i x (by simpa using e);exact⟨u,by simpa using h1,h2⟩
theorem ZLM{P:Program}{w:World}{K:PySem.W.Frag}{mg:Str->Option Value}{base:Heap}{x qual:Str}{st:Stmt}{f:Addr}{fd:FuncData}{N ps:List Str}{k:Nat}{d:DS}(F:Fun K x qual st f fd)(S:FnScope N ps (ZD st))
  (hb:∀(cdv:Value) (A:Around) (outer:List Env) (s:Shared) (H:Hp) (E:XK),Room k (A.deeper (envOfC qual (ZD st) s.heap.objs.size f cdv))->PSs (ZEw CX0 P w K mg base N qual (ZD st) f cdv A outer s H E).nox (Z5 st) (tS K d)) :
  FnOk P w K mg base CX0 (k+1) f fd ps (spD K ps.length (ZAA N.length d)):=by
 refine F.ok S (λvs H Q E h=>h.1) (λcdv A outer s H vs Q E hr h=>⟨_,hb cdv A outer s H E hr,?_⟩);obtain⟨hl,ρ,ws,g,z,gz,hR,rl,e,q⟩:=h;unfold ZAA at e;have hlw:=rl.length;unfold ZBq;rw[hlw];cases ho:d (ws.map some++List.replicate (N.length-ws.length) none) g with
 |none=>rw[ho] at e;cases e
 |some o =>
  rw[ho] at e;refine⟨ρ,_,g,o,ZDX hR _ rl,ho,?_⟩;cases o with
  |nx sd g' =>
   cases e;intro σ' H' ρ' s' r';exact q .non H' ρ' s' r'.hr (.dat .non)
  |rt y g' =>
   cases e;exact q
  |bk _ _=>cases e
  |ct _ _=>cases e
end L2
namespace L2
open PySem PySem.Spec PyProof.Rows H1
mutual
theorem RelD.reads{X:Cx}{pins:List (Addr×Obj)}{σ : St}{ρ : Rh}{H:Hp}{s:Shared}(I:Inv X pins σ H s):∀{v:V} {d:PyData} {u:Value},RelD X.K ρ H v d->d.canLay0=true->ZS v u->∃as,Reads s.heap u d as
 |_,_,_,.non,_,r=>by cases r;exact⟨_,.none⟩
 |_,_,_,.bl b,_,r=>by cases r;exact⟨_,.bool b⟩
 |_,_,_,.int i,_,r=>by obtain⟨t,rfl⟩:=r;exact⟨_,.int i t⟩
 |_,_,_,.str x,_,r=>by obtain⟨t,rfl⟩:=r;exact⟨_,.str x t⟩
 |_,_,_,.tup h hl,c,r=>by
  cases r;obtain⟨its,rv,⟨o,ho,hc,n,hd⟩,_⟩:=I.tuple h.sq;obtain⟨as,ra⟩:=RelDL.reads I hl (by rw[PyData.canLay0] at c;exact c) rv;exact⟨as,.tuple ho hc hd (by simpa using ra)⟩
 |_,_,_,.lst h _ hl,c,r=>by
  cases r;obtain⟨_,its,n,rv,e⟩:=I.hok _ _ h;obtain⟨as,ra⟩:=RelDL.reads I hl (by rw[PyData.canLay0] at c;exact c) rv;exact⟨_,.list e rfl rfl (by simpa using ra)⟩
 |_,_,_,.dct h _,c,r=>by rw[PyData.canLay0] at c;cases c
theorem RelDL.reads{X:Cx}{pins:List (Addr×Obj)}{σ : St}{ρ : Rh}{H:Hp}{s:Shared}(I:Inv X pins σ H s):∀{vs:List V} {ds:List PyData} {us:List Value},RelDL X.K ρ H vs ds->PyData.canLayAll0 ds=true->ZI vs us->∃as,ReadsAll s.heap us ds as
 |_,_,_,.nil,_,r=>by cases r;exact⟨_,.nil⟩
 |_,_,_,.cons h hl,c,r=>by
  rw[PyData.canLayAll0,Bool.and_eq_true] at c;cases r with
  |cons r1 r2 =>
   obtain⟨as,ra⟩:=RelD.reads I h c.1 r1;obtain⟨bs,rb⟩:=RelDL.reads I hl c.2 r2;exact⟨_,.cons ra rb⟩
end
def Zz:W->G->Option (List PyData)
 |.dat (.list ds),_=>some ds
 |.ref n,g=>lk g n
 |_,_=>none
theorem Zp{K:PySem.W.Frag}{ρ : Rh}{H:Hp}{g:G}{v:V}{w:W}{ds:List PyData}(hR:HR K ρ H g)(r:Rel K ρ H v w)(e:Zz w g=some ds):∃a vs,v=.ref a/\H a=some (.lst vs)/\RelDL K ρ H vs ds:=by
 cases r with
 |ty=>cases e
 |exc _=>cases e
 |tup _ _=>cases e
 |inp _=>cases e
 |ref h =>
  obtain⟨a,vs,h1,h2,h3⟩:=hR.at_ _ _ (ZEK e);rw[h] at h1;cases h1;exact⟨_,vs,rfl,h2,h3⟩
 |dat h =>
  cases h with
  |lst h n t=>cases e;exact⟨_,_,rfl,h,t⟩
  |_=>cases e
theorem Pv.at{K:PySem.W.Frag}{ρ : Rh}{H:Hp}{g:G}{x:W}{v:V}{Q:VK}(q:Pv K ρ H x g Q)(h:HR K ρ H g)(r:Rel K ρ H v x):Q v H:=q v H ρ .refl h r
theorem Pv.new{K:PySem.W.Frag}{ρ : Rh}{H:Hp}{g:G}{ds:List PyData}{vs:List V}{Q:VK}(q:Pv K ρ H (.dat (.list ds)) g Q)(h:HR K ρ H g)(r:RelDL K ρ H vs ds){p:Addr}(hp:H p=none):Q (.ref p) (upd H p (.lst vs)):=by
 obtain⟨sm,hr2,hn⟩:=ZAa (o:=.lst vs) h hp;exact q _ _ ρ (.same sm) hr2 (.dat (.lst ZG hn (r.mono (.same sm))))
theorem Pv.newT{K:PySem.W.Frag}{ρ : Rh}{H:Hp}{g:G}{ds:List PyData}{vs:List V}{Q:VK}(q:Pv K ρ H (.dat (.tuple ds)) g Q)(h:HR K ρ H g)(r:RelDL K ρ H vs ds){p:Addr}(hp:H p=none):Q (.ref p) (upd H p (.tup vs)):=by
 obtain⟨sm,hr2,hn⟩:=ZAa (o:=.tup vs) h hp;exact q _ _ ρ (.same sm) hr2 (.dat (.tup (.inl ⟨.inl ZG,hn⟩) (r.mono (.same sm))))
def ZAQ:W->W->G->Option (W×G)
 |.dat (.int i),.dat (.int j),g=>some (.dat (.int (i+j)),g)
 |.dat (.tuple xs),.dat (.tuple ys),g=>if xs.length+ys.length<=1000 then some (.dat (.tuple (xs++ys)),g) else none
 |.dat (.str a),.dat (.str b),g=>if a.length+b.length<=1000 then some (.dat (.str (a++b)),g) else none
 |a,b,g=>(Zz a g).bind λxs=>(Zz b g).bind λys=>if xs.length+ys.length<=1000 then some (.dat (.list (xs++ys)),g) else none
def opZ(c:Int->Int->Bool)(f:Int->Int->PyData):W->W->G->Option (W×G)
 |.dat (.int i),.dat (.int j),g=>if c i j=true then some (.dat (f i j),g) else none
 |_,_,_=>none
def ZAi:=opZ (λ_ j=>decide (0<j)) λi j=>.int (i % j)
def ZBs:=opZ (λ_ j=>decide (0<j) && decide (j<2 ^ 64)) λi j=>.int (i / j)
def ZFH(i j:Int):Bool:=(decide (-(2 ^ 64)<i) && decide (i<2 ^ 64)) || (decide (-(2 ^ 64)<j) && decide (j<2 ^ 64))
def mulA:W->Int->G->Option (W×G)
 |.dat (.int i),j,g=>if ZFH i j=true then some (.dat (.int (i*j)),g) else none
 |.dat (.tuple xs),k,g=>if ((decide (2<=k) && decide (k<=20)) && (!xs.isEmpty && decide (xs.length<=20)))=true then some (.dat (.tuple (List.replicate k.toNat xs).flatten),g) else none
 |a,k,g=>(Zz a g).bind λxs=>if k<=1000/\-1000<=k/\xs.length<=1000 then some (.dat (.list (List.replicate k.toNat xs).flatten),g) else none
def ZBT(a b:W)(g:G):Option (W×G):=(ZBH b).bind λk=>mulA a k g
section
variable{X:Cx}
theorem oAdd:OpR X (binaryOp .Add) (rOp X.K ZAQ):=by
 intro pins s σ H x y v u Q I rx ry h;obtain⟨ρ,a,b,g,z,g',hR,ra,rb,e,q⟩:=h;have lists:((Zz a g).bind λxs=>(Zz b g).bind λys=>if xs.length+ys.length<=1000 then some (W.dat (.list (xs++ys)),g) else none)=some (z,g')->wpAny (model X.prog X.w) X.A (binaryOp .Add v u) (EP X pins σ Q) X.xe s:=λe=>by
  obtain⟨xs,e1,e⟩:=bnd e;obtain⟨ys,e2,e⟩:=bnd e;obtain⟨l,vs,rfl,h1,t1⟩:=Zp hR ra e1;obtain⟨l',us,rfl,h2,t2⟩:=Zp hR rb e2
  split at e
  ·rename_i hz
   cases e;exact ZLI pins s σ H _ _ v u Q I rx ry ⟨l,l',vs,us,rfl,rfl,h1,h2,by rw[t1.length,t2.length];exact le_of_lt (Zc hz),λp hp=>q.new hR (t1.append t2) hp⟩
  ·cases e
 cases ra with
 |ref h=>exact lists e
 |inp h=>exact lists e
 |ty=>cases e
 |exc _=>cases e
 |tup _ _=>cases e
 |dat ra =>
  cases ra with
  |int i =>
   cases rb with
   |dat rb =>
    cases rb with
    |int j=>cases e;exact ZMB pins s σ H _ _ v u Q I rx ry ⟨i,j,rfl,rfl,q.at hR (.dat (.int _))⟩
    |_=>cases e
   |_=>cases e
  |str i =>
   cases rb with
   |dat rb =>
    cases rb with
    |str j =>
     change (if i.length+j.length<=1000 then some (W.dat (.str (i++j)),g) else none)=some (z,g') at e
     split at e
     ·rename_i hz
      cases e;exact ZFD pins s σ H _ _ v u Q I rx ry ⟨i,j,rfl,rfl,le_of_lt (Zc hz),q.at hR (.dat (.str _))⟩
     ·cases e
    |_=>cases e
   |_=>cases e
  |@tup a1 xs ds f1 t1 =>
   cases rb with
   |dat rb =>
    cases rb with
    |@tup a2 ys es f2 t2 =>
     change (if ds.length+es.length<=1000 then some (W.dat (.tuple (ds++es)),g) else none)=some (z,g') at e
     split at e
     ·rename_i hz
      cases e;have hz':xs.length+ys.length<=sizeLine:=by rw[t1.length,t2.length];exact le_of_lt (Zc hz)
      cases rx;cases ry;obtain⟨its,r1,p1,_⟩:=I.tuple f1.sq;obtain⟨its2,r2,p2,_⟩:=I.tuple f2.sq;refine HT.cat_tupA p1 p2 (λz=>⟨.ref a2,H,I,rfl,q.at hR (.dat ?_)⟩) (λ_ z=>⟨.ref a1,H,I,rfl,q.at hR (.dat ?_)⟩) (λ_ z=>?_) (by rw[←r1.length,←r2.length];exact hz')
      ·have:=r1.nil_iff.mp z
       subst this
       cases t1;exact .tup f2 t2
      ·have:=r2.nil_iff.mp z
       subst this
       cases t2;rw[append_nil];exact .tup f1 t1
      ·exact⟨.ref s.heap.objs.size,_,I.laid (t':=s.toks) (o:=.tup (xs++ys)) (λb ob q=>get?_push_of_some _ q) (le_refl _) ⟨by rw[length_append];exact hz',_,r1.append r2,IsTup.new _ _⟩,rfl,q.newT hR (t1.append t2) (I.hok.fresh (le_refl _))⟩
     ·cases e
    |_=>cases e
   |_=>cases e
  |lst h n t=>exact lists e
  |_=>cases e
theorem oI{op:Operator}{C:Int->Int->Prop}{c:Int->Int->Bool}{f:Int->Int->Int}(h:OpR X (binaryOp op) (rI C λi j=>.int (f i j)))(hc:∀i j,c i j=true->C i j):OpR X (binaryOp op) (rOp X.K (opZ c λi j=>.int (f i j))):=by
 intro pins s σ H x y v u Q I rx ry hh;obtain⟨ρ,a,b,g,z,g',hR,ra,rb,e,q⟩:=hh;cases ra with
 |dat ra =>
  cases ra with
  |int i =>
   cases rb with
   |dat rb =>
    cases rb with
    |int j =>
     change (if c i j=true then some (W.dat (.int (f i j)),g) else none)=some (z,g') at e
     split at e
     ·rename_i hz
      cases e;exact h pins s σ H _ _ v u Q I rx ry ⟨i,j,rfl,rfl,hc i j hz,q.at hR (.dat (.int _))⟩
     ·cases e
    |_=>cases e
   |_=>cases e
  |_=>cases e
 |_=>cases e
theorem oMod:OpR X (binaryOp .Mod) (rOp X.K ZAi):=oI ZKT λi j h=>of_decide_eq_true h
theorem oFdiv:OpR X (binaryOp .FloorDiv) (rOp X.K ZBs):=oI ZHt λi j h=>by
 rw[Bool.and_eq_true] at h;exact⟨of_decide_eq_true h.1,of_decide_eq_true h.2⟩
theorem ZJS{i j:Int}(h:ZFH i j=true):ZJD i j:=by
 unfold ZFH at h;rw[Bool.or_eq_true,Bool.and_eq_true,Bool.and_eq_true] at h;rcases h with h|h
 ·exact .inl ⟨of_decide_eq_true h.1,of_decide_eq_true h.2⟩
 ·exact .inr ⟨of_decide_eq_true h.1,of_decide_eq_true h.2⟩
theorem ZFf:OpR X (binaryOp .Mult) (λx y H Q=>∃(a:Addr) (k:Int) (xs:List V),x=.ref a/\y=.int k/\SqT X.K H a xs/\(2<=k/\k<=400)/\(xs≠[]/\k.toNat*xs.length<=400)/\∀p,H p=none->Q (.ref p) (upd H p (.tup (List.replicate k.toNat xs).flatten))):=by
 intro pins s σ H x y v u Q I rx ry h;obtain⟨a,k,xs,rfl,rfl,ha,⟨k2,k20⟩,⟨hne,h20⟩,q⟩:=h;cases rx;obtain⟨t,rfl⟩:=ry;obtain⟨its,r,p1,_⟩:=I.tuple ha;obtain⟨⟨cls,dd,data,sl⟩,ho,hc,n,hd⟩:=id p1;simp only at hc hd;subst hc hd;have hlen:its.length=xs.length:=r.length.symm;have hine:its.toArray.isEmpty=false:=by
  cases its with
  |nil=>exact absurd (r.nil_iff.mp rfl) hne
  |cons _ _=>rfl
 have hmul:(List.replicate k.toNat xs).flatten.length<=400:=by
  rw[ZD0];exact h20
 have hnew:List.foldl (λx1 x2=>x1++x2) #[] (List.replicate k.toNat its.toArray)=(List.replicate k.toNat its).flatten.toArray:=by
  have:=ZBv its k.toNat [];rw[nil_append] at this
  exact this
 have hmI:(its.toArray.size:Int)*k<=400:=by
  rw[size_toArray,hlen];have e:((k.toNat*xs.length:Nat):Int)=(xs.length:Int)*k:=by rw[Int.natCast_mul,Int.toNat_of_nonneg (by omega),Int.mul_comm]
  rw[←e];omega
 refine wpAny_binaryOp_repeat_ref (T:="tuple") (U:="int") (by decide) ⟨_,ho,rfl⟩ (λs'=>typeIs_int s' k t) HT.noFill_tuple_mul F.fills_int_mul F.slot_int_rmul HT.repeat_tuple F.slot_int_index.lookup
  (call_meets F.slot_int_rmul (typeIs_int s k t) F.entry_int_rmul (F.args_int_rmul_2 _ _) (HT.rmul_tup k t a its.toArray n dd sl)
   ⟨ho,rfl,⟨_,ho,rfl⟩,call_meets F.slot_tuple_mul ⟨_,ho,rfl⟩ F.entry_tuple_mul (F.args_tuple_mul_2 _ _) (HT.tuple_mulW a its.toArray n dd sl k t ?_ ?_ ?_ ?_ ?_ ?_) ⟨ho,?_⟩⟩)
 ·simp;omega
 ·rw[hine];simp;omega
 ·rw[hine];simp;omega
 ·omega
 ·unfold Builtin.Tuple.tupleTooMany
  have:(400:Int)<=(sizeLine:Int):=by decide
  rw[decide_eq_true_iff];omega
 ·rw[hnew,size_toArray,←(r.rep k.toNat).length]
  exact le_trans hmul (by decide)
 rw[hnew];exact⟨.ref s.heap.objs.size,_,I.laid (t':=s.toks) (o:=.tup (List.replicate k.toNat xs).flatten) (λb ob q=>get?_push_of_some _ q) (le_refl _) ⟨le_trans hmul (by decide),_,r.rep k.toNat,IsTup.new _ _⟩,rfl,q _ (I.hok.fresh (le_refl _))⟩
theorem oMul:OpR X (binaryOp .Mult) (rOp X.K ZBT):=by
 intro pins s σ H x y v u Q I rx ry h;obtain⟨ρ,a,b,g,z,g',hR,ra,rb,e,q⟩:=h;have lists:∀{k:Int},y=.int k->((Zz a g).bind λxs=>if k<=1000/\-1000<=k/\xs.length<=1000 then some (W.dat (.list (List.replicate k.toNat xs).flatten),g) else none)=some (z,g')->wpAny (model X.prog X.w) X.A (binaryOp .Mult v u) (EP X pins σ Q) X.xe s:=λ{k} hy e=>by
  obtain⟨xs,e1,e⟩:=bnd e;obtain⟨l,vs,rfl,h1,t1⟩:=Zp hR ra e1
  split at e
  ·rename_i hz
   obtain⟨z1,z2,z3⟩:=hz;cases e;refine ZKO pins s σ H _ _ v u Q I rx ry ⟨l,k,vs,rfl,hy,h1,by omega,by omega,?_,λp hp=>q.new hR (t1.rep _) hp⟩;rw[t1.length];exact le_trans (Nat.mul_le_mul z3 (show k.toNat<=1000 by omega)) (by decide)
  ·cases e
 obtain⟨j,e0,e⟩:=bnd e;have:=ZAK rb e0;subst this
 cases ra with
 |dat ra =>
  cases ra with
  |int i =>
   change (if ZFH i j=true then some (W.dat (.int (i*j)),g) else none)=some (z,g') at e
   split at e
   ·rename_i hz
    cases e;exact ZKb pins s σ H _ _ v u Q I rx ry ⟨i,j,rfl,rfl,ZJS hz,q.at hR (.dat (.int _))⟩
   ·cases e
  |@tup a1 xs ds f1 t1 =>
   change (if ((decide (2<=j) && decide (j<=20)) && (!ds.isEmpty && decide (ds.length<=20)))=true then some (W.dat (.tuple (List.replicate j.toNat ds).flatten),g) else none)=some (z,g') at e
   split at e
   ·rename_i hz
    cases e;simp only[Bool.and_eq_true,decide_eq_true_eq,Bool.not_eq_true'] at hz;obtain⟨⟨z1,z2⟩,z3,z4⟩:=hz;refine ZFf pins s σ H _ _ v u Q I rx ry ⟨a1,j,xs,rfl,rfl,f1.sq,⟨z1,by omega⟩,⟨λz=>?_,by rw[t1.length];exact le_trans (Nat.mul_le_mul (show j.toNat<=20 by omega) z4) (by decide)⟩,λp hp=>q.newT hR (t1.rep _) hp⟩;subst z;cases t1;cases z3
   ·cases e
  |_=>exact lists rfl e
 |_=>exact lists rfl e
end
def ok0(d:PyData):Bool:=d.canLay0 && decide (d.depth<=40)
def ZB7:W->G->Option PyData
 |.dat d,_=>some d
 |.ref n,g=>(lk g n).map .list
 |_,_=>none
def ZBt(a b:W)(g:G):Option (W×G):=(ZB7 a g).bind λx=>(ZB7 b g).bind λy=>if (ok0 x && ok0 y)=true then some (.dat (.bool (x.eqv y)),g) else none
def ZFO(a b:W)(g:G):Option (W×G):=(ZB7 a g).bind λx=>(ZB7 b g).bind λy=>if (ok0 x && ok0 y)=true then some (.dat (.bool !x.eqv y),g) else none
def ZLz:W->G->Option (List PyData)
 |.dat (.tuple ys),_=>some ys
 |b,g=>Zz b g
def ZK9(a b:W)(g:G):Option (W×G):=(ZB7 a g).bind λx=>(ZLz b g).bind λys=>if (ok0 x && PyData.canLayAll0 ys)=true then some (.dat (.bool (ys.any λy=>y.eqv x)),g) else none
def ZEH(a b:W)(g:G):Option (W×G):=(ZB7 a g).bind λx=>(ZLz b g).bind λys=>if (ok0 x && PyData.canLayAll0 ys)=true then some (.dat (.bool !ys.any λy=>y.eqv x),g) else none
section
variable{X:Cx}
theorem Zm{pins:List (Addr×Obj)}{σ : St}{ρ : Rh}{H:Hp}{s:Shared}{g:G}{v:V}{w:W}{d:PyData}{u:Value}(I:Inv X pins σ H s)(hR:HR X.K ρ H g)(r:Rel X.K ρ H v w)(e:ZB7 w g=some d)(c:d.canLay0=true)(ru:ZS v u):∃as,Reads s.heap u d as:=by
 cases r with
 |ty=>cases e
 |exc _=>cases e
 |tup _ _=>cases e
 |inp _=>cases e
 |dat r=>cases e;exact r.reads I c ru
 |ref h =>
  obtain⟨ds,e1,rfl⟩:=mp e;obtain⟨a,vs,h1,h2,h3⟩:=hR.at_ _ _ (ZEK e1);rw[h] at h1;cases h1;cases ru;obtain⟨_,its,n,rv,e⟩:=I.hok _ _ h2;obtain⟨as,ra⟩:=h3.reads I (by rw[PyData.canLay0] at c;exact c) rv;exact⟨_,.list e rfl rfl (by simpa using ra)⟩
theorem oEq(hu:X.A.units+64<cLine):OpR X (compareOp .Eq) (rOp X.K ZBt):=by
 intro pins s σ H x y v u Q I rx ry h;obtain⟨ρ,a,b,g,z,g',hR,ra,rb,e,q⟩:=h;obtain⟨d1,e1,e⟩:=bnd e;obtain⟨d2,e2,e⟩:=bnd e
 split at e
 ·rename_i hz
  cases e;unfold ok0 at hz;simp only[Bool.and_eq_true,decide_eq_true_eq] at hz;obtain⟨as,r1⟩:=Zm I hR ra e1 hz.1.1 rx;obtain⟨bs,r2⟩:=Zm I hR rb e2 hz.2.1 ry;exact PySem.SeqAt.compareEq_reads r1 r2 hz.1.1 hz.2.1 (by have:=hz.1.2;omega) ⟨.bl _,H,I,rfl,q.at hR (.dat (.bl _))⟩
 ·cases e
theorem oNe(hu:X.A.units+64<cLine):OpR X (compareOp .NotEq) (rOp X.K ZFO):=by
 intro pins s σ H x y v u Q I rx ry h;obtain⟨ρ,a,b,g,z,g',hR,ra,rb,e,q⟩:=h;obtain⟨d1,e1,e⟩:=bnd e;obtain⟨d2,e2,e⟩:=bnd e
 split at e
 ·rename_i hz
  cases e;unfold ok0 at hz;simp only[Bool.and_eq_true,decide_eq_true_eq] at hz;obtain⟨as,r1⟩:=Zm I hR ra e1 hz.1.1 rx;obtain⟨bs,r2⟩:=Zm I hR rb e2 hz.2.1 ry;exact PySem.SeqAt.compareNe_reads r1 r2 hz.1.1 hz.2.1 (by have:=hz.1.2;omega) ⟨.bl _,H,I,rfl,q.at hR (.dat (.bl _))⟩
 ·cases e
theorem ZDa{pins:List (Addr×Obj)}{σ : St}{ρ : Rh}{H:Hp}{s:Shared}{g:G}{v:V}{w:W}{ds:List PyData}{u:Value}(I:Inv X pins σ H s)(hR:HR X.K ρ H g)(r:Rel X.K ρ H v w)(e:ZLz w g=some ds)(c:PyData.canLayAll0 ds=true)(ru:ZS v u):(∃as,Reads s.heap u (.list ds) as)∨∃as,Reads s.heap u (.tuple ds) as:=by
 cases r with
 |ty=>cases e
 |exc _=>cases e
 |tup _ _=>cases e
 |inp _=>cases e
 |ref h=>exact .inl (Zm I hR (.ref h) (show ZB7 (.ref _) g=some (.list ds) by show(lk g _).map PyData.list=_;rw[show lk g _=some ds from e];rfl) (by rw[PyData.canLay0];exact c) ru)
 |dat r =>
  cases r with
  |tup f t=>cases e;exact .inr ((RelD.tup f t).reads I (by rw[PyData.canLay0];exact c) ru)
  |lst h n t=>cases e;exact .inl ((RelD.lst h n t).reads I (by rw[PyData.canLay0];exact c) ru)
  |_=>cases e
theorem oIn(hu:X.A.units+64<cLine):OpR X (compareOp .In) (rOp X.K ZK9):=by
 intro pins s σ H x y v u Q I rx ry h;obtain⟨ρ,a,b,g,z,g',hR,ra,rb,e,q⟩:=h;obtain⟨d1,e1,e⟩:=bnd e;obtain⟨ds,e2,e⟩:=bnd e
 split at e
 ·rename_i hz
  cases e;unfold ok0 at hz;simp only[Bool.and_eq_true,decide_eq_true_eq] at hz;obtain⟨as,r1⟩:=Zm I hR ra e1 hz.1.1 rx;have hd:X.A.units+1+min (PyData.depthAll ds) d1.depth<cLine:=by have:=hz.1.2;have:=Nat.min_le_right (PyData.depthAll ds) d1.depth;omega
  rcases ZDa I hR rb e2 hz.2 ry with ⟨bs,r2⟩|⟨bs,r2⟩
  ·exact PySem.SeqAt.in_list_reads r2 r1 hz.2 hz.1.1 hd ⟨.bl _,H,I,rfl,q.at hR (.dat (.bl _))⟩
  ·exact PySem.SeqAt.in_tuple_reads r2 r1 hz.2 hz.1.1 hd ⟨.bl _,H,I,rfl,q.at hR (.dat (.bl _))⟩
 ·cases e
theorem ZKm(hu:X.A.units+64<cLine):OpR X (compareOp .NotIn) (rOp X.K ZEH):=by
 intro pins s σ H x y v u Q I rx ry h;obtain⟨ρ,a,b,g,z,g',hR,ra,rb,e,q⟩:=h;obtain⟨d1,e1,e⟩:=bnd e;obtain⟨ds,e2,e⟩:=bnd e
 split at e
 ·rename_i hz
  cases e;unfold ok0 at hz;simp only[Bool.and_eq_true,decide_eq_true_eq] at hz;obtain⟨as,r1⟩:=Zm I hR ra e1 hz.1.1 rx;have hd:X.A.units+1+min (PyData.depthAll ds) d1.depth<cLine:=by have:=hz.1.2;have:=Nat.min_le_right (PyData.depthAll ds) d1.depth;omega
  rcases ZDa I hR rb e2 hz.2 ry with ⟨bs,r2⟩|⟨bs,r2⟩
  ·exact PySem.SeqAt.notIn_list_reads r2 r1 hz.2 hz.1.1 hd ⟨.bl _,H,I,rfl,q.at hR (.dat (.bl _))⟩
  ·exact PySem.SeqAt.notIn_tuple_reads r2 r1 hz.2 hz.1.1 hd ⟨.bl _,H,I,rfl,q.at hR (.dat (.bl _))⟩
 ·cases e
end
def ZEC:List PyData->Option (List Int)
 |[]=>some []
 |.int i::r=>(ZEC r).map λns=>i::ns
 |_::_=>none
theorem ZCz{K:PySem.W.Frag}{ρ : Rh}{H:Hp}{ds:List PyData}:∀{vs:List V} {ns:List Int},RelDL K ρ H vs ds->ZEC ds=some ns->vs=ns.map V.int:=by
 induction ds with
 |nil=>intro vs ns t e;cases t;cases e;rfl
 |cons d r ih =>
  intro vs ns t e;cases t with
  |cons h t =>
   cases h with
   |int i =>
    obtain⟨ms,e1,rfl⟩:=mp e;rw[ih t e1];rfl
   |_=>cases e
def ZDW(ci:Int->Int->Option Bool)(ct:List Int->List Int->Option Bool)(cs:Str->Str->Option Bool):W->W->G->Option (W×G)
 |.dat (.int i),.dat (.int j),g=>(ci i j).map λb=>(.dat (.bool b),g)
 |.dat (.tuple xs),.dat (.tuple ys),g=>(ZEC xs).bind λns=>(ZEC ys).bind λms=>(ct ns ms).map λb=>(.dat (.bool b),g)
 |.dat (.str a),.dat (.str b),g=>(cs a b).map λb=>(.dat (.bool b),g)
 |_,_,_=>none
def ZL4:=ZDW (λi j=>some (decide (i<j))) (λns ms=>some (HT.lexLt ns ms)) λa b=>some (decide (a.cps.toList<b.cps.toList))
def ZMN:=ZDW (λi j=>some (decide (j<i))) (λns ms=>some (HT.lexGt ns ms)) λ_ _=>none
def ZKR:=ZDW (λi j=>some (decide (j<=i))) (λns ms=>some (HT.lexGe ns ms)) λ_ _=>none
def ZJo:=ZDW (λi j=>some (decide (i<=j))) (λ_ _=>none) λ_ _=>none
section
variable{X:Cx}
theorem ZJ3{op:CmpOp}{ci:Int->Int->Option Bool}{ct:List Int->List Int->Option Bool}{cs:Str->Str->Option Bool}
  (h1:OpR X (compareOp op) (λx y H Q=>∃i j k,x=.int i/\y=.int j/\ci i j=some k/\Q (.bl k) H))
  (h2:OpR X (compareOp op) (λx y H Q=>∃a b ns ms k,x=.ref a/\y=.ref b/\SqT X.K H a (ns.map V.int)/\SqT X.K H b (ms.map V.int)/\ct ns ms=some k/\Q (.bl k) H))
  (h3:OpR X (compareOp op) (λx y H Q=>∃a b k,x=.str a/\y=.str b/\cs a b=some k/\Q (.bl k) H)):OpR X (compareOp op) (rOp X.K (ZDW ci ct cs)):=by
 intro pins s σ H x y v u Q I rx ry h;obtain⟨ρ,a,b,g,z,g',hR,ra,rb,e,q⟩:=h;unfold ZDW at e
 split at e
 ·obtain⟨k,e3,e⟩:=mp e
  cases e;cases ra with
  |dat ra=>cases ra with
   |int i=>cases rb with
    |dat rb=>cases rb with
     |int j=>exact h1 pins s σ H _ _ v u Q I rx ry ⟨_,_,k,rfl,rfl,e3,q.at hR (.dat (.bl _))⟩
 ·obtain⟨ns,e1,e⟩:=bnd e
  obtain⟨ms,e2,e⟩:=bnd e;obtain⟨k,e3,e⟩:=mp e;cases e;cases ra with
  |dat ra=>cases ra with
   |tup f1 t1=>cases rb with
    |dat rb=>cases rb with
     |tup f2 t2 =>
      have i1:=ZCz t1 e1;have i2:=ZCz t2 e2;subst i1 i2;exact h2 pins s σ H _ _ v u Q I rx ry ⟨_,_,ns,ms,k,rfl,rfl,f1.sq,f2.sq,e3,q.at hR (.dat (.bl _))⟩
 ·obtain⟨k,e3,e⟩:=mp e
  cases e;cases ra with
  |dat ra=>cases ra with
   |str i=>cases rb with
    |dat rb=>cases rb with
     |str j=>exact h3 pins s σ H _ _ v u Q I rx ry ⟨_,_,k,rfl,rfl,e3,q.at hR (.dat (.bl _))⟩
 ·cases e
theorem oLt(hu:X.A.units+64<cLine):OpR X (compareOp .Lt) (rOp X.K ZL4):=ZJ3 (op_lt.imp λ_ _ _ _ ⟨i,j,k,h1,h2,h5,q⟩=>⟨i,j,h1,h2,by cases h5;exact q⟩) ((ZME (by omega)).imp λ_ _ _ _ ⟨a,b,ns,ms,k,h1,h2,h3,h4,h5,q⟩=>⟨a,b,ns,ms,h1,h2,h3,h4,by cases h5;exact q⟩) (ZGh.imp λ_ _ _ _ ⟨a,b,k,h1,h2,h5,q⟩=>⟨a,b,h1,h2,by cases h5;exact q⟩)
theorem oGt(hu:X.A.units+64<cLine):OpR X (compareOp .Gt) (rOp X.K ZMN):=ZJ3 (op_gt.imp λ_ _ _ _ ⟨i,j,k,h1,h2,h5,q⟩=>⟨i,j,h1,h2,by cases h5;exact q⟩) ((ZL8 (by omega)).imp λ_ _ _ _ ⟨a,b,ns,ms,k,h1,h2,h3,h4,h5,q⟩=>⟨a,b,ns,ms,h1,h2,h3,h4,by cases h5;exact q⟩) λpins s σ H x y v u Q I rx ry ⟨_,_,_,_,_,h,_⟩=>nomatch h
theorem oGe(hu:X.A.units+64<cLine):OpR X (compareOp .GtE) (rOp X.K ZKR):=ZJ3 (op_ge.imp λ_ _ _ _ ⟨i,j,k,h1,h2,h5,q⟩=>⟨i,j,h1,h2,by cases h5;exact q⟩) ((ZL2 (by omega)).imp λ_ _ _ _ ⟨a,b,ns,ms,k,h1,h2,h3,h4,h5,q⟩=>⟨a,b,ns,ms,h1,h2,h3,h4,by cases h5;exact q⟩) λpins s σ H x y v u Q I rx ry ⟨_,_,_,_,_,h,_⟩=>nomatch h
theorem oLe:OpR X (compareOp .LtE) (rOp X.K ZJo):=ZJ3 (op_le.imp λ_ _ _ _ ⟨i,j,k,h1,h2,h5,q⟩=>⟨i,j,h1,h2,by cases h5;exact q⟩) (λpins s σ H x y v u Q I rx ry ⟨_,_,_,_,_,_,_,_,_,h,_⟩=>nomatch h) λpins s σ H x y v u Q I rx ry ⟨_,_,_,_,_,h,_⟩=>nomatch h
def ixA:W->Int->G->Option (W×G)
 |.dat (.tuple ds),i,g=>(atI ds i).map λd=>(.dat d,g)
 |.inp ns,i,g=>(atI ns i).map λd=>(.dat (.int d),g)
 |.tup ws,i,g=>(atI ws i).map λw=>(w,g)
 |.ref n,i,g=>match g[n]? with
  |some (.pl ds)=>(atI ds i).map λd=>(.dat d,g)
  |some (.rl ws)=>(atI ws i).map λw=>(w,g)
  |_=>none
 |a,i,g=>(Zz a g).bind λds=>(atI ds i).map λd=>(.dat d,g)
def Z2(a b:W)(g:G):Option (W×G):=(ZBH b).bind λi=>ixA a i g
theorem ZDy{K:PySem.W.Frag}{ρ : Rh}{H:Hp}{vs:List V}{ds:List PyData}{i:Int}{d:PyData}(t:RelDL K ρ H vs ds)(e:atI ds i=some d):∃v,atI vs i=some v/\RelD K ρ H v d:=by
 unfold atI at *;rw[t.length];obtain⟨j,e1,e2⟩:=bnd e;rw[e1];exact t.getD e2
theorem ZEx{K:PySem.W.Frag}{ρ : Rh}{H:Hp}{vs:List V}{ds:List W}{i:Int}{d:W}(t:RelL K ρ H vs ds)(e:atI ds i=some d):∃v,atI vs i=some v/\Rel K ρ H v d:=by
 unfold atI at *;rw[t.length];obtain⟨j,e1,e2⟩:=bnd e;rw[e1];exact t.getD e2
theorem oIx:IxR X (rOp X.K Z2):=by
 intro value slice pins s σ H x y v u Q I rx ry h hs;obtain⟨ρ,a,b,g,z,g',hR,ra,rb,e,q⟩:=h;obtain⟨i,e0,e⟩:=bnd e;have:=ZAK rb e0;subst this
 have lists:((Zz a g).bind λds=>(atI ds i).map λd=>(W.dat d,g))=some (z,g')->wpAny (model X.prog X.w) X.A (subscriptTail value slice v u) (EP X pins σ Q) X.xe s:=λe=>by
  obtain⟨xs,e1,e⟩:=bnd e;obtain⟨d,e2,e⟩:=mp e;cases e;obtain⟨l,vs,rfl,h1,t1⟩:=Zp hR ra e1;obtain⟨w,e3,r3⟩:=ZDy t1 e2;exact ZCR value slice pins s σ H _ _ v u Q I rx ry ⟨l,vs,i,w,rfl,rfl,SqL.of h1,e3,q.at hR (.dat r3)⟩ hs
 cases ra with
 |@ref a n h =>
  change (match g[n]? with|some (.pl ds)=>(atI ds i).map λd=>(W.dat d,g)|some (.rl ws)=>(atI ws i).map λw=>(w,g)|_=>none)=some (z,g') at e
  split at e
  ·rename_i ds e1
   obtain⟨d,e2,e⟩:=mp e;cases e;obtain⟨a',vs,k1,k2,k3⟩:=hR.at_ _ _ e1;rw[h] at k1;cases k1;obtain⟨w,e3,r3⟩:=ZDy k3 e2;exact ZCR value slice pins s σ H _ _ v u Q I rx ry ⟨a,vs,i,w,rfl,rfl,SqL.of k2,e3,q.at hR (.dat r3)⟩ hs
  ·rename_i ws e1
   obtain⟨d,e2,e⟩:=mp e;cases e;obtain⟨a',k1,vs,k2,k3⟩:=hR.ce _ _ e1;rw[h] at k1;cases k1;obtain⟨w,e3,r3⟩:=ZEx k3 e2;exact ZCR value slice pins s σ H _ _ v u Q I rx ry ⟨a,vs,i,w,rfl,rfl,SqL.of k2,e3,q.at hR r3⟩ hs
  ·cases e
 |ty=>exact lists e
 |exc _=>exact lists e
 |tup f t =>
  obtain⟨d,e2,e⟩:=mp e;cases e;obtain⟨w,e3,r3⟩:=ZEx t e2;exact ZIX value slice pins s σ H _ _ v u Q I rx ry ⟨_,_,i,w,rfl,rfl,f.sq,e3,q.at hR r3⟩ hs
 |@inp a ns h =>
  obtain⟨d,e2,e⟩:=mp e;cases e;refine ZCR value slice pins s σ H _ _ v u Q I rx ry ⟨a,_,i,.int d,rfl,rfl,h.sq,?_,q.at hR (.dat (.int _))⟩ hs;unfold atI at *;rw[length_map];obtain⟨j,e1,e2⟩:=bnd e2;rw[e1];show(ns.map V.int)[j]? = _;rw[getElem?_map,e2];rfl
 |dat ra =>
  cases ra with
  |tup f t =>
   obtain⟨d,e2,e⟩:=mp e;cases e;obtain⟨w,e3,r3⟩:=ZDy t e2;exact ZIX value slice pins s σ H _ _ v u Q I rx ry ⟨_,_,i,w,rfl,rfl,f.sq,e3,q.at hR (.dat r3)⟩ hs
  |lst h n t=>exact lists e
  |_=>exact lists e
abbrev DO:=Sd->G->Option (Option Int×G)
def tO(K:PySem.W.Frag)(d:DO):TO:=λσ H Q=>∃ρ sd g i g',Rst K ρ H σ sd g/\d sd g=some (i,g')/\∀H' ρ',Stp ρ H ρ' H'->HR K ρ' H' g'->Q i H'
theorem PO.imp{e:Option Expr}{t u:TO}(h:PO X e t)(k:∀σ H Q,u σ H Q->t σ H Q):PO X e u:=λpins s σ H Q I q=>h pins s σ H Q I (k σ H Q q)
def ZA3:DO:=λ_ g=>some (none,g)
def ZCA(d:DE):DO:=λsd g=>(d sd g).bind λp=>match p.1 with|.dat (.int i)=>some (some i,p.2)|_=>none
theorem ZJF:PO X none (tO X.K ZA3):=ZIy.imp λσ H Q ⟨ρ,sd,g,i,g',r,e,q⟩=>by
 cases e;exact q H ρ .refl r.hr
theorem ZJP{e:Expr}{d:DE}(h:PE X e (tE X.K d)):PO X (some e) (tO X.K (ZCA d)):=(ZJE h).imp λσ H Q ⟨ρ,sd,g,i,g',r,e,q⟩=>by
 obtain⟨⟨x,g1⟩,e1,e⟩:=bnd e;refine⟨ρ,sd,g,x,g1,r,e1,λv H1 ρ1 s1 h1 r1=>?_⟩;cases r1 with
 |dat r1 =>
  cases r1 with
  |int j=>cases e;exact⟨j,rfl,q H1 ρ1 s1 h1⟩
  |_=>cases e
 |_=>cases e
def ZBa{α : Type}(xs:List α)(lo hi:Option Int):List α:=(xs.drop (HT.sIx xs.length 0 lo)).take (HT.sIx xs.length xs.length hi-HT.sIx xs.length 0 lo)
def slO(w:W)(lo hi:Option Int)(g:G):Option (W×G):=match w with
 |.dat (.tuple ds)=>some (.dat (.tuple (ZBa ds lo hi)),g)
 |.inp ns=>some (.dat (.list (ZBa (ns.map .int) lo hi)),g)
 |w=>(Zz w g).map λds=>(.dat (.list (ZBa ds lo hi)),g)
def dSl(d:DE)(l h:DO):DE:=λsd g=>(d sd g).bind λp=>(l sd p.2).bind λa=>(h sd a.2).bind λb=>slO p.1 a.1 b.1 b.2
theorem ZD9{K:PySem.W.Frag}{ρ : Rh}{H:Hp}{vs:List V}{ds:List PyData}(t:RelDL K ρ H vs ds)(lo hi:Option Int):RelDL K ρ H (ZEJ vs lo hi) (ZBa ds lo hi):=by
 unfold ZEJ ZBa;rw[t.length];exact(t.drop _).take _
theorem ZLq:SlR X (λx lo hi H Q=>∃ρ w g z g',HR X.K ρ H g/\Rel X.K ρ H x w/\slO w lo hi g=some (z,g')/\Pv X.K ρ H z g' Q):=by
 intro pins s σ H x v vl vu lo hi sl Q I rx hs pl pu h;obtain⟨ρ,w,g,z,g',hR,rw_,e,q⟩:=h;have lists:((Zz w g).map λds=>(W.dat (.list (ZBa ds lo hi)),g))=some (z,g')->∃T id,typeLookup (.type T) "__getitem__" = pure (some (.builtin id))/\s.TypeIs v T/\wpAny (model X.prog X.w) X.A (getItem v (.ref sl)) (EP X pins σ Q) X.xe s:=λe=>by
  obtain⟨ds,e1,e⟩:=mp e;cases e;obtain⟨l,vs,rfl,h1,t1⟩:=Zp hR rw_ e1;exact ZFq pins s σ H _ v vl vu lo hi sl Q I rx hs pl pu ⟨l,vs,rfl,SqL.of h1,λp hp=>q.new hR (ZD9 t1 lo hi) hp⟩
 cases rw_ with
 |ref h=>exact lists e
 |ty=>exact lists e
 |exc _=>exact lists e
 |tup _ _=>exact lists e
 |inp h =>
  cases e;exact ZFq pins s σ H _ v vl vu lo hi sl Q I rx hs pl pu ⟨_,_,rfl,h.sq,λp hp=>q.new hR (ZD9 RelDL.ofInts lo hi) hp⟩
 |dat r =>
  cases r with
  |@tup a xs ds f t =>
   cases e;refine ZJK pins s σ H _ v vl vu lo hi sl Q I rx hs pl pu ⟨_,_,rfl,f.sq,λhw=>?_,λ_ p hp=>q.newT hR (ZD9 t lo hi) hp⟩;refine q.at hR (.dat ?_);have e:ZBa ds lo hi=ds:=by
    unfold ZBa;rw[←t.length,hw.1,hw.2,t.length];simp
   rw[e];exact .tup f t
  |lst h n t=>exact lists e
  |_=>exact lists e
theorem de_sl{e:Expr}{lo hi:Option Expr}{d:DE}{l h:DO}{pos p2:Pos}(he:PE X e (tE X.K d))(hl:PO X lo (tO X.K l))(hh:PO X hi (tO X.K h)):PE X (.Subscript e (.Slice lo hi none p2) pos) (tE X.K (dSl d l h)):=(ZH2 ZLq he hl hh).imp λσ H Q ⟨ρ,sd,g,x,g',r,e,q⟩=>by
 obtain⟨⟨y,g1⟩,e1,e⟩:=bnd e;obtain⟨⟨i,g2⟩,e2,e⟩:=bnd e;obtain⟨⟨j,g3⟩,e3,e⟩:=bnd e;refine⟨ρ,sd,g,y,g1,r,e1,λv H1 ρ1 s1 h1 r1=>⟨ρ1,sd,g1,i,g2,r.step s1 h1,e2,λH2 ρ2 s2 h2=>⟨ρ2,sd,g2,j,g3,r.step (s1.trans s2) h2,e3,λH3 ρ3 s3 h3=>?_⟩⟩⟩;exact⟨ρ3,y,g3,x,g',h3,r1.mono (s2.trans s3),e,q.step (s1.trans (s2.trans s3))⟩
end
def f1(f:W->G->Option (W×G)):List W->G->Option (W×G)
 |[w],g=>f w g
 |_,_=>none
def ZEY:W->G->Option (W×G)
 |.dat (.tuple ds),g=>some (.dat (.int (ds.length:Int)),g)
 |.inp ns,g=>some (.dat (.int (ns.length:Int)),g)
 |.ref n,g=>match g[n]? with
  |some (.pl ds)=>some (.dat (.int (ds.length:Int)),g)
  |some (.rl ws)=>some (.dat (.int (ws.length:Int)),g)
  |_=>none
 |w,g=>(Zz w g).map λds=>(.dat (.int (ds.length:Int)),g)
def ZHL:W->G->Option (W×G)
 |.dat (.int i),g=>some (.dat (.int i),g)
 |.dat (.bool b),g=>some (.dat (.int (if b=true then 1 else 0)),g)
 |_,_=>none
def ZLY:W->G->Option (W×G)
 |.dat (.int i),g=>some (.dat (.int (if i<0 then -i else i)),g)
 |_,_=>none
def ZDI:W->G->Option (W×G)
 |.dat (.tuple ds),g=>some (.dat (.tuple ds),g)
 |w,g=>(Zz w g).map λds=>(.dat (.tuple ds),g)
def ZBR:List PyData->Option (List Bool)
 |[]=>some []
 |.bool i::r=>(ZBR r).map λns=>i::ns
 |_::_=>none
def ZCr(w:W)(g:G):Option (W×G):=(Zz w g).bind λds=>(ZBR ds).map λbs=>(.dat (.bool (bs.all id)),g)
def ZIi(f:Int->Int->Option Int):List W->G->Option (W×G)
 |[a,b],g=>(ZBH a).bind λi=>(ZBH b).bind λj=>(f i j).map λk=>(.dat (.int k),g)
 |_,_=>none
def ZMT:=ZIi λi j=>some (if j<i then j else i)
def ZKJ:=ZIi λi j=>some (if j > i then j else i)
def ZK6:PyData->String
 |.none=>"NoneType"
 |.bool _=>"bool"
 |.int _=>"int"
 |.str _=>"str"
 |.list _=>"list"
 |.tuple _=>"tuple"
 |.dict _=>"dict"
def ZGN:List W->G->Option (W×G)
 |[.dat d,.ty T],g=>if T = "int"∨T = "bool"∨T = "tuple"∨T = "str" then some (.dat (.bool (isi (ZK6 d) T)),g) else none
 |_,_=>none
section
variable{X:Cx}
theorem c1{f:Value}{fn:W->G->Option (W×G)}{r:List V->Hp->VK->Prop}(h:ZJ X f r)(k:∀ρ H g x w z g' Q,HR X.K ρ H g->Rel X.K ρ H x w->fn w g=some (z,g')->Pv X.K ρ H z g' Q->r [x] H Q):ZJ X f (rF X.K (f1 fn)):=h.imp λxs H Q ⟨ρ,ws,g,z,g',hR,rl,e,q⟩=>by
 cases rl with
 |nil=>cases e
 |cons r1 t =>
  cases t with
  |nil=>exact k ρ H g _ _ z g' Q hR r1 e q
  |cons _ _=>cases e
theorem ZMQ:ZJ X (.builtin "len") (rF X.K (f1 ZEY)):=c1 ZD4 λρ H g x w z g' Q hR r e q=>by
 have lists:((Zz w g).map λds=>(W.dat (.int (ds.length:Int)),g))=some (z,g')->∃p ys,[x]=[V.ref p]/\(SqL X.K H p ys∨SqT X.K H p ys)/\Q (.int ys.length) H:=λe=>by
  obtain⟨ds,e1,e⟩:=mp e;cases e;obtain⟨l,vs,rfl,h1,t1⟩:=Zp hR r e1;exact⟨l,vs,rfl,.inl (SqL.of h1),q.at hR (by rw[t1.length];exact .dat (.int _))⟩
 cases r with
 |@ref a n h =>
  change (match g[n]? with|some (.pl ds)=>some (W.dat (.int (ds.length:Int)),g)|some (.rl ws)=>some (W.dat (.int (ws.length:Int)),g)|_=>none)=some (z,g') at e
  split at e
  ·rename_i ds e1
   cases e;obtain⟨a',vs,k1,k2,k3⟩:=hR.at_ _ _ e1;rw[h] at k1;cases k1;exact⟨a,vs,rfl,.inl (SqL.of k2),q.at hR (by rw[k3.length];exact .dat (.int _))⟩
  ·rename_i ds e1
   cases e;obtain⟨a',k1,vs,k2,k3⟩:=hR.ce _ _ e1;rw[h] at k1;cases k1;exact⟨a,vs,rfl,.inl (SqL.of k2),q.at hR (by rw[k3.length];exact .dat (.int _))⟩
  ·cases e
 |ty=>exact lists e
 |exc _=>exact lists e
 |tup _ _=>exact lists e
 |inp h=>cases e;exact⟨_,_,rfl,.inl h.sq,q.at hR (by rw[length_map];exact .dat (.int _))⟩
 |dat r =>
  cases r with
  |tup f t=>cases e;exact⟨_,_,rfl,.inr f.sq,q.at hR (by rw[t.length];exact .dat (.int _))⟩
  |lst h n t=>exact lists e
  |_=>exact lists e
theorem ZMW:ZJ X (.type "int") (rF X.K (f1 ZHL)):=c1 ZGI λρ H g x w z g' Q hR r e q=>by
 cases r with
 |dat r =>
  cases r with
  |int i=>cases e;exact .inl ⟨i,rfl,q.at hR (.dat (.int _))⟩
  |bl b=>cases e;exact .inr ⟨b,rfl,q.at hR (.dat (.int _))⟩
  |_=>cases e
 |_=>cases e
theorem cAbs:ZJ X (.builtin "abs") (rF X.K (f1 ZLY)):=c1 ZHy λρ H g x w z g' Q hR r e q=>by
 cases r with
 |dat r =>
  cases r with
  |int i=>cases e;exact⟨i,rfl,q.at hR (.dat (.int _))⟩
  |_=>cases e
 |_=>cases e
theorem cTup:ZJ X (.type "tuple") (rF X.K (f1 ZDI)):=c1 ZDG λρ H g x w z g' Q hR r e q=>by
 have lists:((Zz w g).map λds=>(W.dat (.tuple ds),g))=some (z,g')->∃p ys,[x]=[V.ref p]/\((SqL X.K H p ys/\∀l,H l=none->Q (.ref l) (upd H l (.tup ys)))∨(SqT X.K H p ys/\Q (.ref p) H)):=λe=>by
  obtain⟨ds,e1,e⟩:=mp e;cases e;obtain⟨l,vs,rfl,h1,t1⟩:=Zp hR r e1;exact⟨l,vs,rfl,.inl ⟨SqL.of h1,λp hp=>q.newT hR t1 hp⟩⟩
 cases r with
 |ref h=>exact lists e
 |ty=>exact lists e
 |exc _=>exact lists e
 |tup _ _=>exact lists e
 |inp h=>exact lists e
 |dat r =>
  cases r with
  |tup f t=>cases e;exact⟨_,_,rfl,.inr ⟨f.sq,q.at hR (.dat (.tup f t))⟩⟩
  |lst h n t=>exact lists e
  |_=>exact lists e
theorem ZEd{K:PySem.W.Frag}{ρ : Rh}{H:Hp}{ds:List PyData}:∀{vs:List V} {ns:List Bool},RelDL K ρ H vs ds->ZBR ds=some ns->vs=ns.map V.bl:=by
 induction ds with
 |nil=>intro vs ns t e;cases t;cases e;rfl
 |cons d r ih =>
  intro vs ns t e;cases t with
  |cons h t =>
   cases h with
   |bl i =>
    obtain⟨ms,e1,rfl⟩:=mp e;rw[ih t e1];rfl
   |_=>cases e
theorem cAll(hc:X.calm=true):ZJ X (.builtin "all") (rF X.K (f1 ZCr)):=c1 (ZHU hc) λρ H g x w z g' Q hR r e q=>by
 obtain⟨ds,e1,e⟩:=bnd e;obtain⟨bs,e2,e⟩:=mp e;cases e;obtain⟨l,vs,rfl,h1,t1⟩:=Zp hR r e1;have:=ZEd t1 e2;subst this
 exact⟨l,bs,rfl,SqL.of h1,q.at hR (.dat (.bl _))⟩
theorem ZKB{f:Int->Int->Option Int}{c:Value}(h:ZJ X c (λxs H Q=>∃i j k,xs=[.int i,.int j]/\f i j=some k/\Q (.int k) H)):ZJ X c (rF X.K (ZIi f)):=h.imp λxs H Q ⟨ρ,ws,g,z,g',hR,rl,e,q⟩=>by
 unfold ZIi at e
 split at e
 ·obtain⟨i,e1,e⟩:=bnd e
  obtain⟨j,e2,e⟩:=bnd e;obtain⟨k,e3,e⟩:=mp e;cases e;cases rl with
  |cons r1 t=>cases t with
   |cons r2 t=>cases t with
    |nil =>
     rw[ZAK r1 e1,ZAK r2 e2];exact⟨i,j,k,rfl,e3,q.at hR (.dat (.int _))⟩
 ·cases e
theorem cMin(hc:X.calm=true):ZJ X (.builtin "min") (rF X.K ZMT):=ZKB ((ZGW hc).imp λ_ _ _ ⟨i,j,k,h1,h5,q⟩=>⟨i,j,h1,by cases h5;exact q⟩)
theorem cMax2(hc:X.calm=true):ZJ X (.builtin "max") (rF X.K ZKJ):=ZKB ((ZGX hc).imp λ_ _ _ ⟨i,j,k,h1,h5,q⟩=>⟨i,j,h1,by cases h5;exact q⟩)
theorem kd_of{K:PySem.W.Frag}{ρ : Rh}{H:Hp}{v:V}{d:PyData}(r:RelD K ρ H v d):Kd K H v (ZK6 d):=by
 cases r with
 |non=>exact .non
 |bl b=>exact .bl b
 |int i=>exact .int i
 |str x=>exact .str x
 |tup f t=>exact .tup f.sq
 |lst h n t=>exact .lst h
 |dct h n=>exact .dct h
theorem cIsi:ZJ X (.builtin "isinstance") (rF X.K ZGN):=ZGY.imp λxs H Q ⟨ρ,ws,g,z,g',hR,rl,e,q⟩=>by
 cases rl with
 |nil=>cases e
 |cons r1 t =>
  cases r1 with
  |dat r1 =>
   cases t with
   |nil=>cases e
   |cons r2 t =>
    cases r2 with
    |@ty T =>
     cases t with
     |nil =>
      change (if T = "int"∨T = "bool"∨T = "tuple"∨T = "str" then some (W.dat (.bool (isi (ZK6 _) T)),g) else none)=some (z,g') at e
      split at e
      ·rename_i hz
       cases e;exact⟨_,T,_,rfl,kd_of r1,hz,q.at hR (.dat (.bl _))⟩
      ·cases e
     |cons _ _=>cases e
    |_=>cases e
  |_=>cases e
theorem de_ty{x:Str}{n:String}{pos:Pos}(hg:Gl X x)(hm:X.mg x=none)(hv:bootBuiltins x=some (.type n))(hn:x≠"__name__":=by decide)(hd:(x == ("__debug__" : Str))=false:=by decide):PE X (.Name x pos) (tE X.K λ_ g=>some (.ty n,g)):=(ZIb (v:=.ty n) hg hm hv rfl hn hd).imp λσ H Q ⟨ρ,sd,g,y,g',hr,e,q⟩=>by
 cases e;exact q _ H ρ .refl hr.hr .ty
end
def ZBZ(ns:List Int):List Int:=ns.mergeSort λa b=>decide (a<=b)
theorem ZHv{ns ms:List Int}(pm:ms.Perm ns)(pw:ms.Pairwise (· <= ·)):ms=ZBZ ns:=by
 refine List.Perm.eq_of_pairwise (le:=λa b:Int=>a<=b) (λa b _ _ h1 h2=>Int.le_antisymm h1 h2) pw ?_ (pm.trans (List.mergeSort_perm _ _).symm);refine List.Pairwise.imp (λ{a b} h=>of_decide_eq_true h) (List.pairwise_mergeSort (le:=λa b:Int=>decide (a<=b)) (λa b c h1 h2=>?_) (λa b=>?_) ns)
 ·exact decide_eq_true (Int.le_trans (of_decide_eq_true h1) (of_decide_eq_true h2))
 ·rw[Bool.or_eq_true,decide_eq_true_iff,decide_eq_true_iff]
  exact Int.le_total a b
section
variable{X:Cx}
def isL(g:G)(n:Nat):Bool:=match g[n]? with|some (.pl _)=>true|some (.rl _)=>true|_=>false
theorem ZIC{g:G}{n:Nat}{ds:List PyData}(h:g[n]? = some (.pl ds)):isL g n=true:=by
 unfold isL;rw[h]
theorem ZLj{K:PySem.W.Frag}{ρ : Rh}{H:Hp}{g:G}{n:Nat}{a:Addr}(h:isL g n=true)(hR:HR K ρ H g)(ha : ρ.c[n]? = some a):∃vs,H a=some (.lst vs):=by
 unfold isL at h
 split at h
 ·rename_i ds e
  obtain⟨b,h1,vs,h2,_⟩:=hR.ce _ _ e;rw[ha] at h1;cases h1;exact⟨vs,h2⟩
 ·rename_i ds e
  obtain⟨b,h1,vs,h2,_⟩:=hR.ce _ _ e;rw[ha] at h1;cases h1;exact⟨vs,h2⟩
 ·cases h
def ZH8(dl d:DE):DE:=λsd g=>(dl sd g).bind λl=>match l.1 with
 |.ref n=>if isL l.2 n=true then (d sd l.2).bind λp=>match p.1 with
  |.dat x=>match p.2[n]? with
   |some (.pl ds)=>if ds.length<1000 then some (.dat .none,p.2.set n (.pl (ds++[x]))) else none
   |some (.rl ws)=>if ws.length<1000 then some (.dat .none,p.2.set n (.rl (ws++[.dat x]))) else none
   |_=>none
  |x=>match p.2[n]? with
   |some (.rl ws)=>if ws.length<1000 then some (.dat .none,p.2.set n (.rl (ws++[x]))) else none
   |_=>none
  else none
 |_=>none
theorem ZK7{o e:Expr}{dl d:DE}{apos cpos:Pos}(ho:PE X o (tE X.K dl))(he:PE X e (tE X.K d))(hbase:attributeBase o "append" X.env (eval o X.env)=eval o X.env:=by rfl)
  (hfew:((backTo cpos (starEach [e] X.env)).all (λ x=>!x.1) && (backToKw cpos (keywordEach [] X.env)).all (λ x=>x.1.isSome)
   && decide ([e].length+([]:List Keyword).length+(if ([]:List Keyword).isEmpty then 0 else 1)<30))=true:=by rfl)
  (hline:(apos.endLine == cpos.line)=true:=by rfl)(hs:starEach [e] X.env=(false,eval e X.env)::starEach [] X.env:=by rfl)(hplain:(backTo cpos (starEach [] X.env)).any (·.1)=false:=by rfl) :
  PE X (.Call (.Attribute o "append" apos) [e] [] cpos) (tE X.K (ZH8 dl d)):=(ZKH PySem.F.plainAttrs_list PySem.F.slot_list_append PySem.F.type_list_append ZDQ ho (ZFy he ZH7 hs) hbase hfew hline hs hplain).imp λσ H Q ⟨ρ,sd,g,x,g',r,e,q⟩=>by
 obtain⟨⟨y,g1⟩,e1,e⟩:=bnd e;refine⟨ρ,sd,g,y,g1,r,e1,λv H1 ρ1 s1 h1 r1=>?_⟩;cases r1 with
 |@ref la ln hn =>
  dsimp only at e
  split at e
  case isFalse=>cases e
  rename_i hil
  obtain⟨⟨p,g2⟩,e2,e⟩:=bnd e;have rich:∀{H2:Hp} {ρ2:Rh} {v2:V} {ws:List W},Stp ρ1 H1 ρ2 H2->HR X.K ρ2 H2 g2->Rel X.K ρ2 H2 v2 p->g2[ln]? = some (.rl ws)->(if ws.length<1000 then some (W.dat .none,g2.set ln (.rl (ws++[p]))) else none)=some (x,g')->∃us,H2 la=some (.lst us)/\us.length<sizeLine/\Q .non (upd H2 la (.lst (us++[v2]))):=λ{H2 ρ2 v2 ws} s2 h2 r2 e3 e=>by
   split at e
   ·rename_i hz
    cases e;obtain⟨a',k1,us,k2,k3⟩:=h2.ce _ _ e3;have hn2:=ZCU s2 hn;rw[hn2] at k1;cases k1;obtain⟨hw,sw⟩:=h2.writeC hn2 (o:=.lst (us++[v2])) (c:=.rl (ws++[p])) (λu e=>by rw[k2] at e;cases e;rfl) (λs=>⟨_,ZG,(k3.append (.cons r2 .nil)).mono s⟩);exact⟨us,k2,by rw[k3.length];exact Zc (by omega),q _ _ ρ2 (s1.trans (s2.trans sw)) hw (.dat .non)⟩
   ·cases e
  have plain:∀{H2:Hp} {ρ2:Rh} {v2:V} {d:PyData} {ds:List PyData},Stp ρ1 H1 ρ2 H2->HR X.K ρ2 H2 g2->RelD X.K ρ2 H2 v2 d->g2[ln]? = some (.pl ds)->(if ds.length<1000 then some (W.dat .none,g2.set ln (.pl (ds++[d]))) else none)=some (x,g')->∃us,H2 la=some (.lst us)/\us.length<sizeLine/\Q .non (upd H2 la (.lst (us++[v2]))):=λ{H2 ρ2 v2 d ds} s2 h2 r2 e3 e=>by
   split at e
   ·rename_i hz
    cases e;obtain⟨a',us,k1,k2,k3⟩:=h2.at_ _ _ e3;have hn2:=ZCU s2 hn;rw[hn2] at k1;cases k1;obtain⟨hw,sw⟩:=h2.write hn2 k2 (k3.append (.cons r2 .nil));exact⟨us,k2,by rw[k3.length];exact Zc (by omega),q _ _ ρ2 (s1.trans (s2.trans sw)) hw (.dat .non)⟩
   ·cases e
  have both:∀{H2:Hp} {ρ2:Rh} {v2:V},Stp ρ1 H1 ρ2 H2->HR X.K ρ2 H2 g2->Rel X.K ρ2 H2 v2 p->∃us,H2 la=some (.lst us)/\us.length<sizeLine/\Q .non (upd H2 la (.lst (us++[v2]))):=λ{H2 ρ2 v2} s2 h2 r2=>by
   have rest:∀{w},p=w->(match g2[ln]? with|some (.rl ws)=>if ws.length<1000 then some (W.dat .none,g2.set ln (.rl (ws++[w]))) else none|_=>none)=some (x,g')->∃us,H2 la=some (.lst us)/\us.length<sizeLine/\Q .non (upd H2 la (.lst (us++[v2]))):=λ{w} ew e=>by
    split at e
    ·rename_i ws e3
     exact rich s2 h2 r2 e3 (by rw[ew];exact e)
    ·cases e
   cases p with
   |dat d =>
    dsimp only at e;cases r2 with
    |dat r2 =>
     split at e
     ·rename_i ds e3
      exact plain s2 h2 r2 e3 e
     ·rename_i ws e3
      exact rich s2 h2 (.dat r2) e3 e
     ·cases e
   |ref n=>exact rest rfl e
   |inp n=>exact rest rfl e
   |ty n=>exact rest rfl e
   |exc n m=>exact rest rfl e
   |tup n=>exact rest rfl e
  obtain⟨us0,h0⟩:=ZLj hil h1 hn;refine⟨.inl ⟨rfl,_,SqL.of h0⟩,ρ1,sd,g1,[p],g2,r.step s1 h1,by show(d sd g1).bind _=_;rw[e2];rfl,λvs H2 ρ2 s2 h2 r2=>?_⟩;cases r2 with
  |cons r2 t =>
   cases t;obtain⟨us,k1,k2,k3⟩:=both s2 h2 r2;exact⟨_,us,_,rfl,rfl,k1,k2,k3⟩
 |dat r1=>cases r1 <;> cases e
 |_=>cases e
def ZEk(dl di d:DE):DS:=λsd g=>(d sd g).bind λv=>(dl sd v.2).bind λl=>(di sd l.2).bind λi=>match l.1,i.1,v.1 with
 |.ref n,.dat (.int k),.dat x=>match i.2[n]? with
  |some (.pl ds)=>(ixN ds.length k).map λj=>.nx sd (i.2.set n (.pl (ds.set j x)))
  |some (.rl ws)=>(ixN ws.length k).map λj=>.nx sd (i.2.set n (.rl (ws.set j (.dat x))))
  |_=>none
 |.ref n,.dat (.int k),x=>match i.2[n]? with
  |some (.rl ws)=>(ixN ws.length k).map λj=>.nx sd (i.2.set n (.rl (ws.set j x)))
  |_=>none
 |_,_,_=>none
theorem ZLw{o i e:Expr}{dl di d:DE}{pos tpos:Pos}(he:PE X e (tE X.K d))(ho:PE X o (tE X.K dl))(hi:PE X i (tE X.K di))(ha:∀v,assign (.Subscript o i tpos) X.env v=(do
   let ov ←holding [v] (eval o X.env)
   let iv ←holding [v,ov] (eval i X.env)
   standAt tpos
   holding [v,ov,iv] (setItem ov iv v)
   release [v,ov,iv] []):=by intro _;rfl) (hs:swapsWithSole [.Subscript o i tpos] e pos.line X.env=pure false:=by rfl) (hw:swappedStores [.Subscript o i tpos] e X.env=pure none:=by rfl)
  (h1:(assignEach [.Subscript o i tpos] X.env).map (·.2)=[assign (.Subscript o i tpos) X.env]:=by rfl):PS X (.Assign [.Subscript o i tpos] e pos) (tS X.K (ZEk dl di d)):=(ZFL he (ZHX ho hi ZIV ha) hs hw h1).imp λD σ H ⟨ρ,sd,g,oo,r,e,q⟩=>by
 obtain⟨⟨y,g1⟩,e1,e⟩:=bnd e;obtain⟨⟨l,g2⟩,e2,e⟩:=bnd e;obtain⟨⟨k,g3⟩,e3,e⟩:=bnd e;refine⟨ρ,sd,g,y,g1,r,e1,λv H1 ρ1 s1 h1 r1=>⟨ρ1,sd,g1,l,g2,r.step s1 h1,e2,λu H2 ρ2 s2 h2 r2=>⟨ρ2,sd,g2,k,g3,r.step (s1.trans s2) h2,e3,λt H3 ρ3 s3 h3 r3=>?_⟩⟩⟩;have r1':=(r1.mono s2).mono s3;have r2':=r2.mono s3;have sall:=s1.trans (s2.trans s3);cases r2' with
 |@ref la ln hn =>
  cases r3 with
  |dat r3 =>
   cases r3 with
   |int kk =>
    have rich:∀{ws:List W},g3[ln]? = some (.rl ws)->((ixN ws.length kk).map λj=>Out.nx sd (g3.set ln (.rl (ws.set j y))))=some oo->∃p xs k n,V.ref la=V.ref p/\V.int kk=V.int k/\H3 p=some (.lst xs)/\ixN xs.length k=some n/\D.nx σ (upd H3 p (.lst (xs.set n v))):=λ{ws} e4 e=>by
     obtain⟨j,e5,e⟩:=mp e;cases e;obtain⟨a',k1,us,k2,k3⟩:=h3.ce _ _ e4;rw[hn] at k1;cases k1;obtain⟨hw,sw⟩:=h3.writeC hn (o:=.lst (us.set j v)) (c:=.rl (ws.set j y)) (λu e=>by rw[k2] at e;cases e;rfl) (λs=>⟨_,ZG,(k3.set r1' j).mono s⟩);exact⟨_,us,kk,j,rfl,rfl,k2,by rw[k3.length];exact e5,q σ _ ρ3 (sall.trans sw) (r.step (sall.trans sw) hw)⟩
    have rest:∀{w},y=w->(match g3[ln]? with|some (.rl ws)=>((ixN ws.length kk).map λj=>Out.nx sd (g3.set ln (.rl (ws.set j w))))|_=>none)=some oo->∃p xs k n,V.ref la=V.ref p/\V.int kk=V.int k/\H3 p=some (.lst xs)/\ixN xs.length k=some n/\D.nx σ (upd H3 p (.lst (xs.set n v))):=λ{w} ew e=>by
     split at e
     ·rename_i ws e4
      exact rich e4 (by rw[ew];exact e)
     ·cases e
    cases y with
    |dat d =>
     dsimp only at e
     split at e
     ·rename_i ds e4
      obtain⟨j,e5,e⟩:=mp e;cases e;obtain⟨a',us,k1,k2,k3⟩:=h3.at_ _ _ e4;rw[hn] at k1;cases k1;cases r1' with
      |dat r1' =>
       obtain⟨hw,sw⟩:=h3.write hn k2 (k3.set r1' j);exact⟨_,us,kk,j,rfl,rfl,k2,by rw[k3.length];exact e5,q σ _ ρ3 (sall.trans sw) (r.step (sall.trans sw) hw)⟩
     ·rename_i ws e4
      exact rich e4 e
     ·cases e
    |ref n=>exact rest rfl e
    |inp n=>exact rest rfl e
    |ty n=>exact rest rfl e
    |exc n m=>exact rest rfl e
    |tup n=>exact rest rfl e
   |_=>cases e
  |_=>cases e
 |dat r2=>cases e
 |_=>cases e
end
structure JE (X:Cx) (e:Expr) (d:DE):Prop where
 h:PE X e (tE X.K d)
structure JT (X:Cx) (e:Expr) (d:DB):Prop where
 h:PT X e (tT X.K d)
structure JW (X:Cx) (e:Expr) (d:DB):Prop where
 h:PW X e (tT X.K d)
structure JA (X:Cx) (e:List Expr) (d:DA):Prop where
 h:PA X e (tA X.K d)
structure JS (X:Cx) (e:Stmt) (d:DS):Prop where
 h:PS X e (tS X.K d)
structure JSs (X:Cx) (e:List Stmt) (d:DS):Prop where
 h:PSs X e (tS X.K d)
structure JG (X:Cx) (e:Expr) (d:Pat):Prop where
 h:PG X e (gP X.K d)
structure JGs (X:Cx) (e:List Expr) (d:Pats):Prop where
 h:PGs X e (gPs X.K d)
structure JI (X:Cx) (tg e:Expr) (d:DI):Prop where
 h:PI X tg e (tI X.K d)
structure JO (X:Cx) (e:Option Expr) (d:DO):Prop where
 h:PO X e (tO X.K d)
structure JTs (X:Cx) (e:List Expr) (d:DB):Prop where
 h:PTs X e (tT X.K d)
theorem JW.pt{X:Cx}{e:Expr}{d:DB}(j:JW X e d):JT X e d:=⟨j.h.pt⟩
section
variable{X:Cx}{a b c e:Expr}{es:List Expr}{da db dc d:DE}{ta tb:DB}{aa:DA}{pos p2:Pos}{f f':W->W->G->Option (W×G)}
theorem ZI7(i:Nat){x:Str}{pos:Pos}(hN:X.N[i]? = some x:=by rfl)(hv:Vis X.env.scope x:=by first|exact Or.inl rfl|exact Or.inr (Or.inl rfl)|exact Or.inr (Or.inr rfl))(hd:(x == ("__debug__" : Str))=false:=by decide)(hcd:(x == ("__classdict__" : Str))=false:=by decide):JE X (.Name x pos) (ZB i):=⟨ZLV i hN hv hd hcd⟩
theorem ZIz{i j pos}:JE X (.Constant (.int i) j pos) (dC (.int i)):=⟨ZKr ⟩
theorem ZLG{b j pos}:JE X (.Constant (.bool b) j pos) (dC (.bool b)):=⟨de_bl ⟩
theorem ZJl{x j pos}:JE X (.Constant (.str x) j pos) (dC (.str x)):=⟨ZLF ⟩
theorem ZF4{x:Str}{n:Int}(hg:Gl X x)(h:ZJu X.mg x n)(hd:(x == ("__debug__" : Str))=false:=by decide):JE X (.Name x pos) (dC (.int n)):=⟨ZHi hg h hd⟩
theorem ZKY{op:Operator}(ho:OpR X (binaryOp op) (rOp X.K f))(ha:JE X a da)(hb:JE X b db):JE X (.BinOp a op b pos) (dOp f da db):=⟨de_op ho ha.h hb.h⟩
theorem ZI5{op:CmpOp}(ho:OpR X (compareOp op) (rOp X.K f))(ha:JE X a da)(hb:JE X b db)(hm:behindInMarks op b=false):JE X (.Compare a [op] [b] pos) (dOp f da db):=⟨ZK0 ho ha.h hb.h hm⟩
theorem ZE5(ho:IxR X (rOp X.K f))(ha:JE X a da)(hb:JE X b db)(hs:ZEA b):JE X (.Subscript a b pos) (dOp f da db):=⟨de_ix ho ha.h hb.h hs⟩
theorem ZJy{op:CmpOp}(ho:OpR X (compareOp op) (rOp X.K f))(ha:JE X a da)(hb:JE X b db)(hm:behindInMarks op b=false):JT X (.Compare a [op] [b] pos) (dB (dOp f da db)):=⟨ZLN ho ha.h hb.h hm⟩
theorem ZJw(h:JE X e d)(he:∀whole,isTrue e X.env whole=(do let v ←whole;standAt e.pos;holding [v] (truthy v)):=by intro _;rfl):JT X e (dB d):=⟨ZKn h.h he⟩
theorem ZGk{op op':CmpOp}(ho:OpR X (compareOp op) (rOp X.K f))(ho':OpR X (compareOp op') (rOp X.K f'))(ha:JE X a da)(hb:JE X b db)(hc:JE X c dc)(hm:lastMarks [op,op'] [b,c]=false:=by with_unfolding_all rfl):JT X (.Compare a [op,op'] [b,c] pos) (dB (ZBd f f' da db dc)):=⟨ZG9 ho ho' ha.h hb.h hc.h hm⟩
theorem ZIv(h:JT X a ta):JT X (.UnaryOp .Not a pos) (ZC7 ta):=⟨ZLy h.h⟩
theorem ZID(h:JT X a ta):JW X (.BoolOp .And [a] pos) ta:=⟨ZJm h.h⟩
theorem ZJV(h:JT X a ta):JW X (.BoolOp .Or [a] pos) ta:=⟨ZLp h.h⟩
theorem ZFo{rest:List Expr}(ha:JT X a ta)(hb:JW X (.BoolOp .And (b::rest) pos) tb):JW X (.BoolOp .And (a::b::rest) pos) (ZDu ta tb):=⟨ZLr ha.h hb.h⟩
theorem ZHu{rest:List Expr}(ha:JT X a ta)(hb:JW X (.BoolOp .Or (b::rest) pos) tb):JW X (.BoolOp .Or (a::b::rest) pos) (dOr ta tb):=⟨dw_or ha.h hb.h⟩
theorem ZIw{op}(h:JE X a da):JE X (.BoolOp op [a] pos) da:=⟨ZK2 h.h⟩
theorem ZJb{rest:List Expr}(ha:JE X a da)(hb:JE X (.BoolOp .And (b::rest) pos) db):JE X (.BoolOp .And (a::b::rest) pos) (ZBA da db):=⟨ZKl ha.h hb.h⟩
theorem ZLf{rest:List Expr}(ha:JE X a da)(hb:JE X (.BoolOp .Or (b::rest) pos) db):JE X (.BoolOp .Or (a::b::rest) pos) (ZGU da db):=⟨de_or ha.h hb.h⟩
theorem ZJx(ha:JE X a da):JE X (.UnaryOp .Not a pos) (ZEy da):=⟨ZLO ha.h⟩
theorem ZKP(hc:JT X c ta)(ha:JE X a da)(hb:JE X b db):JE X (.IfExp c a b pos) (dIf ta da db):=⟨de_if hc.h ha.h hb.h⟩
theorem ZIx  : JA X [] ZC:=⟨ZH7 ⟩
theorem ZIO(ha:JE X e d)(hr:JA X es aa)(hs:starEach (e::es) X.env=(false,eval e X.env)::starEach es X.env:=by rfl):JA X (e::es) (ZA d aa):=⟨ZFy ha.h hr.h hs⟩
theorem ZJe{x1}(h:JA X es aa):JE X (.Tuple es x1 pos) (dF ZAz aa):=⟨ZK1 h.h⟩
theorem ZJY(h:JA X es aa):JE X (.List es pos) (dF ZJO aa):=⟨ZK4 h.h⟩
theorem ZHj(h:JA X es aa):JE X (.List es pos) (dF ZCb aa):=⟨ZIe h.h⟩
end
section
variable{X:Cx}{x:Str}{p pos:Pos}{e:Expr}{es:List Expr}{aa:DA}{id T:String}{fn:List W->G->Option (W×G)}
theorem ZDg(hc:ZJ X (.builtin id) (rF X.K fn))(hg:Gl X x)(hm:X.mg x=none)(hv:bootBuiltins x=some (.builtin id))(ha:JA X (e::es) aa)(hn:x≠"__name__":=by decide)(hdb:(x == ("__debug__" : Str))=false:=by decide)(he:starEach (e::es) X.env=(false,eval e X.env)::starEach es X.env:=by rfl)(hpl:(backTo pos (starEach es X.env)).any (·.1)=false:=by rfl):JE X (.Call (.Name x p) (e::es) [] pos) (dF fn aa):=⟨ZII hc hg hm hv ha.h hn hdb he hpl⟩
theorem ZFC(hc:ZJ X (.type T) (rF X.K fn))(hg:Gl X x)(hm:X.mg x=none)(hv:bootBuiltins x=some (.type T))(ha:JA X (e::es) aa)(hn:x≠"__name__":=by decide)(hdb:(x == ("__debug__" : Str))=false:=by decide)(he:starEach (e::es) X.env=(false,eval e X.env)::starEach es X.env:=by rfl)(hpl:(backTo pos (starEach es X.env)).any (·.1)=false:=by rfl):JE X (.Call (.Name x p) (e::es) [] pos) (dF fn aa):=⟨ZGF hc hg hm hv ha.h hn hdb he hpl⟩
theorem ZG8{st:Stmt}{ps:List Str}{f:Addr}{fd:FuncData}{k n:Nat}(D:Def X.K X.mg x st ps f fd)(F:FnOk X.prog X.w X.K X.mg X.base CX0 k f fd ps (spD X.K n fn))(hr:Room k X.A)(ha:JA X (e::es) aa)(hm:Many aa n)(hg:Gl X x:=by rfl)(hdb:(x == ("__debug__" : Str))=false:=by decide)(he:starEach (e::es) X.env=(false,eval e X.env)::starEach es X.env:=by rfl)(hpl:(backTo pos (starEach es X.env)).any (·.1)=false:=by rfl):JE X (.Call (.Name x p) (e::es) [] pos) (dF fn aa):=⟨ZJM D F hr ha.h hm hg hdb he hpl⟩
end
section
variable{X:Cx}{pos:Pos}
theorem ZLA{i:Nat}{x:Str}(hN:X.N.Nodup)(hi:X.N[i]? = some x)(hx:Loc X.env.scope x)(hf:X.fn x=true∨X.env.scope.names.lookup x=some .local:=by first|exact .inl rfl|exact .inr rfl|assumption):JG X (.Name x pos) (.nm i):=⟨dg_nm hN hi hx hf⟩
theorem ZKv{es:List Expr}{k:Nat}{ps:Pats}(hc:X.calm=true)(h:JGs X es ps)(hn:(assignEach es X.env).length=ps.len:=by rfl)(hst:(assignEach es X.env).findIdx? (·.1)=none:=by rfl):JG X (.Tuple es k pos) (.tp ps):=⟨dg_tp hc h.h hn hst⟩
theorem ZJQ  : JGs X [] .nil:=⟨ZKt ⟩
theorem ZG3{e:Expr}{es:List Expr}{p:Pat}{ps:Pats}(h1:JG X e p)(h2:JGs X es ps)(hs:(assignEach (e::es) X.env).map (·.2)=assign e X.env::(assignEach es X.env).map (·.2):=by rfl):JGs X (e::es) (.cons p ps):=⟨ZJG h1.h h2.h hs⟩
end
section
variable{X:Cx}{pos:Pos}{st:Stmt}{rest ss:List Stmt}{a b:DS}{d:DE}{e c:Expr}{tc:DB}
theorem ZHC  : JSs X [] dNx:=⟨ZJc ⟩
theorem ZH6(h:JS X st a):JSs X [st] a:=⟨ZJi h.h⟩
theorem ZGK(h1:JS X st a)(h2:JSs X rest b):JSs X (st::rest) (Zb a b):=⟨ZIP h1.h h2.h⟩
theorem ZIa{i:Nat}{x:Str}{pos':Pos}(hN:X.N.Nodup)(hi:X.N[i]? = some x)(hx:Loc X.env.scope x)(he:JE X e d)(hs:swapsWith e (some (.Name x pos')) pos.line X.env=pure false:=by rfl)(hf:X.fn x=true∨X.env.scope.names.lookup x=some .local:=by first|exact .inl rfl|exact .inr rfl|assumption):JS X (.Assign [.Name x pos'] e pos) (ZAH i d):=⟨ZLL hN hi hx he.h hs hf⟩
theorem ZFj{tg:Expr}{pt:Pat}(he:JE X e d)(hg:JG X tg pt)(hs:swapsWithSole [tg] e pos.line X.env=pure false:=by rfl)(hw:swappedStores [tg] e X.env=pure none:=by rfl)(h1:(assignEach [tg] X.env).map (·.2)=[assign tg X.env]:=by rfl):JS X (.Assign [tg] e pos) (ZGP pt d):=⟨ZL7 he.h hg.h hs hw h1⟩
theorem ZIg(he:JE X e d):JS X (.Return (some e) pos) (ZN d):=⟨ZKj he.h⟩
theorem ZHk(he:JE X e d)(hs:swapsWith e none pos.line X.env=pure false:=by rfl):JS X (.Expr e pos) (ZEZ d):=⟨ZJn he.h hs⟩
theorem ZKZ{sa sb:List Stmt}(hc:JT X c tc)(ha:JSs X sa a)(hb:JSs X sb b):JS X (.If c sa sb pos) (ZBN tc a b):=⟨ds_if hc.h ha.h hb.h⟩
end
section
variable{X:Cx}{tg:Expr}{pos:Pos}
theorem ZJg{l:Expr}{d:DE}(hl:JE X l d):JI X tg l (ZBG d):=⟨ZLa hl.h⟩
theorem ZFP{a:Expr}{da:DA}{p pos:Pos}(hg:Gl X "range")(hm:X.mg "range" = none)(ha:JA X [a] da)(hs:starEach [a] X.env=[(false,eval a X.env)]:=by rfl)(hn:Many da 1):JI X tg (.Call (.Name "range" p) [a] [] pos) (ZBM da):=⟨ZGV hg hm ha.h hs hn⟩
theorem ZJt{a b:Expr}{da:DA}{p pos:Pos}(hg:Gl X "zip")(hm:X.mg "zip" = none)(ha:JA X [a,b] da)(hs:starEach [a,b] X.env=[(false,eval a X.env),(false,eval b X.env)]:=by rfl)(hs2:starEach [b] X.env=[(false,eval b X.env)]:=by rfl)(hn:Many da 2):JI X tg (.Call (.Name "zip" p) [a,b] [] pos) (ZER da):=⟨ZLK hg hm ha.h hs hs2 hn⟩
end
section
variable{X:Cx}{tg iter:Expr}{pos:Pos}{di:DI}{pt:Pat}{db:DS}
theorem ZJk{body:List Stmt}(hp:PassesOwn (model X.prog X.w) X.A X.env X.xe)(hc:X.calm=true)(hi:JI X tg iter di)(hg:JG X tg pt)(hb:JSs X body db)(hs:∀x,foldedSetIterable iter X.env x=pure x:=by intro _;rfl):JS X (.For tg iter body [] pos) (ZFE pt di db):=⟨ZL6 hp hc hi.h hg.h hb.h hs⟩
theorem ZHz{X:Cx}:JTs X [] ZA7:=⟨ZIk ⟩
theorem ZIG{X:Cx}{c:Expr}{d:DB}(h:JT X c d):JTs X [c] d:=⟨ZI9 h.h⟩
end
section
variable{X:Cx}{tg elt iter:Expr}{ifs:List Expr}{scope sc:Scope}{pos:Pos}{di:DI}{pt:Pat}{dt:DB}{de:DE}{N NX:List Str}{own:Nat}{cap:List Nat}
theorem ZHP(hc:X.calm=true)(hi:JI X tg iter di)(hsc:X.env.scope=sc)(hNX:X.N=NX)(hb:∀cl C s0 H0 fp,JG (blk X N (compEnvC scope cl C X.env) s0 H0 fp) tg pt/\JTs (blk X N (compEnvC scope cl C X.env) s0 H0 fp) ifs dt/\JE (blk X N (compEnvC scope cl C X.env) s0 H0 fp) elt de)(co:ZC8 sc scope NX N own cap=true)(hp:pt.all (λi=>decide (i<own))=true)(hs:∀x,foldedSetIterable iter X.env x=pure x:=by intro _;rfl):JE X (.ListComp elt [⟨tg,iter,ifs,0⟩] scope pos) (Ze own cap pt di dt de):=⟨ZI4 hc hi.h hsc hNX (λcl C s0 H0 fp=>⟨(hb cl C s0 H0 fp).1.h,(hb cl C s0 H0 fp).2.1.h,(hb cl C s0 H0 fp).2.2.h⟩) co hp hs⟩
theorem ZHh{i:Nat}{x:Str}{py spos:Pos}(hN:X.N.Nodup)(hi:X.N[i]? = some x)(hx:Loc X.env.scope x)(hc:X.calm=true)(hit:JI X tg iter di)(hsc:X.env.scope=sc)(hNX:X.N=NX)(hb:∀cl C s0 H0 fp,JG (blk X N (compEnvC scope cl C X.env) s0 H0 fp) tg pt/\JTs (blk X N (compEnvC scope cl C X.env) s0 H0 fp) ifs dt/\JE (blk X N (compEnvC scope cl C X.env) s0 H0 fp) elt de)(co:ZC8 sc scope NX N own cap=true)(hp:pt.all (λi=>decide (i<own))=true)(hsw:swapsWith (.ListComp elt [⟨tg,iter,ifs,0⟩] scope pos) (some (.Name x py)) spos.line X.env=pure true:=by rfl)(hs:∀x,foldedSetIterable iter X.env x=pure x:=by intro _;rfl)(hf:X.fn x=true∨X.env.scope.names.lookup x=some .local:=by first|exact .inl rfl|exact .inr rfl|assumption):JS X (.Assign [.Name x py] (.ListComp elt [⟨tg,iter,ifs,0⟩] scope pos) spos) (ZAH i (Ze own cap pt di dt de)):=⟨ZJz hN hi hx hc hit.h hsc hNX (λcl C s0 H0 fp=>⟨(hb cl C s0 H0 fp).1.h,(hb cl C s0 H0 fp).2.1.h,(hb cl C s0 H0 fp).2.2.h⟩) co hp hsw hs hf⟩
end
section
variable{X:Cx}
theorem ZIR  : JO X none ZA3:=⟨ZJF ⟩
theorem ZIL{e:Expr}{d:DE}(h:JE X e d):JO X (some e) (ZCA d):=⟨ZJP h.h⟩
theorem ZLH{e:Expr}{lo hi:Option Expr}{d:DE}{l h:DO}{pos p2:Pos}(he:JE X e d)(hl:JO X lo l)(hh:JO X hi h):JE X (.Subscript e (.Slice lo hi none p2) pos) (dSl d l h):=⟨de_sl he.h hl.h hh.h⟩
theorem ZMH{x:Str}{n:String}{pos:Pos}(hg:Gl X x)(hm:X.mg x=none)(hv:bootBuiltins x=some (.type n))(hn:x≠"__name__":=by decide)(hd:(x == ("__debug__" : Str))=false:=by decide):JE X (.Name x pos) (λ_ g=>some (.ty n,g)):=⟨de_ty hg hm hv hn hd⟩
theorem ZJ2{o e:Expr}{dl d:DE}{apos cpos:Pos}(ho:JE X o dl)(he:JE X e d)(hbase:attributeBase o "append" X.env (eval o X.env)=eval o X.env:=by rfl)(hfew:((backTo cpos (starEach [e] X.env)).all (λx=>!x.1) && (backToKw cpos (keywordEach [] X.env)).all (λx=>x.1.isSome)
   && decide ([e].length+([]:List Keyword).length+(if ([]:List Keyword).isEmpty then 0 else 1)<30))=true:=by rfl) (hline:(apos.endLine == cpos.line)=true:=by rfl) (hs:starEach [e] X.env=(false,eval e X.env)::starEach [] X.env:=by rfl) (hplain:(backTo cpos (starEach [] X.env)).any (·.1)=false:=by rfl):JE X (.Call (.Attribute o "append" apos) [e] [] cpos) (ZH8 dl d):=⟨ZK7 ho.h he.h hbase hfew hline hs hplain⟩
theorem ZJs{o i e:Expr}{dl di d:DE}{pos tpos:Pos}(he:JE X e d)(ho:JE X o dl)(hi:JE X i di)(ha:∀v,assign (.Subscript o i tpos) X.env v=(do
   let ov ←holding [v] (eval o X.env)
   let iv ←holding [v,ov] (eval i X.env)
   standAt tpos
   holding [v,ov,iv] (setItem ov iv v)
   release [v,ov,iv] []):=by intro _;rfl) (hs:swapsWithSole [.Subscript o i tpos] e pos.line X.env=pure false:=by rfl) (hw:swappedStores [.Subscript o i tpos] e X.env=pure none:=by rfl) (h1:(assignEach [.Subscript o i tpos] X.env).map (·.2)=[assign (.Subscript o i tpos) X.env]:=by rfl):JS X (.Assign [.Subscript o i tpos] e pos) (ZEk dl di d):=⟨ZLw he.h ho.h hi.h ha hs hw h1⟩
end
theorem ZL{P:Program}{w:World}{K:PySem.W.Frag}{mg:Str->Option Value}{base:Heap}{x qual:Str}{st:Stmt}{f:Addr}{fd:FuncData}{N ps:List Str}{k n m:Nat}{d:DS}{r:List W->G->Option (W×G)}(e:r=ZAA n d)(hn:N.length=n)(hm:ps.length=m)(F:Fun K x qual st f fd)(S:FnScope N ps (ZD st))
  (hb:∀(cdv:Value) (A:Around) (outer:List Env) (s:Shared) (H:Hp) (E:XK),Room k (A.deeper (envOfC qual (ZD st) s.heap.objs.size f cdv))->JSs (ZEw CX0 P w K mg base N qual (ZD st) f cdv A outer s H E).nox (Z5 st) d) :
  FnOk P w K mg base CX0 (k+1) f fd ps (spD K m r):=by
 subst e hn hm;exact ZLM F S λcdv A outer s H E hr=>(hb cdv A outer s H E hr).h
theorem ZJ0{X:Cx}{a b c:Int}{j1 j2}{p1 p2 pos:Pos}(hc:ZML a b)(h:a ^ b.toNat=c):JE X (.BinOp (.Constant (.int a) j1 p1) .Pow (.Constant (.int b) j2 p2) pos) (dC (.int c)):=⟨(ZJ8 ZLC ZFT ZFT).imp λσ H Q ⟨ρ,sd,g,x,g',r,e,q⟩=>by
 cases e;exact⟨a,b,rfl,rfl,hc,by show Q (.int (a ^ b.toNat)) H;rw[h];exact q _ H ρ .refl r.hr (.dat (.int _))⟩⟩
structure EvP {α : Type} (o:Option (α×G)) (P : α->G->Prop):Prop where
 h:∃x g,o=some (x,g)/\P x g
section
variable{α : Type}{P : α->G->Prop}{g:G}
theorem ZAf{x : α}(h:P x g):EvP (some (x,g)) P:=⟨x,g,rfl,h⟩
theorem ZLs{o:Option (α×G)}{x : α}(e:o=some (x,g))(h:P x g):EvP o P:=⟨x,g,e,h⟩
theorem ZA1{c:Prop}[Decidable c]{A B:Option (α×G)}(h:c)(h1:EvP A P):EvP (if c then A else B) P:=by rw[if_pos h];exact h1
theorem ZE2{β : Type}{o:Option β}{y : β}{f : β->α×G}{x : α}(e:o=some y)(e2:f y=(x,g))(h:P x g):EvP (o.map f) P:=by
 subst e;exact⟨x,g,congrArg some e2,h⟩
end
section
variable{sd:Sd}{g:G}{da db dc d:DE}{ta tb:DB}{aa:DA}{f f':W->W->G->Option (W×G)}{P:W->G->Prop}{PB:Bool->G->Prop}{PA':List W->G->Prop}
theorem x_c{d:PyData}(h:P (.dat d) g):EvP (dC d sd g) P:=⟨_,_,rfl,h⟩
theorem x_op(h:EvP (da sd g) λx g1=>EvP (db sd g1) λy g2=>EvP (f x y g2) P):EvP (dOp f da db sd g) P:=by
 obtain⟨x,g1,e1,y,g2,e2,z,g3,e3,h⟩:=h;exact⟨z,g3,by unfold dOp;rw[e1];show(db sd g1).bind _=_;rw[e2];exact e3,h⟩
structure asB (PB:Bool->G->Prop) (x:W) (g:G):Prop where
 h:∃b,x=.dat (.bool b)/\PB b g
theorem as_b{b:Bool}(h:PB b g):asB PB (.dat (.bool b)) g:=⟨b,rfl,h⟩
theorem x_b(h:EvP (d sd g) (asB PB)):EvP (dB d sd g) PB:=by
 obtain⟨x,g1,e1,b,rfl,h⟩:=h;exact⟨b,g1,by unfold dB;rw[e1];rfl,h⟩
theorem x_not(h:EvP (ta sd g) λb g1=>PB (!b) g1):EvP (ZC7 ta sd g) PB:=by
 obtain⟨x,g1,e1,h⟩:=h;exact⟨_,g1,by unfold ZC7;rw[e1];rfl,h⟩
theorem x_and(h:EvP (ta sd g) λb g1=>(b=true->EvP (tb sd g1) PB)/\(b=false->PB false g1)):EvP (ZDu ta tb sd g) PB:=by
 obtain⟨x,g1,e1,h1,h2⟩:=h;cases x with
 |true =>
  obtain⟨y,g2,e2,h⟩:=h1 rfl;exact⟨y,g2,by unfold ZDu;rw[e1];exact e2,h⟩
 |false=>exact⟨false,g1,by unfold ZDu;rw[e1];rfl,h2 rfl⟩
theorem x_or(h:EvP (ta sd g) λb g1=>(b=true->PB true g1)/\(b=false->EvP (tb sd g1) PB)):EvP (dOr ta tb sd g) PB:=by
 obtain⟨x,g1,e1,h1,h2⟩:=h;cases x with
 |false =>
  obtain⟨y,g2,e2,h⟩:=h2 rfl;exact⟨y,g2,by unfold dOr;rw[e1];exact e2,h⟩
 |true=>exact⟨true,g1,by unfold dOr;rw[e1];rfl,h1 rfl⟩
theorem ZKN(h:EvP (da sd g) (asB λb g1=>(b=true->EvP (db sd g1) P)/\(b=false->P (.dat (.bool false)) g1))):EvP (ZBA da db sd g) P:=by
 obtain⟨x,g1,e1,b,rfl,h1,h2⟩:=h;cases b with
 |true =>
  obtain⟨y,g2,e2,h⟩:=h1 rfl;exact⟨y,g2,by unfold ZBA;rw[e1];exact e2,h⟩
 |false=>exact⟨_,g1,by unfold ZBA;rw[e1];rfl,h2 rfl⟩
theorem x_orV(h:EvP (da sd g) (asB λb g1=>(b=true->P (.dat (.bool true)) g1)/\(b=false->EvP (db sd g1) P))):EvP (ZGU da db sd g) P:=by
 obtain⟨x,g1,e1,b,rfl,h1,h2⟩:=h;cases b with
 |false =>
  obtain⟨y,g2,e2,h⟩:=h2 rfl;exact⟨y,g2,by unfold ZGU;rw[e1];exact e2,h⟩
 |true=>exact⟨_,g1,by unfold ZGU;rw[e1];rfl,h1 rfl⟩
theorem ZFS(h:EvP (da sd g) (asB λb g1=>P (.dat (.bool !b)) g1)):EvP (ZEy da sd g) P:=by
 obtain⟨x,g1,e1,b,rfl,h⟩:=h;exact⟨_,g1,by unfold ZEy;rw[e1];rfl,h⟩
theorem x_if(h:EvP (ta sd g) λb g1=>(b=true->EvP (da sd g1) P)/\(b=false->EvP (db sd g1) P)):EvP (dIf ta da db sd g) P:=by
 obtain⟨x,g1,e1,h1,h2⟩:=h;cases x with
 |true =>
  obtain⟨y,g2,e2,h⟩:=h1 rfl;exact⟨y,g2,by unfold dIf;rw[e1];exact e2,h⟩
 |false =>
  obtain⟨y,g2,e2,h⟩:=h2 rfl;exact⟨y,g2,by unfold dIf;rw[e1];exact e2,h⟩
theorem x_nil(h:PA' [] g):EvP (ZC sd g) PA':=⟨_,_,rfl,h⟩
theorem ZLU(h:EvP (d sd g) λx g1=>EvP (aa sd g1) λxs g2=>PA' (x::xs) g2):EvP (ZA d aa sd g) PA':=by
 obtain⟨x,g1,e1,y,g2,e2,h⟩:=h;exact⟨_,g2,by unfold ZA;rw[e1];show(aa sd g1).map _=_;rw[e2];rfl,h⟩
theorem x_f{fn:List W->G->Option (W×G)}(h:EvP (aa sd g) λxs g1=>EvP (fn xs g1) P):EvP (dF fn aa sd g) P:=by
 obtain⟨x,g1,e1,y,g2,e2,h⟩:=h;exact⟨y,g2,by unfold dF;rw[e1];exact e2,h⟩
theorem ZJv(h:EvP (da sd g) λx g1=>EvP (db sd g1) λy g2=>EvP (f x y g2) (asB λb g3=>(b=true->EvP (dc sd g3) λz g4=>EvP (f' y z g4) P)/\(b=false->P (.dat (.bool false)) g3))):EvP (ZBd f f' da db dc sd g) P:=by
 obtain⟨x,g1,e1,y,g2,e2,z,g3,e3,b,rfl,h1,h2⟩:=h;cases b with
 |true =>
  obtain⟨u,g4,e4,v,g5,e5,h⟩:=h1 rfl;exact⟨v,g5,by unfold ZBd;rw[e1];show(db sd g1).bind _=_;rw[e2];show(f x y g2).bind _=_;rw[e3];show(dc sd g3).bind _=_;rw[e4];exact e5,h⟩
 |false=>exact⟨_,g3,by unfold ZBd;rw[e1];show(db sd g1).bind _=_;rw[e2];show(f x y g2).bind _=_;rw[e3];rfl,h2 rfl⟩
theorem ZHn{PO':Option Int->G->Prop}(h:PO' none g):EvP (ZA3 sd g) PO':=⟨_,_,rfl,h⟩
structure asI (PO':Option Int->G->Prop) (x:W) (g:G):Prop where
 h:∃i,x=.dat (.int i)/\PO' (some i) g
theorem as_i{PO':Option Int->G->Prop}{i:Int}(h:PO' (some i) g):asI PO' (.dat (.int i)) g:=⟨i,rfl,h⟩
theorem ZKd{PO':Option Int->G->Prop}(h:EvP (d sd g) (asI PO')):EvP (ZCA d sd g) PO':=by
 obtain⟨x,g1,e1,i,rfl,h⟩:=h;exact⟨some i,g1,by unfold ZCA;rw[e1];rfl,h⟩
theorem x_sl{l u:DO}(h:EvP (d sd g) λx g1=>EvP (l sd g1) λi g2=>EvP (u sd g2) λj g3=>EvP (slO x i j g3) P):EvP (dSl d l u sd g) P:=by
 obtain⟨x,g1,e1,i,g2,e2,j,g3,e3,z,g4,e4,h⟩:=h;exact⟨z,g4,by unfold dSl;rw[e1];show(l sd g1).bind _=_;rw[e2];show(u sd g2).bind _=_;rw[e3];exact e4,h⟩
structure EvI (o:Option (List PyData×Option Nat×G)) (P:List PyData->Option Nat->G->Prop):Prop where
 h:∃xs src g,o=some (xs,src,g)/\P xs src g
theorem ZLe{PI':List PyData->Option Nat->G->Prop}{xs:List PyData}{src:Option Nat}(h:PI' xs src g):EvI (some (xs,src,g)) PI':=⟨_,_,_,rfl,h⟩
theorem ZLD{PI':List PyData->Option Nat->G->Prop}(h:EvP (d sd g) λx g1=>EvI (ZJ6 x g1) PI'):EvI (ZBG d sd g) PI':=by
 obtain⟨x,g1,e1,xs,src,g2,e2,h⟩:=h;exact⟨xs,src,g2,by unfold ZBG;rw[e1];exact e2,h⟩
theorem ZCt{PI':List PyData->Option Nat->G->Prop}{j:Int}{g1:G}(h:EvP (aa sd g) λws g1=>∃j:Int,ws=[.dat (.int j)]/\(j<=1000/\-1000<=j)/\PI' (ZDC j.toNat 0) none g1):EvI (ZBM aa sd g) PI':=by
 obtain⟨ws,g1,e1,j,rfl,hj,h⟩:=h;exact⟨_,_,g1,by unfold ZBM;rw[e1];exact if_pos hj,h⟩
theorem ZLg{PI':List PyData->Option Nat->G->Prop}(h:EvP (aa sd g) λws g1=>∃ds es:List PyData,ws=[.dat (.tuple ds),.dat (.tuple es)]/\PI' (ZA8 ds es) none g1):EvI (ZER aa sd g) PI':=by
 obtain⟨ws,g1,e1,j,k,rfl,h⟩:=h;exact⟨_,_,g1,by unfold ZER;rw[e1];rfl,h⟩
theorem ZKh{own:Nat}{cap:List Nat}{pt:Pat}{di:DI}{dt:DB}{de:DE}(h:EvI (di sd g) λxs src g1=>xs.length<=1000/\EvP (ZAB src xs pt dt de (ZGm own cap sd) xs g1) λys g2=>P (.dat (.list ys)) g2):EvP (Ze own cap pt di dt de sd g) P:=by
 obtain⟨xs,src,g1,e1,hl,ys,g2,e2,h⟩:=h;refine⟨_,g2,?_,h⟩;unfold Ze;rw[e1];show(if xs.length<=1000 then _ else _)=_;rw[if_pos hl];show(ZAB src xs pt dt de (ZGm own cap sd) xs g1).map _=_;rw[e2];rfl
structure EvS (o:Option Out) (P:Out->Prop):Prop where
 h:∃x,o=some x/\P x
variable{PS':Out->Prop}{a b:DS}
inductive seqP (b:DS) (P:Out->Prop):Out->Prop
 |nx {sd:Sd} {g:G}:EvS (b sd g) P->seqP b P (.nx sd g)
 |rt {x:W} {g:G}:P (.rt x g)->seqP b P (.rt x g)
 |bk {sd:Sd} {g:G}:P (.bk sd g)->seqP b P (.bk sd g)
 |ct {sd:Sd} {g:G}:P (.ct sd g)->seqP b P (.ct sd g)
theorem ZFF(h:EvS (b sd g) PS'):seqP b PS' (.nx sd g):=.nx h
theorem ZL0{x:W}(h:PS' (.rt x g)):seqP b PS' (.rt x g):=.rt h
theorem x_seq(h:EvS (a sd g) (seqP b PS')):EvS (Zb a b sd g) PS':=by
 obtain⟨o,e,h⟩:=h;cases h with
 |nx h =>
  obtain⟨o,e2,h⟩:=h;exact⟨o,by unfold Zb;rw[e];exact e2,h⟩
 |rt h=>exact⟨_,by unfold Zb;rw[e];rfl,h⟩
 |bk h=>exact⟨_,by unfold Zb;rw[e];rfl,h⟩
 |ct h=>exact⟨_,by unfold Zb;rw[e];rfl,h⟩
theorem ZLt(h:PS' (.nx sd g)):EvS (dNx sd g) PS':=⟨_,rfl,h⟩
theorem x_set{i:Nat}(h:EvP (d sd g) λx g1=>PS' (.nx (sd.set i (some x)) g1)):EvS (ZAH i d sd g) PS':=by
 obtain⟨x,g1,e,h⟩:=h;exact⟨_,by unfold ZAH;rw[e];rfl,h⟩
theorem x_asg{pt:Pat}(h:EvP (d sd g) λx g1=>∃sd1,Zi pt x sd=some sd1/\PS' (.nx sd1 g1)):EvS (ZGP pt d sd g) PS':=by
 obtain⟨x,g1,e,sd1,e1,h⟩:=h;exact⟨_,by unfold ZGP;rw[e];show(Zi pt x sd).map _=_;rw[e1];rfl,h⟩
theorem x_ret(h:EvP (d sd g) λx g1=>PS' (.rt x g1)):EvS (ZN d sd g) PS':=by
 obtain⟨x,g1,e,h⟩:=h;exact⟨_,by unfold ZN;rw[e];rfl,h⟩
theorem ZKg(h:EvP (d sd g) λx g1=>PS' (.nx sd g1)):EvS (ZEZ d sd g) PS':=by
 obtain⟨x,g1,e,h⟩:=h;exact⟨_,by unfold ZEZ;rw[e];rfl,h⟩
theorem x_ifS(h:EvP (ta sd g) λk g1=>(k=true->EvS (a sd g1) PS')/\(k=false->EvS (b sd g1) PS')):EvS (ZBN ta a b sd g) PS':=by
 obtain⟨k,g1,e,h1,h2⟩:=h;cases k with
 |true =>
  obtain⟨o,e2,h⟩:=h1 rfl;exact⟨o,by unfold ZBN;rw[e];exact e2,h⟩
 |false =>
  obtain⟨o,e2,h⟩:=h2 rfl;exact⟨o,by unfold ZBN;rw[e];exact e2,h⟩
theorem x_for{pt:Pat}{di:DI}(h:EvI (di sd g) λxs src g1=>EvS (ZA5 src xs pt b xs sd g1) PS'):EvS (ZFE pt di b sd g) PS':=by
 obtain⟨xs,src,g1,e1,o,e2,h⟩:=h;exact⟨o,by unfold ZFE;rw[e1];exact e2,h⟩
theorem x_app{dl:DE}(h:EvP (dl sd g) λl g1=>∃n,l=.ref n/\isL g1 n=true/\EvP (d sd g1) λx g2=>∃y,x=.dat y/\∃ds,g2[n]? = some (.pl ds)/\ds.length<1000/\P (.dat .none) (g2.set n (.pl (ds++[y])))):EvP (ZH8 dl d sd g) P:=by
 obtain⟨l,g1,e1,n,rfl,hil,x,g2,e2,y,rfl,ds,e3,hl,h⟩:=h;refine⟨_,_,?_,h⟩;unfold ZH8;rw[e1];show(if isL g1 n=true then _ else _)=_;rw[if_pos hil];show(d sd g1).bind _=_;rw[e2];show(match g2[n]? with|some (.pl ds)=>_|some (.rl ws)=>_|_=>_)=_;rw[e3];exact if_pos hl
theorem x_sto{dl di:DE}(h:EvP (d sd g) λv g1=>∃x,v=.dat x/\EvP (dl sd g1) λl g2=>∃n,l=.ref n/\EvP (di sd g2) λi g3=>∃k,i=.dat (.int k)/\∃ds,g3[n]? = some (.pl ds)/\∃j,ixN ds.length k=some j/\PS' (.nx sd (g3.set n (.pl (ds.set j x))))):EvS (ZEk dl di d sd g) PS':=by
 obtain⟨v,g1,e1,x,rfl,l,g2,e2,n,rfl,i,g3,e3,k,rfl,ds,e4,j,e5,h⟩:=h;refine⟨_,?_,h⟩;unfold ZEk;rw[e1];show(dl sd g1).bind _=_;rw[e2];show(di sd g2).bind _=_;rw[e3];show(match g3[n]? with|some (.pl ds)=>_|some (.rl ws)=>_|_=>_)=_;rw[e4];show(ixN ds.length k).map _=_;rw[e5];rfl
end
inductive runP (P:W->G->Prop):Out->Prop
 |rt {x:W} {g':G}:P x g'->runP P (.rt x g')
 |nx {sd:Sd} {g':G}:P (.dat .none) g'->runP P (.nx sd g')
theorem ZLm{x:W}{g':G}{P:W->G->Prop}(h:P x g'):runP P (.rt x g'):=.rt h
theorem ZU{n:Nat}{d:DS}{ws:List W}{g:G}{P:W->G->Prop}(h:EvS (d (ws.map some++List.replicate (n-ws.length) none) g) (runP P)):EvP (ZAA n d ws g) P:=by
 obtain⟨o,e,h⟩:=h;unfold ZAA;rw[e];cases h with
 |rt h=>exact⟨_,_,rfl,h⟩
 |nx h=>exact⟨_,_,rfl,h⟩
def stepP(src:Option Nat)(xs:List PyData)(I:Sd->G->Prop)(P:Out->Prop):Out->Prop
 |.nx sd g=>ZAC src xs g/\I sd g
 |.ct sd g=>ZAC src xs g/\I sd g
 |.bk sd g=>P (.nx sd g)
 |.rt x g=>P (.rt x g)
theorem ZAj{α : Type}{src:Option Nat}{xs:List PyData}{g:G}{k:Option α}(h:ZAC src xs g):ZA6 src xs g k=k:=by
 unfold ZA6;cases src with
 |none=>rfl
 |some n=>exact if_pos h
theorem ZDv{src:Option Nat}{xs:List PyData}{pt:Pat}{db:DS}{P:Out->Prop}(I:Nat->Sd->G->Prop){sd:Sd}{g:G}(h0:I 0 sd g)
  (hs:∀i x sd g,xs[i]? = some x->I i sd g->∃sd1,Zi pt (.dat x) sd=some sd1/\EvS (db sd1 g) (stepP src xs (I (i+1)) P))(hd:∀sd g,I xs.length sd g->P (.nx sd g)):EvS (ZA5 src xs pt db xs sd g) P:=by
 have go:∀(k i:Nat) sd g,i+k=xs.length->I i sd g->EvS (ZA5 src xs pt db (xs.drop i) sd g) P:=by
  intro k
  induction k with
  |zero =>
   intro i sd g hi h;have:i=xs.length:=by omega
   subst this
   rw[drop_length,ZA5];exact⟨_,rfl,hd sd g h⟩
  |succ k ih =>
   intro i sd g hi h;have hlt:i<xs.length:=by omega
   rw[List.drop_eq_getElem_cons hlt,ZA5];obtain⟨sd1,e1,o,e2,h2⟩:=hs i xs[i] sd g (getElem?_eq_getElem hlt) h;rw[e1];show EvS ((db sd1 g).bind _) P;rw[e2];cases o with
   |nx sd2 g2=>show EvS (ZA6 _ _ _ _) P;rw[ZAj h2.1];exact ih (i+1) sd2 g2 (by omega) h2.2
   |ct sd2 g2=>show EvS (ZA6 _ _ _ _) P;rw[ZAj h2.1];exact ih (i+1) sd2 g2 (by omega) h2.2
   |bk sd2 g2=>exact⟨_,rfl,h2⟩
   |rt x g2=>exact⟨_,rfl,h2⟩
 exact go xs.length 0 sd g (by omega) h0
theorem ZIH{α : Type}{src:Option Nat}{xs:List PyData}{pt:Pat}{dt:DB}{de:DE}{sd0:Sd}{g:G}(enc : α->PyData)(c : α->Bool)(f : α->PyData)(so:ZAC src xs g):∀L:List α,
  (∀a∈L,∃sd1,Zi pt (.dat (enc a)) sd0=some sd1/\EvP (dt sd1 g) λb g1=>b=c a/\g1=g/\(c a=true->EvP (de sd1 g) λy g2=>y=.dat (f a)/\g2=g))->ZAB src xs pt dt de sd0 (L.map enc) g=some ((L.filter c).map f,g)
 |[],_=>rfl
 |a::L,h=>by
  obtain⟨sd1,e1,b,g1,e2,rfl,rfl,h2⟩:=h a (mem_cons_self ..);rw[map_cons,ZAB,e1];show((dt sd1 g1).bind _)=_;rw[e2];show(if c a=true then _ else _)=_;have ih:=ZIH enc c f so L λz hz=>h z (mem_cons_of_mem _ hz)
  cases hc:c a with
  |true =>
   rw[if_pos rfl];obtain⟨y,g2,e3,rfl,rfl⟩:=h2 hc;rw[e3];show ZA6 src xs g2 _=_;rw[ZAj so,ih,filter_cons_of_pos hc];rfl
  |false =>
   rw[if_neg Bool.false_ne_true,ZAj so,ih,List.filter_cons_of_neg (by rw[hc];exact Bool.false_ne_true)]
theorem ZFl{α : Type}{src:Option Nat}{xs:List PyData}{pt:Pat}{dt:DB}{de:DE}{sd0:Sd}{g:G}{P:List PyData->G->Prop}(enc : α->PyData)(c : α->Bool)(f : α->PyData)(L:List α)(e:xs=L.map enc)(so:ZAC src xs g)
  (h:∀a∈L,∃sd1,Zi pt (.dat (enc a)) sd0=some sd1/\EvP (dt sd1 g) λb g1=>b=c a/\g1=g/\(c a=true->EvP (de sd1 g) λy g2=>y=.dat (f a)/\g2=g))(hP:P ((L.filter c).map f) g):EvP (ZAB src xs pt dt de sd0 xs g) P:=by
 refine⟨_,g,?_,hP⟩
 conv=>lhs;arg 7;rw[e]
 exact ZIH enc c f so L h
theorem ZT{α : Type}{src:Option Nat}{xs:List PyData}{pt:Pat}{de:DE}{sd0:Sd}{g:G}{P:List PyData->G->Prop}(enc : α->PyData)(f : α->PyData)(L:List α)(e:xs=L.map enc)(so:ZAC src xs g)
  (h:∀a∈L,∃sd1,Zi pt (.dat (enc a)) sd0=some sd1/\EvP (de sd1 g) λy g2=>y=.dat (f a)/\g2=g)(hP:P (L.map f) g):EvP (ZAB src xs pt ZA7 de sd0 xs g) P:=by
 refine ZFl enc (λ_=>true) f L e so (λa ha=>?_) ?_
 ·obtain⟨sd1,e1,h1⟩:=h a ha
  exact⟨sd1,e1,true,g,rfl,rfl,rfl,λ_=>h1⟩
 ·rw[List.filter_eq_self.mpr λ_ _=>rfl]
  exact hP
theorem ev_cj{src:Option Nat}{xs:List PyData}{pt:Pat}{dt:DB}{de:DE}{sd0:Sd}{P:List PyData->G->Prop}(J:Nat->List PyData->G->Prop){g:G}(h0:J 0 [] g)
  (h:∀i x g acc,xs[i]? = some x->J i acc g->∃sd1,Zi pt (.dat x) sd0=some sd1/\EvP (dt sd1 g) λb g1=>(b=true->EvP (de sd1 g1) λy g2=>∃d,y=.dat d/\ZAC src xs g2/\J (i+1) (acc++[d]) g2)/\(b=false->ZAC src xs g1/\J (i+1) acc g1))
  (hP:∀acc g,J xs.length acc g->P acc g):EvP (ZAB src xs pt dt de sd0 xs g) P:=by
 have go:∀(k i:Nat) acc g,i+k=xs.length->J i acc g->EvP (ZAB src xs pt dt de sd0 (xs.drop i) g) λys g2=>P (acc++ys) g2:=by
  intro k
  induction k with
  |zero =>
   intro i acc g hi h1;have:i=xs.length:=by omega
   subst this
   rw[drop_length,ZAB];exact⟨_,_,rfl,by show P (acc++[]) g;rw[append_nil];exact hP acc g h1⟩
  |succ k ih =>
   intro i acc g hi h1;have hlt:i<xs.length:=by omega
   rw[List.drop_eq_getElem_cons hlt,ZAB];obtain⟨sd1,e1,b,g1,e2,kt,kf⟩:=h i xs[i] g acc (getElem?_eq_getElem hlt) h1;rw[e1];show EvP ((dt sd1 g).bind _) _;rw[e2];show EvP (if b=true then _ else _) _;cases b with
   |true =>
    obtain⟨y,g2,e3,d,rfl,so,i2⟩:=kt rfl;rw[if_pos rfl,e3];show EvP (ZA6 _ _ _ _) _;rw[ZAj so];obtain⟨ys,g3,e4,hp⟩:=ih (i+1) (acc++[d]) g2 (by omega) i2;rw[e4];refine⟨_,g3,rfl,?_⟩;rw[append_assoc] at hp;exact hp
   |false =>
    obtain⟨so,i2⟩:=kf rfl;rw[if_neg Bool.false_ne_true,ZAj so];exact ih (i+1) acc g1 (by omega) i2
 have:=go xs.length 0 [] g (by omega) h0;rw[List.drop_zero] at this
 exact this
theorem ZG4{src:Option Nat}{xs:List PyData}{pt:Pat}{dt:DB}{de:DE}{sd0:Sd}{P:List PyData->G->Prop}(I:G->Prop)(R:Nat->List PyData->Prop){g:G}(h0:I g)(hR0:R 0 [])
  (h:∀i x g acc,xs[i]? = some x->I g->R i acc->∃sd1,Zi pt (.dat x) sd0=some sd1/\EvP (dt sd1 g) λb g1=>(b=true->EvP (de sd1 g1) λy g2=>∃d,y=.dat d/\ZAC src xs g2/\I g2/\R (i+1) (acc++[d]))/\(b=false->ZAC src xs g1/\I g1/\R (i+1) acc))
  (hP:∀acc g,I g->R xs.length acc->P acc g):EvP (ZAB src xs pt dt de sd0 xs g) P:=ev_cj (λi acc g=>I g/\R i acc) ⟨h0,hR0⟩ (λi x g acc hx j=>h i x g acc hx j.1 j.2) λacc g j=>hP acc g j.1 j.2
section
variable{g:G}{P:W->G->Prop}
theorem ZL1{xs ys:List PyData}(h:xs.length+ys.length<=1000)(q:P (.dat (.tuple (xs++ys))) g):EvP (ZAQ (.dat (.tuple xs)) (.dat (.tuple ys)) g) P:=ZA1 h (ZAf q)
theorem ZCa{i j:Int}(h:ZFH i j=true)(q:P (.dat (.int (i*j))) g):EvP (ZBT (.dat (.int i)) (.dat (.int j)) g) P:=ZA1 h (ZAf q)
theorem ZKE{i j:Int}(h : 0<j)(q:P (.dat (.int (i % j))) g):EvP (ZAi (.dat (.int i)) (.dat (.int j)) g) P:=ZA1 (decide_eq_true h) (ZAf q)
theorem ZJ7{i j:Int}(h : 0<j)(h2:j<2 ^ 64)(q:P (.dat (.int (i / j))) g):EvP (ZBs (.dat (.int i)) (.dat (.int j)) g) P:=ZA1 (by show(decide (0<j) && decide (j<2 ^ 64))=true;rw[decide_eq_true h,decide_eq_true h2];rfl) (ZAf q)
theorem y_ixL{xs:List PyData}{i:Int}{d:PyData}(h:atI xs i=some d)(q:P (.dat d) g):EvP (Z2 (.dat (.list xs)) (.dat (.int i)) g) P:=ZE2 h rfl q
theorem ZBp{n:Nat}{xs:List PyData}{i:Int}{d:PyData}(hn:g[n]? = some (.pl xs))(h:atI xs i=some d)(q:P (.dat d) g):EvP (Z2 (.ref n) (.dat (.int i)) g) P:=by
 refine⟨_,_,?_,q⟩;show(match g[n]? with|some (.pl ds)=>(atI ds i).map λd=>(W.dat d,g)|some (.rl ws)=>(atI ws i).map λw=>(w,g)|_=>none)=_;rw[hn];show(atI xs i).map _=_;rw[h];rfl
theorem ZD3{n:Nat}{xs:List W}{i:Int}{d:W}(hn:g[n]? = some (.rl xs))(h:atI xs i=some d)(q:P d g):EvP (Z2 (.ref n) (.dat (.int i)) g) P:=by
 refine⟨_,_,?_,q⟩;show(match g[n]? with|some (.pl ds)=>(atI ds i).map λd=>(W.dat d,g)|some (.rl ws)=>(atI ws i).map λw=>(w,g)|_=>none)=_;rw[hn];show(atI xs i).map _=_;rw[h];rfl
theorem ZGx{n:Nat}{xs:List PyData}(hn:g[n]? = some (.pl xs))(q:P (.dat (.tuple xs)) g):EvP (f1 ZDI [.ref n] g) P:=ZE2 (y:=xs) (ZJ9 hn) rfl q
theorem ZE4{x y:PyData}(h:(ok0 x && ok0 y)=true)(q:P (.dat (.bool (x.eqv y))) g):EvP (ZBt (.dat x) (.dat y) g) P:=ZA1 h (ZAf q)
theorem ZJ5{x y:PyData}(h:(ok0 x && ok0 y)=true)(q:P (.dat (.bool (!x.eqv y))) g):EvP (ZFO (.dat x) (.dat y) g) P:=ZA1 h (ZAf q)
theorem ZLZ{x:PyData}{ys:List PyData}(h:(ok0 x && PyData.canLayAll0 ys)=true)(q:P (.dat (.bool (!ys.any λy=>y.eqv x))) g):EvP (ZEH (.dat x) (.dat (.tuple ys)) g) P:=ZA1 h (ZAf q)
end
theorem ZFc(ns:List Int):PyData.canLayAll0 (ns.map .int)=true:=by
 induction ns with
 |nil=>rfl
 |cons n ns ih=>show(true && PyData.canLayAll0 (ns.map .int))=true;rw[ih];rfl
theorem any_ints{ns:List Int}{k:Int}:((ns.map PyData.int).any λy=>y.eqv (.int k))=ns.contains k:=by
 induction ns with
 |nil=>rfl
 |cons n ns ih =>
  rw[map_cons,any_cons,ih,List.contains_cons]
  congr 1
  show(n == k)=(k == n);exact Bool.beq_comm
theorem ZD6{i j:Int}:(PyData.int i).eqv (.int j)=decide (i=j):=by
 show(i == j)=_;exact rfl
theorem ZBg{i j:Int}(h : -(2 ^ 64)<j/\j<2 ^ 64):ZFH i j=true:=by
 unfold ZFH;rw[decide_eq_true h.1,decide_eq_true h.2];simp
theorem Zn{α : Type}{g:List α}{b:Nat}{x : α}(h:b<g.length):(g.set b x)[b]? = some x:=getElem?_set_self h
def Bx(g:G)(b:Nat):Prop:=∃x n c:Int,g[b]? = some (.pl [.int x,.int n,.int c])
theorem Bx.lt{g:G}{b:Nat}(h:Bx g b):b<g.length:=by
 obtain⟨x,n,c,e⟩:=h;exact(List.getElem?_eq_some_iff.mp e).1
structure Dr (b:Nat) (g g':G):Prop where
 bx:Bx g' b
 len:g.length<=g'.length
 kp:∀n,n<g.length->n≠b->g'[n]? = g[n]?
theorem Dr.refl{b:Nat}{g:G}(h:Bx g b):Dr b g g:=⟨h,le_refl _,λ_ _ _=>rfl⟩
theorem Dr.trans{b:Nat}{g g1 g2:G}(h:Dr b g g1)(k:Dr b g1 g2):Dr b g g2:=⟨k.bx,le_trans h.len k.len,λn h1 hn=>(k.kp n (lt_of_lt_of_le h1 h.len) hn).trans (h.kp n h1 hn)⟩
theorem Dr.set{b:Nat}{g:G}{x n c:Int}(h:b<g.length):Dr b g (g.set b (.pl [.int x,.int n,.int c])):=⟨⟨x,n,c,Zn h⟩,by rw[length_set];exact le_refl _,λm _ hm=>getElem?_set_ne (Ne.symm hm)⟩
theorem Dr.put{b n:Nat}{g gx:G}{c:Cell}(h:Dr b g gx)(hb:b<g.length)(hn:g.length<=n):Dr b g (gx.set n c):=⟨by
 obtain⟨x,y,z,e⟩:=h.bx;exact⟨x,y,z,by rw[getElem?_set_ne (by omega)];exact e⟩,by rw[length_set];exact h.len,λm h1 h2=>by rw[getElem?_set_ne (by omega)];exact h.kp m h1 h2⟩
theorem Dr.app{b:Nat}{g gx:G}{c:Cell}(h:Dr b g gx):Dr b g (gx++[c]):=⟨by
 obtain⟨x,y,z,e⟩:=h.bx;exact⟨x,y,z,by rw[getElem?_append_left h.bx.lt];exact e⟩,by have:=h.len;rw[length_append];omega,λm h1 h2=>by rw[getElem?_append_left (by have:=h.len;omega)];exact h.kp m h1 h2⟩
theorem ZEP{g:G}{c:Cell}:(g++[c])[g.length]? = some c:=by
 rw[getElem?_append_right (le_refl _),Nat.sub_self];rfl
theorem ZLx{P:Program}{w:World}{K:PySem.W.Frag}{mg:Str->Option Value}{base:Heap}{k:Nat}{f:Addr}{fd:FuncData}{ps:List Str}{r:List W->G->Option (W×G)}(F:FnOk P w K mg base CX0 k f fd ps (spD K 1 r))
  (h:∀ns:List Int,ns.length<=63->∃g',r [.inp ns] []=some (.dat (.bool true),g')):FnOk P w K mg base CX0 k f fd ps (λvs H Q _=>∃(a:Addr) (ns:List Int),vs=[.ref a]/\SqL K H a (ns.map V.int)/\ns.length<=63/\∀H',Q (.bl true) H'):=F.imp λvs H Q E ⟨a,ns,e,hS,hl,q⟩=>by
 subst e;obtain⟨g',eg⟩:=h ns hl;refine⟨rfl,⟨[],[]⟩,[.inp ns],[],.dat (.bool true),g',⟨rfl,List.nodup_nil,λn ds e=>by simp at e,λa z=>by cases z⟩,.cons (.inp ?_) .nil,eg,λv H' ρ' s' h' r'=>?_⟩
 ·rcases hS with z|z
  ·exact .inl ⟨z,λq=>q.elim (λz=>by cases z) λz=>by cases z⟩
  ·exact .inr z
 ·cases r' with
  |dat r' =>
   cases r' with
   |bl b=>exact q H'
theorem ZEh(ns:List Bool):ZBR (ns.map .bool)=some ns:=by
 induction ns with
 |nil=>rfl
 |cons n ns ih=>rw[map_cons,ZBR,ih];rfl
section
variable{g:G}{P:W->G->Prop}
theorem ZIM{bs:List Bool}(q:P (.dat (.bool (bs.all id))) g):EvP (f1 ZCr [.dat (.list (bs.map .bool))] g) P:=by
 refine ZLs ?_ q;show ZCr _ g=_;unfold ZCr;show((ZBR (bs.map .bool)).map _)=_;rw[ZEh];rfl
end
theorem ZFu(n:Nat):ZDC n 0=(List.range n).map λj:Nat=>PyData.int (j:Int):=by
 unfold ZDC;refine List.map_congr_left λj _=>?_
 rw[Int.zero_add]
def ZG7:W->W->G->Option (W×G)
 |.dat (.str i),.dat (.str j),g=>some (.dat (.bool !decide (i=j)),g)
 |_,_,_=>none
def okR(d:PyData):Bool:=d.canLay0 && (d.showable && (!d.hasDict && (decide (d.depth<=40) && decide (d.shown.length<=1000000))))
def ZDi:W->G->Option (W×G)
 |.dat (.tuple ds),g=>if okR (.tuple ds)=true then some (.dat (.str (PyData.tuple ds).shown),g) else none
 |_,_=>none
section
variable{X:Cx}
theorem oNeS:OpR X (compareOp .NotEq) (rOp X.K ZG7):=by
 intro pins s σ H x y v u Q I rx ry h;obtain⟨ρ,a,b,g,z,g',hR,ra,rb,e,q⟩:=h;cases ra with
 |dat ra =>
  cases rb with
  |dat rb =>
   cases ra with
   |str i =>
    cases rb with
    |str j =>
     cases e;refine op_ne pins s σ H _ _ v u Q I rx ry ⟨rfl,?_⟩;have:(!decide (V.str i=V.str j)) = !decide (i=j):=by
      congr 1
      by_cases h:i=j
      ·rw[decide_eq_true h,decide_eq_true (by rw[h])]
      ·rw[decide_eq_false h,decide_eq_false (λz=>h (V.str.inj z))]
     rw[this];exact q.at hR (.dat (.bl _))
    |_=>cases e
   |_=>cases e
  |_=>cases ra <;> cases e
 |_=>cases e
theorem cRepr(hu:X.A.units+64<cLine)(hg:X.A.guards=some []):ZJ X (.builtin "repr") (rF X.K (f1 ZDi)):=by
 intro pins s σ H xs us Q I r h;obtain⟨ρ,ws,g,z,g',hR,rl,e,q⟩:=h;cases rl with
 |nil=>cases e
 |cons r1 t =>
  cases t with
  |cons _ _=>cases e
  |nil =>
   cases r1 with
   |@dat v d r1 =>
    cases r1 with
    |@tup a xs ds f t =>
     change (if okR (.tuple ds)=true then some (W.dat (.str (PyData.tuple ds).shown),g) else none)=some (z,g') at e
     split at e
     ·rename_i hz
      cases e;unfold okR at hz;simp only[Bool.and_eq_true,decide_eq_true_eq,Bool.not_eq_true'] at hz;obtain⟨h1,h2,h3,h4,h5⟩:=hz;obtain⟨u,rfl,ru⟩:=ZAp r;obtain⟨as,ra⟩:=(RelD.tup f t).reads I h1 ru;cases ru;refine repr_of_reads' ra h2 (λz=>by rw[h3] at z;cases z) hg (by omega) (λ_ _ z=>z) (λh' u tk kp=>?_) (le_trans h5 (by decide));exact⟨.str _,H,I.kept (t':=tk) kp,⟨u,rfl⟩,q.at hR (.dat (.str _))⟩
     ·cases e
    |_=>cases e
   |_=>cases e
theorem RelDL.ofStrs{K:PySem.W.Frag}{ρ : Rh}{H:Hp}:∀{ns:List Str},RelDL K ρ H (ns.map V.str) (ns.map .str)
 |[]=>.nil
 |n::ns=>.cons (.str n) RelDL.ofStrs
end
section
variable{X:Cx}{pos:Pos}
def ZGB:DS:=λ_ _=>none
theorem ZIs{st:Stmt}:JS X st ZGB:=⟨λpins s σ H D I h=>by obtain⟨_,_,_,_,_,e,_⟩:=h;cases e⟩
def ZD7(ws:List W)(g:G):Option (W×G):=if ws.length<=1000 then some (.ref g.length,g++[.rl ws]) else none
theorem ZHQ{es:List Expr}{aa:DA}(h:PA X es (tA X.K aa)):PE X (.List es pos) (tE X.K (dF ZD7 aa)):=(ZFU h).imp λσ H Q ⟨ρ,sd,g,x,g',r,e,q⟩=>by
 obtain⟨⟨ws,g1⟩,e1,e⟩:=bnd e;refine⟨ρ,sd,g,ws,g1,r,e1,λvs H1 ρ1 s1 h1 r1=>?_⟩;unfold ZD7 at e
 split at e
 ·rename_i hz
  cases e;refine⟨by rw[r1.length];exact le_of_lt (Zc hz),λp hp=>?_⟩;obtain⟨hr2,st⟩:=h1.allocC hp (o:=.lst vs) (c:=.rl ws) λs=>⟨vs,ZG,r1.mono s⟩
  exact q _ _ _ (s1.trans st) hr2 (.ref (by show(ρ1.c++[p])[_]? = _;rw[←h1.len];simp))
 ·cases e
theorem ZGZ{es:List Expr}{aa:DA}(h:JA X es aa):JE X (.List es pos) (dF ZD7 aa):=⟨ZHQ h.h⟩
end
theorem bT{A B:Prop}(h:A):(true=true->A)/\(true=false->B):=⟨λ_=>h,λz=>by cases z⟩
theorem bF{A B:Prop}(h:B):(false=true->A)/\(false=false->B):=⟨(λz=>by cases z),λ_=>h⟩
def ZAg(K:PySem.W.Frag)(x ql:Str)(st:Stmt)(f:Addr):Prop:=∃fd,Fun K x ql st f fd
theorem fnAt_mk{K:PySem.W.Frag}{x qual:Str}{st:Stmt}{f:Addr}{oc:Value}{od an:Option Addr}{osl:Array (Option Value)}{kV doc pm cdv ct:Value}(l:K.lookup f=some ⟨oc,od,.func (PySem.W.fnOf x qual (ZA2 st) (Z5 st) (ZD st) .none kV doc pm an cdv ct),osl⟩)
  (c:PySem.W.codeIn K cdv qual=true)(k:PySem.W.keepIn K (.ref f)=true):ZAg K x qual st f:=⟨_,ZIF l c k⟩
def ZEs:PyData->Option Key
 |.int i=>some (.inl i)
 |.str x=>some (.inr x)
 |_=>none
def ZAG:List (Key×W)->Option (List Int)
 |[]=>some []
 |(.inl i,_)::r=>(ZAG r).map λns=>i::ns
 |_::_=>none
def ZFa:W->G->Option (W×G)
 |.ref n,g=>match g[n]? with
  |some (.dk kvs)=>(ZAG kvs).bind λns=>if ns.length<64 then some (.dat (.list ((ZBZ ns).map .int)),g) else none
  |_=>none
 |_,_=>none
section
variable{X:Cx}{K:PySem.W.Frag}{ρ : Rh}{H:Hp}
theorem RelK.put{k:Key}{v:V}{x:W}(t:Rel K ρ H v x){vs:List (Key×V)}{ws:List (Key×W)}(r:RelK K ρ H vs ws):RelK K ρ H (ZAk vs k v) (ZAk ws k x):=by
 have ha:(vs.any λkv=>decide (kv.1=k))=ws.any λkv=>decide (kv.1=k):=by
  induction r with
  |nil=>rfl
  |cons h t ih=>rw[any_cons,any_cons,ih]
 unfold ZAk;rw[ha]
 split
 ·rename_i h
  clear ha h
  induction r with
  |nil=>exact .nil
  |@cons k' v' x' vs xs h q ih =>
   rw[map_cons,map_cons]
   by_cases e:k'=k
   ·rw[if_pos (show(k',v').1=k from e),if_pos (show(k',x').1=k from e)];exact .cons t ih
   ·rw[if_neg (show ¬(k',v').1=k from e),if_neg (show ¬(k',x').1=k from e)];exact .cons h ih
 ·clear ha
  rename_i h
  clear h
  induction r with
  |nil=>exact .cons t .nil
  |cons h q ih=>exact .cons h ih
theorem ZDh:∀{vs:List (Key×V)} {kvs:List (Key×W)} {ns:List Int},RelK K ρ H vs kvs->ZAG kvs=some ns->vs.map (·.1)=ns.map Sum.inl
 |_,_,_,.nil,e=>by cases e;rfl
 |_,_,_,.cons (k:=.inl i) h t,e=>by
  rw[ZAG] at e;obtain⟨ms,e1,rfl⟩:=mp e;rw[map_cons,map_cons,ZDh t e1]
 |_,_,_,.cons (k:=.inr i) h t,e=>by cases e
theorem cSrtD(hc:X.calm=true):ZJ X (.builtin "sorted") (rF X.K (f1 ZFa)):=c1 (ZD5 hc) λρ H g x w z g' Q hR r e q=>by
 unfold ZFa at e
 split at e
 ·rename_i n g
  split at e
  ·rename_i kvs e1
   obtain⟨ns,e2,e⟩:=bnd e
   split at e
   ·rename_i hz
    cases e;cases r with
    |ref h =>
     obtain⟨a,k1,vs,k2,k3⟩:=hR.ce _ _ e1;rw[h] at k1;cases k1;refine⟨_,vs,ns,rfl,k2,ZDh k3 e2,hz,λp ms hp pm pw=>?_⟩;rw[ZHv pm pw];exact q.new hR RelDL.ofInts hp
   ·cases e
  ·cases e
 ·cases e
end
section
variable{X:Cx}{K:PySem.W.Frag}{ρ : Rh}{H:Hp}
theorem ZGi{d:PyData}{v:V}{k:Key}(r:RelD K ρ H v d)(e:ZEs d=some k):v=kV k:=by
 cases r with
 |int i=>cases e;rfl
 |str x=>cases e;rfl
 |_=>cases e
end
theorem ZMC{P:List Value->Prop}{n:Nat}(h:∀a us,us.length=n->P (a::us)):∀us:List Value,us.length=n+1->P us
 |a::us,e=>h a us (Nat.succ.inj e)
theorem ZMU{P:List Value->Prop}(h:∀a,P [a]):∀us:List Value,us.length=1->P us:=ZMC λa us e=>by rw[List.length_eq_zero_iff.mp e];exact h a
theorem ZMJ{P:List Value->Prop}(h:∀a b,P [a,b]):∀us:List Value,us.length=2->P us:=ZMC λa=>ZMU (h a)
theorem len3{P:List Value->Prop}(h:∀a b c,P [a,b,c]):∀us:List Value,us.length=3->P us:=ZMC λa=>ZMJ (h a)
def tgN0:Expr->List Str
 |.Name x _=>[x]
 |_=>[]
def tgN1:Expr->List Str
 |.Name x _=>[x]
 |.Tuple es _ _=>es.flatMap tgN0
 |_=>[]
def tgN:Expr->List Str
 |.Name x _=>[x]
 |.Tuple es _ _=>es.flatMap tgN1
 |_=>[]
section
variable{X:Cx}{tg elt iter:Expr}{ifs:List Expr}{scope sc:Scope}{pos:Pos}{di:DI}{pt:Pat}{dt:DB}{de:DE}{own:Nat}{cap:List Nat}
theorem ZGb(hc:X.calm=true)(hi:JI X tg iter di)(hb:∀cl C s0 H0 fp,JG (blk X (tgN tg++cap.map λi=>X.N.getD i "") (compEnvC scope cl C X.env) s0 H0 fp) tg pt/\JTs (blk X (tgN tg++cap.map λi=>X.N.getD i "") (compEnvC scope cl C X.env) s0 H0 fp) ifs dt/\JE (blk X (tgN tg++cap.map λi=>X.N.getD i "") (compEnvC scope cl C X.env) s0 H0 fp) elt de)(co:ZC8 X.env.scope scope X.N (tgN tg++cap.map λi=>X.N.getD i "") own cap=true)(hp:pt.all (λi=>decide (i<own))=true)(hs:∀x,foldedSetIterable iter X.env x=pure x:=by intro _;rfl):JE X (.ListComp elt [⟨tg,iter,ifs,0⟩] scope pos) (Ze own cap pt di dt de):=ZHP hc hi rfl rfl hb co hp hs
theorem ZGO{i:Nat}{x:Str}{py spos:Pos}(hN:X.N.Nodup)(hi:X.N[i]? = some x)(hx:Loc X.env.scope x)(hc:X.calm=true)(hit:JI X tg iter di)(hb:∀cl C s0 H0 fp,JG (blk X (tgN tg++cap.map λi=>X.N.getD i "") (compEnvC scope cl C X.env) s0 H0 fp) tg pt/\JTs (blk X (tgN tg++cap.map λi=>X.N.getD i "") (compEnvC scope cl C X.env) s0 H0 fp) ifs dt/\JE (blk X (tgN tg++cap.map λi=>X.N.getD i "") (compEnvC scope cl C X.env) s0 H0 fp) elt de)(co:ZC8 X.env.scope scope X.N (tgN tg++cap.map λi=>X.N.getD i "") own cap=true)(hp:pt.all (λi=>decide (i<own))=true)(hsw:swapsWith (.ListComp elt [⟨tg,iter,ifs,0⟩] scope pos) (some (.Name x py)) spos.line X.env=pure true:=by rfl)(hs:∀x,foldedSetIterable iter X.env x=pure x:=by intro _;rfl)(hf:X.fn x=true∨X.env.scope.names.lookup x=some .local:=by first|exact .inl rfl|exact .inr rfl|assumption):JS X (.Assign [.Name x py] (.ListComp elt [⟨tg,iter,ifs,0⟩] scope pos) spos) (ZAH i (Ze own cap pt di dt de)):=ZHh hN hi hx hc hit rfl rfl hb co hp hsw hs hf
end
def ZKA:DE:=λ_ g=>some (.ref g.length,g++[.dk []])
def ZF1(dl di d:DE):DS:=λsd g=>(d sd g).bind λv=>(dl sd v.2).bind λl=>(di sd l.2).bind λi=>match l.1,i.1 with
 |.ref n,.dat k=>match i.2[n]? with
  |some (.dk kvs)=>(ZEs k).bind λq=>if kvs.length<1000 then some (.nx sd (i.2.set n (.dk (ZAk kvs q v.1)))) else none
  |_=>none
 |_,_=>none
theorem ZEo{K:PySem.W.Frag}{ρ : Rh}{H:Hp}:∀{vs:List (Key×V)} {ws:List (Key×W)},RelK K ρ H vs ws->vs.length=ws.length
 |_,_,.nil=>rfl
 |_,_,.cons _ t=>by rw[length_cons,length_cons,ZEo t]
section
variable{X:Cx}
theorem ZHM{pos:Pos}:JE X (.Dict [] [] pos) ZKA:=⟨ZIt.imp λσ H Q ⟨ρ,sd,g,x,g',r,e,q⟩=>by
 cases e;intro p hp;obtain⟨hr2,st⟩:=r.hr.allocC hp (o:=.dK []) (c:=.dk []) λs=>⟨[],ZG,.nil⟩
 exact q _ _ _ st hr2 (.ref (by show(ρ.c++[p])[_]? = _;rw[←r.hr.len];simp))⟩
theorem ZHB{o i e:Expr}{dl di d:DE}{pos tpos:Pos}(he:JE X e d)(ho:JE X o dl)(hi:JE X i di)(ha:∀v,assign (.Subscript o i tpos) X.env v=(do
   let ov ←holding [v] (eval o X.env)
   let iv ←holding [v,ov] (eval i X.env)
   standAt tpos
   holding [v,ov,iv] (setItem ov iv v)
   release [v,ov,iv] []):=by intro _;rfl) (hs:swapsWithSole [.Subscript o i tpos] e pos.line X.env=pure false:=by rfl) (hw:swappedStores [.Subscript o i tpos] e X.env=pure none:=by rfl)
  (h1:(assignEach [.Subscript o i tpos] X.env).map (·.2)=[assign (.Subscript o i tpos) X.env]:=by rfl):JS X (.Assign [.Subscript o i tpos] e pos) (ZF1 dl di d):=⟨(ZFL he.h (ZHX ho.h hi.h ZKX ha) hs hw h1).imp λD σ H ⟨ρ,sd,g,oo,r,e,q⟩=>by
 obtain⟨⟨y,g1⟩,e1,e⟩:=bnd e;obtain⟨⟨l,g2⟩,e2,e⟩:=bnd e;obtain⟨⟨k,g3⟩,e3,e⟩:=bnd e;refine⟨ρ,sd,g,y,g1,r,e1,λv H1 ρ1 s1 h1 r1=>⟨ρ1,sd,g1,l,g2,r.step s1 h1,e2,λu H2 ρ2 s2 h2 r2=>⟨ρ2,sd,g2,k,g3,r.step (s1.trans s2) h2,e3,λt H3 ρ3 s3 h3 r3=>?_⟩⟩⟩;have r1':=(r1.mono s2).mono s3;have r2':=r2.mono s3;have sall:=s1.trans (s2.trans s3);cases r2' with
 |@ref la ln hn =>
  cases r3 with
  |dat r3 =>
   dsimp only at e
   split at e
   ·rename_i kvs e4
    obtain⟨k,e5,e⟩:=bnd e
    split at e
    ·rename_i hz
     cases e;obtain⟨a',k1,us,k2,k3⟩:=h3.ce _ _ e4;rw[hn] at k1;cases k1;have hl:us.length=kvs.length:=ZEo k3;obtain⟨hw,sw⟩:=h3.writeC hn (o:=.dK (ZAk us k v)) (c:=.dk (ZAk kvs k y)) (λu e=>by rw[k2] at e;cases e;rfl) (λs=>⟨_,ZG,(k3.put r1').mono s⟩);exact⟨la,us,k,rfl,ZGi r3 e5,k2,by rw[hl];exact hz,q σ _ ρ3 (sall.trans sw) (r.step (sall.trans sw) hw)⟩
    ·cases e
   ·cases e
  |_=>cases e
 |_=>cases e⟩
end
section
variable{sd:Sd}{g:G}{P:W->G->Prop}{PS':Out->Prop}{dl di d:DE}
theorem ZKs(h:EvP (d sd g) λv g1=>EvP (dl sd g1) λl g2=>∃n,l=.ref n/\EvP (di sd g2) λi g3=>∃k q kvs,i=.dat k/\g3[n]? = some (.dk kvs)/\ZEs k=some q/\kvs.length<1000/\PS' (.nx sd (g3.set n (.dk (ZAk kvs q v))))):EvS (ZF1 dl di d sd g) PS':=by
 obtain⟨v,g1,e1,l,g2,e2,n,rfl,i,g3,e3,k,q,kvs,rfl,e4,e5,e6,h⟩:=h;refine⟨_,?_,h⟩;unfold ZF1;rw[e1];show(dl sd g1).bind _=_;rw[e2];show(di sd g2).bind _=_;rw[e3];show(match g3[n]? with|some (.dk kvs)=>(ZEs k).bind λq=>if kvs.length<1000 then some (Out.nx sd (g3.set n (.dk (ZAk kvs q v)))) else none|_=>none)=_;rw[e4];show(ZEs k).bind _=_;rw[e5];exact if_pos e6
theorem ZKL{n:Nat}{kvs:List (Key×W)}{ns:List Int}(hn:g[n]? = some (.dk kvs))(hk:ZAG kvs=some ns)(hl:ns.length<64)(q:P (.dat (.list ((ZBZ ns).map .int))) g):EvP (f1 ZFa [.ref n] g) P:=by
 refine ZLs ?_ q;show(match g[n]? with|some (.dk kvs)=>(ZAG kvs).bind λns=>if ns.length<64 then some (W.dat (.list ((ZBZ ns).map .int)),g) else none|_=>none)=_;rw[hn];show(ZAG kvs).bind _=_;rw[hk];exact if_pos hl
end
end L2
namespace HT
open PySem PyProof.Rows
open Builtin
theorem tuple_mulE(l:Addr)(items:Array Value)(n:Nat)(dd:Option Addr)(sl:Array (Option Value))(k:Int)(t:Tok)(hc0 : ¬(decide (k < -(2 ^ 63)) || decide (k ≥ 2 ^ 63))=true)(hc1:(items.isEmpty || k == 1)=true) :
  Meets (Builtin.«tuple.__mul__» ⟨[.ref l,.int k t],[]⟩) (λ_ R s=>s.heap.get? l=some { cls:=.type "tuple",dict:=dd,data:=.seq items n,slots:=sl }/\R (.ok (.ret (Value.ref l))) s) :=
 .of_wp λprog w A R s h=>by
  obtain⟨hp,g,d,tk,os⟩:=s;obtain⟨hl,h⟩:=h;have f1:=AutoSeq1.idx_int;have f2:=AutoSeq1.sub_tuple_tuple
  wp_walk using wpAny_loadPart' hl
  rw[if_neg hc0]
  wp_walk using wpAny_loadPart' hl
  exact⟨_,rfl,h⟩
end HT
namespace L2
open PySem PySem.Spec PyProof.Rows H1
section
variable{X:Cx}
theorem ZIr:OpR X (binaryOp .Mult) (λx y H Q=>∃(a:Addr) (k:Int),x=.ref a/\y=.int k/\SqT X.K H a []/\(2<=k/\k<=400)/\Q (.ref a) H):=by
 intro pins s σ H x y v u Q I rx ry h;obtain⟨a,k,rfl,rfl,ha,⟨k2,k20⟩,q⟩:=h;cases rx;obtain⟨t,rfl⟩:=ry;obtain⟨its,r,p1,_⟩:=I.tuple ha;obtain⟨⟨cls,dd,data,sl⟩,ho,hc,n,hd⟩:=id p1;simp only at hc hd;subst hc hd;cases r;refine wpAny_binaryOp_repeat_ref (T:="tuple") (U:="int") (by decide) ⟨_,ho,rfl⟩ (λs'=>typeIs_int s' k t) HT.noFill_tuple_mul F.fills_int_mul F.slot_int_rmul HT.repeat_tuple F.slot_int_index.lookup
  (call_meets F.slot_int_rmul (typeIs_int s k t) F.entry_int_rmul (F.args_int_rmul_2 _ _) (HT.rmul_tup k t a _ n dd sl)
   ⟨ho,rfl,⟨_,ho,rfl⟩,call_meets F.slot_tuple_mul ⟨_,ho,rfl⟩ F.entry_tuple_mul (F.args_tuple_mul_2 _ _) (HT.tuple_mulE a _ n dd sl k t ?_ ?_) ⟨ho,?_⟩⟩)
 ·simp;omega
 ·simp
 exact⟨.ref a,_,I,rfl,q⟩
end
def ZEO:W->W->G->Option (W×G)
 |.dat (.tuple xs),.dat (.int k),g=>if (decide (2<=k) && decide (k<=400))=true/\k.toNat*xs.length<=400 then some (.dat (.tuple (List.replicate k.toNat xs).flatten),g) else none
 |_,_,_=>none
section
variable{X:Cx}
theorem oMulT:OpR X (binaryOp .Mult) (rOp X.K ZEO):=by
 intro pins s σ H x y v u Q I rx ry h;obtain⟨ρ,a,b,g,z,g',hR,ra,rb,e,q⟩:=h;unfold ZEO at e
 split at e
 ·rename_i g0 ds k
  split at e
  ·rename_i hz
   cases e;simp only[Bool.and_eq_true,decide_eq_true_eq] at hz;obtain⟨⟨z1,z2⟩,z4⟩:=hz;cases ra with
   |dat ra=>cases ra with
    |@tup a1 xs ds f1 t1=>cases rb with
     |dat rb=>cases rb with
      |int k =>
       by_cases hx:xs=[]
       ·subst hx
        have t2:=t1.rep k.toNat;have e0:ds=[]:=by cases t1;rfl
        subst e0;have e1:(List.replicate k.toNat ([]:List PyData)).flatten=[]:=by
         rw[List.flatten_eq_nil_iff];intro l hl;exact(List.mem_replicate.mp hl).2
        rw[e1] at q;exact ZIr pins s σ H _ _ v u Q I rx ry ⟨a1,k,rfl,rfl,f1.sq,⟨z1,z2⟩,q.at hR (.dat (.tup f1 t1))⟩
       ·exact ZFf pins s σ H _ _ v u Q I rx ry ⟨a1,k,xs,rfl,rfl,f1.sq,⟨z1,z2⟩,⟨hx,by rw[t1.length];exact z4⟩,λp hp=>q.newT hR (t1.rep _) hp⟩
  ·cases e
 ·cases e
end
section
variable{sd:Sd}{g:G}{P:W->G->Prop}{aa:DA}
theorem ZL9{xs:List PyData}{k:Int}(h:(decide (2<=k) && decide (k<=400))=true/\k.toNat*xs.length<=400)(q:P (.dat (.tuple (List.replicate k.toNat xs).flatten)) g):EvP (ZEO (.dat (.tuple xs)) (.dat (.int k)) g) P:=ZA1 h (ZAf q)
end
end L2
namespace L2
open PySem PySem.Spec PyProof.Rows H1 PySem.SeqAt
def ZGA:List PyData->Option (List Str)
 |[]=>some []
 |.str s::r=>(ZGA r).map (s::·)
 |_::_=>none
theorem ZFx:∀{ds:List PyData} {ss:List Str},ZGA ds=some ss->ds=ss.map .str
 |[],_,e=>by cases e;rfl
 |.str s::r,_,e=>by
  obtain⟨ts,e1,rfl⟩:=mp e;rw[ZFx e1];rfl
 |.none::_,_,e=>by cases e
 |.bool _::_,_,e=>by cases e
 |.int _::_,_,e=>by cases e
 |.list _::_,_,e=>by cases e
 |.tuple _::_,_,e=>by cases e
 |.dict _::_,_,e=>by cases e
theorem ZEa:∀{ss:List Str},ZGA (ss.map .str)=some ss
 |[]=>rfl
 |s::r=>by show(ZGA (r.map .str)).map _=_;rw[ZEa];rfl
end L2
namespace L2
open PySem PySem.Spec PyProof.Rows H1 Builtin Builtin.Str
variable{X:Cx}
theorem ZDP:∀l:List (Str×Tok),ZI ((l.map (·.1)).map V.str) (strValues l)
 |[]=>.nil
 |(x,t)::l=>.cons ⟨t,rfl⟩ (ZDP l)
theorem ZF5(x y:Str):(Txt.split x y).length<=x.length+2:=by
 unfold Txt.split
 split
 ·show 1<=_;omega
 ·split
  ·show 1<=_;omega
  ·rw[length_partsBetween]
   have:=StrLaws.occ_length_le x y 0 x.length (x.length+1);omega
theorem ZH3:MtR X "str.split" (λx vs H Q=>∃a sep:Str,x=.str a/\vs=[.str sep]/\(sep.length == 0)=false/\a.length<=500000/\∀l,H l=none->Q (.ref l) (upd H l (.lst ((Txt.split a sep).map V.str)))):=by
 intro pins s σ H x vs v us Q I rx rv h;obtain⟨a,sep,rfl,rfl,hs,hn,q⟩:=h;obtain⟨t,rfl⟩:=rx;obtain⟨u,rfl,ru⟩:=ZAp rv;obtain⟨u,rfl⟩:=ru;have fin:∀(l:List (Str×Tok)) (k:Nat),l.map (·.1)=Txt.split a sep->EP X pins σ Q (.ref s.heap.objs.size) { s with heap:=s.heap.push { cls:=.type "list",data:=.seq (strValues l).toArray },toks:=k }:=λl k e=>by
  have hl:=ZF5 a sep;refine⟨.ref _,upd H s.heap.objs.size (.lst ((Txt.split a sep).map V.str)),?_,rfl,q _ (I.hok.fresh (le_refl _))⟩;refine I.laid (t':=k) (λb u e=>get?_push_of_some _ e) (le_refl _) ⟨?_,strValues l,0,by rw[←e];exact ZDP l,get?_push_size _ rfl⟩;rw[length_map];exact le_trans hl (by unfold sizeLine;omega)
 have hsz:a.length<=sizeLine:=by unfold sizeLine;omega
 have hsz2:(partsBetween a (occurrences a sep 0 a.length (a.length+1)) sep.length).length<=sizeLine:=by
  rw[length_partsBetween];have:=StrLaws.occ_length_le a sep 0 a.length (a.length+1);unfold sizeLine;omega
 cases h1:(decide (a.length<sep.length) || decide (strKind a<strKind sep))
 ·cases hf:(occurrences a sep 0 a.length (a.length+1)).isEmpty
  ·refine call_meets F.slot_str_split (typeIs_str _ _ _) F.entry_str_split (F.args_str_split_2 _ _) (meets_str_split_sep a sep t u h1 hs hf hsz hsz2) ?_
   show wants _ _ _ { s with toks:=_,heap:=s.heap.push { cls:=.type "list",data:=.seq (strsFrom s.toks (partsBetween a (occurrences a sep 0 a.length (a.length+1)) sep.length)).toArray } };rw[strsFrom_eq];exact fin (numbered s.toks _) _ ((numbered_texts _ _).trans ((if_neg (ne_true_of_eq_false h1)).trans (if_neg (ne_true_of_eq_false hf))).symm)
  ·exact call_meets F.slot_str_split (typeIs_str _ _ _) F.entry_str_split (F.args_str_split_2 _ _) (meets_str_split_not_found a sep t u h1 hs hf) (fin [(a,t)] s.toks ((if_neg (ne_true_of_eq_false h1)).trans (if_pos hf)).symm)
 ·exact call_meets F.slot_str_split (typeIs_str _ _ _) F.entry_str_split (F.args_str_split_2 _ _) (meets_str_split_cannot_occur a sep t u h1) (fin [(a,t)] s.toks (if_pos h1).symm)
theorem ZGe:ZJ X (.type "int") (λxs H Q=>∃(a:Str) (n:Int),xs=[.str a]/\PySem.intText? a=some n/\a.length<=640/\Q (.int n) H):=by
 intro pins s σ H xs us Q I rv h;obtain⟨a,n,rfl,hn,hl,q⟩:=h;obtain⟨u,rfl,ru⟩:=ZAp rv;obtain⟨u,rfl⟩:=ru;exact PySem.W.KIN.call_text hn hl ⟨.int _,H,I.tok _,⟨_,rfl⟩,q⟩
end L2
namespace L2
open PySem PySem.Spec PyProof.Rows H1
def isS:W->Bool
 |.dat (.str _)=>true
 |_=>false
def dMt(f:W->List W->G->Option (W×G))(d:DE)(aa:DA):DE:=λsd g=>(d sd g).bind λp=>if isS p.1=true then (aa sd p.2).bind λq=>f p.1 q.1 q.2 else none
def rM(K:PySem.W.Frag)(f:W->List W->G->Option (W×G)):V->List V->Hp->VK->Prop:=λx vs H Q=>∃ρ a ws g z g',x=.str a/\HR K ρ H g/\RelL K ρ H vs ws/\f (.dat (.str a)) ws g=some (z,g')/\Pv K ρ H z g' Q
def ZBL:W->List W->G->Option (W×G)
 |.dat (.str sep),[w],g=>(Zz w g).bind λds=>(ZGA ds).bind λss=>if sep.length<=16/\(ss.map (·.length)).sum+ss.length<=1048576 then some (.dat (.str (Txt.join sep ss)),g) else none
 |_,_,_=>none
def ZBk:W->List W->G->Option (W×G)
 |.dat (.str a),[.dat (.str sep)],g=>if (sep.length == 0)=false/\a.length<=500000 then some (.dat (.list ((Txt.split a sep).map .str)),g) else none
 |_,_,_=>none
def ZHW:W->G->Option (W×G)
 |.dat (.str a),g=>if a.length<=640 then (PySem.intText? a).map λn=>(.dat (.int n),g) else none
 |w,g=>ZHL w g
section
variable{X:Cx}
theorem ZET{K:PySem.W.Frag}{ρ : Rh}{H:Hp}:∀{vs:List V} {ss:List Str},RelDL K ρ H vs (ss.map .str)->vs=ss.map V.str
 |_,[],.nil=>rfl
 |_,s::r,.cons (.str _) t=>by rw[ZET t];rfl
theorem ZIS:MtR X "str.join" (λx vs H Q=>∃(sep:Str) (l:Addr) (ss:List Str),x=.str sep/\vs=[.ref l]/\SqL X.K H l (ss.map V.str)/\sep.length<=16/\(ss.map (·.length)).sum+ss.length<=1048576/\Q (.str (Txt.join sep ss)) H):=by
 intro pins s σ H x vs v us Q I rx rv h;obtain⟨sep,l,ss,rfl,rfl,hl,h16,hx,q⟩:=h;obtain⟨t,rfl⟩:=rx;obtain⟨u,rfl,ru⟩:=ZAp rv;cases ru;obtain⟨its,r,pl,_⟩:=I.list hl;obtain⟨ps,rfl,hps⟩:=ZDV r;exact SC.join pl.isList hps (joinOk_of_weight hx h16) λt' k=>⟨.str _,H,I.tok _,⟨_,rfl⟩,q⟩
theorem mJoin:MtR X "str.join" (rM X.K ZBL):=λpins s σ H x vs v us Q I rx rv h=>by
 obtain⟨ρ,a,ws,g,z,g',rfl,hR,rl,e,q⟩:=h;refine ZIS pins s σ H _ vs v us Q I rx rv ?_;cases rl with
 |nil=>cases e
 |cons r1 t =>
  cases t with
  |cons _ _=>cases e
  |nil =>
   obtain⟨ds,e1,e⟩:=bnd e;obtain⟨ss,e2,e⟩:=bnd e
   split at e
   ·rename_i hz
    cases e;obtain⟨l,vs,rfl,hl,rd⟩:=Zp hR r1 e1;have:=ZFx e2;subst this
    have:=ZET rd;subst this
    exact⟨a,l,ss,rfl,rfl,.inl (.inl hl),hz.1,hz.2,q.at hR (.dat (.str _))⟩
   ·cases e
theorem ZKW:MtR X "str.split" (rM X.K ZBk):=λpins s σ H x vs v us Q I rx rv h=>by
 obtain⟨ρ,a,ws,g,z,g',rfl,hR,rl,e,q⟩:=h;refine ZH3 pins s σ H _ vs v us Q I rx rv ?_;cases rl with
 |nil=>cases e
 |cons r1 t =>
  cases t with
  |cons _ _=>cases r1 <;> (try cases e) <;> (rename_i r1;cases r1 <;> cases e)
  |nil =>
   cases r1 with
   |dat r1 =>
    cases r1 with
    |str sep =>
     unfold ZBk at e;dsimp only at e
     split at e
     ·rename_i hz
      cases e;exact⟨a,sep,rfl,rfl,hz.1,hz.2,λl hl=>q.new hR RelDL.ofStrs hl⟩
     ·cases e
    |_=>cases e
   |_=>cases e
theorem cIntS:ZJ X (.type "int") (rF X.K (f1 ZHW)):=by
 intro pins s σ H xs us Q I rv h;obtain⟨ρ,ws,g,z,g',hR,rl,e,q⟩:=h;cases rl with
 |nil=>cases e
 |cons r1 t =>
  cases t with
  |cons _ _=>cases e
  |nil =>
   have old:ZHL _ g=some (z,g')->wpAny (model X.prog X.w) X.A (call (.type "int") us) (EP X pins σ Q) X.xe s:=λe=>ZMW pins s σ H _ us Q I rv ⟨ρ,[_],g,z,g',hR,.cons r1 .nil,e,q⟩
   cases r1 with
   |dat r1 =>
    cases r1 with
    |str a =>
     have e:(if a.length<=640 then (PySem.intText? a).map λn=>(W.dat (.int n),g) else none)=some (z,g'):=e
     split at e
     ·rename_i hz
      obtain⟨n,e1,e2⟩:=mp e;cases e2;exact ZGe pins s σ H _ us Q I rv ⟨a,n,rfl,e1,hz,q.at hR (.dat (.int _))⟩
     ·cases e
    |_=>exact old e
   |_=>exact old e
variable{o e:Expr}{es:List Expr}{d:DE}{aa:DA}{name:Str}{apos cpos:Pos}{id:String}{f:W->List W->G->Option (W×G)}
theorem ZKD(slot:Slot "str" name id)(hty:typeOf (.builtin id)=pure (.type "method_descriptor"))(hm:MtR X id (rM X.K f))(ho:JE X o d)(ha:JA X (e::es) aa)
  (hbase:attributeBase o name X.env (eval o X.env)=eval o X.env:=by rfl)
  (hfew:((backTo cpos (starEach (e :: es) X.env)).all (λ x=>!x.1) && (backToKw cpos (keywordEach [] X.env)).all (λ x=>x.1.isSome)
   && decide ((e::es).length+([]:List Keyword).length+(if ([]:List Keyword).isEmpty then 0 else 1)<30))=true:=by rfl)
  (hline:(apos.endLine == cpos.line)=true:=by rfl)(hs:starEach (e::es) X.env=(false,eval e X.env)::starEach es X.env:=by rfl)(hplain:(backTo cpos (starEach es X.env)).any (·.1)=false:=by rfl) :
  JE X (.Call (.Attribute o name apos) (e::es) [] cpos) (dMt f d aa):=⟨(ZKH PySem.F.plainAttrs_str slot hty hm ho.h ha.h hbase hfew hline hs hplain).imp λσ H Q ⟨ρ,sd,g,x,g',r,e,q⟩=>by
 obtain⟨⟨y,g1⟩,e1,e⟩:=bnd e;refine⟨ρ,sd,g,y,g1,r,e1,λv H1 ρ1 s1 h1 r1=>?_⟩;dsimp only at e
 split at e
 case isFalse=>cases e
 rename_i his
 obtain⟨⟨ws,g2⟩,e2,e⟩:=bnd e;cases r1 with
 |dat r1 =>
  cases r1 with
  |str a=>exact⟨rfl,ρ1,sd,g1,ws,g2,r.step s1 h1,e2,λvs H2 ρ2 s2 h2 r2=>⟨ρ2,a,ws,g2,x,g',rfl,h2,r2,e,q.step (s1.trans s2)⟩⟩
  |_=>cases his
 |_=>cases his⟩
theorem ZIJ{e:Expr}(ho:JE X o d)(ha:JA X [e] aa)
  (hbase:attributeBase o "join" X.env (eval o X.env)=eval o X.env:=by rfl)
  (hfew:((backTo cpos (starEach [e] X.env)).all (λ x=>!x.1) && (backToKw cpos (keywordEach [] X.env)).all (λ x=>x.1.isSome)
   && decide ([e].length+([]:List Keyword).length+(if ([]:List Keyword).isEmpty then 0 else 1)<30))=true:=by rfl)
  (hline:(apos.endLine == cpos.line)=true:=by rfl)(hs:starEach [e] X.env=(false,eval e X.env)::starEach [] X.env:=by rfl)(hplain:(backTo cpos (starEach [] X.env)).any (·.1)=false:=by rfl) :
  JE X (.Call (.Attribute o "join" apos) [e] [] cpos) (dMt ZBL d aa):=ZKD PySem.F.slot_str_join PySem.F.type_str_join mJoin ho ha hbase hfew hline hs hplain
theorem ZGc{e:Expr}(ho:JE X o d)(ha:JA X [e] aa)
  (hbase:attributeBase o "split" X.env (eval o X.env)=eval o X.env:=by rfl)
  (hfew:((backTo cpos (starEach [e] X.env)).all (λ x=>!x.1) && (backToKw cpos (keywordEach [] X.env)).all (λ x=>x.1.isSome)
   && decide ([e].length+([]:List Keyword).length+(if ([]:List Keyword).isEmpty then 0 else 1)<30))=true:=by rfl)
  (hline:(apos.endLine == cpos.line)=true:=by rfl)(hs:starEach [e] X.env=(false,eval e X.env)::starEach [] X.env:=by rfl)(hplain:(backTo cpos (starEach [] X.env)).any (·.1)=false:=by rfl) :
  JE X (.Call (.Attribute o "split" apos) [e] [] cpos) (dMt ZBk d aa):=ZKD PySem.F.slot_str_split PySem.F.type_str_split ZKW ho ha hbase hfew hline hs hplain
end
def ZGp:W->G->Option (W×G)
 |.dat (.str z),g=>if z.length<=100000 then some (.dat (.int (z.length:Int)),g) else none
 |w,g=>ZEY w g
def ZIn:W->G->Option (W×G)
 |.dat (.int i),g=>if i.natAbs<10 ^ 12 then some (.dat (.str (toString i:String)),g) else none
 |_,_=>none
def ZHc:W->W->G->Option (W×G)
 |.dat (.str i),.dat (.str j),g=>some (.dat (.bool (!(Builtin.Str.occurrences j i 0 j.length 1).isEmpty)),g)
 |a,b,g=>ZK9 a b g
def ZKc(d:DE):DE:=λsd g=>(d sd g).bind λp=>match p.1 with
 |.dat (.int i)=>if i.natAbs<10 ^ 12 then some (.dat (.str (toString i:String)),p.2) else none
 |.dat (.str y)=>if y.length<=100000 then some (.dat (.str y),p.2) else none
 |_=>none
section
variable{X:Cx}
theorem cLenS:ZJ X (.builtin "len") (rF X.K (f1 ZGp)):=by
 intro pins s σ H xs us Q I rv h;obtain⟨ρ,ws,g,z,g',hR,rl,e,q⟩:=h;cases rl with
 |nil=>cases e
 |cons r1 t =>
  cases t with
  |cons _ _=>cases e
  |nil =>
   have old:ZEY _ g=some (z,g')->wpAny (model X.prog X.w) X.A (call (.builtin "len") us) (EP X pins σ Q) X.xe s:=λe=>ZMQ pins s σ H _ us Q I rv ⟨ρ,[_],g,z,g',hR,.cons r1 .nil,e,q⟩
   cases r1 with
   |dat r1 =>
    cases r1 with
    |str a =>
     have e:(if a.length<=100000 then some (W.dat (.int (a.length:Int)),g) else none)=some (z,g'):=e
     split at e
     ·rename_i hz
      cases e;exact ZDq pins s σ H _ us Q I rv ⟨a,rfl,le_trans hz (by decide),q.at hR (.dat (.int _))⟩
     ·cases e
    |_=>exact old e
   |_=>exact old e
theorem cStr:ZJ X (.type "str") (rF X.K (f1 ZIn)):=c1 ZEB λρ H g x w z g' Q hR r e q=>by
 unfold ZIn at e
 split at e
 ·split at e
  ·rename_i hz
   cases e;cases r with
   |dat r =>
    cases r with
    |int _=>exact⟨_,rfl,ZBu hz,q.at hR (.dat (.str _))⟩
  ·cases e
 ·cases e
theorem oInT(hu:X.A.units+64<cLine):OpR X (compareOp .In) (rOp X.K ZHc):=by
 intro pins s σ H x y v u Q I rx ry h;obtain⟨ρ,a,b,g,z,g',hR,ra,rb,e,q⟩:=h;have old:ZK9 a b g=some (z,g')->wpAny (model X.prog X.w) X.A (compareOp .In v u) (EP X pins σ Q) X.xe s:=λe=>oIn hu pins s σ H x y v u Q I rx ry ⟨ρ,a,b,g,z,g',hR,ra,rb,e,q⟩
 unfold ZHc at e
 split at e
 ·cases e
  cases ra with
  |dat ra =>
   cases rb with
   |dat rb =>
    cases ra;cases rb;exact ZGj pins s σ H _ _ v u Q I rx ry ⟨_,_,rfl,rfl,q.at hR (.dat (.bl _))⟩
 ·exact old e
theorem ZL3{e:Expr}{te:TE}{pos:Pos}(h:PE X e te):PE X (.FormattedValue e (-1) none pos) (λσ H Q=>te σ H λx H1=>(∃i:Int,x=.int i/\i.natAbs<10 ^ 12/\Q (.str (toString i:String)) H1)∨∃y:Str,x=.str y/\y.length<=100000/\Q (.str y) H1):=by
 intro pins s σ H Q I hh;refine FormattedValue_plain (thn (h pins s σ H _ I hh) λv s1 ⟨x,H1,I1,r1,q1⟩=>?_);rcases q1 with ⟨i,rfl,hi,q⟩|⟨y,rfl,hi,q⟩
 ·obtain⟨t,rfl⟩:=r1
  exact formatField_int_small (ZBu hi) ⟨.str _,H1,I1.tok _,⟨_,rfl⟩,q⟩
 ·obtain⟨t,rfl⟩:=r1
  exact formatField_str (λt' tk=>⟨.str y,H1,I1.tok _,⟨_,rfl⟩,q⟩) (le_trans hi (by decide))
theorem ZI3{e:Expr}{d:DE}{pos:Pos}(h:JE X e d):JE X (.FormattedValue e (-1) none pos) (ZKc d):=⟨(ZL3 h.h).imp λσ H Q ⟨ρ,sd,g,x,g',r,e1,q⟩=>by
 obtain⟨⟨y,g1⟩,e2,e1⟩:=bnd e1;refine⟨ρ,sd,g,y,g1,r,e2,λv H1 ρ1 s1 h1 r1=>?_⟩;have q1:=q.step s1;dsimp only at e1
 split at e1
 ·split at e1
  ·rename_i hz
   cases e1;cases r1 with
   |dat r1 =>
    cases r1 with
    |int _=>exact .inl ⟨_,rfl,hz,q1.at h1 (.dat (.str _))⟩
  ·cases e1
 ·split at e1
  ·rename_i hz
   cases e1;cases r1 with
   |dat r1 =>
    cases r1 with
    |str _=>exact .inr ⟨_,rfl,hz,q1.at h1 (.dat (.str _))⟩
  ·cases e1
 ·cases e1⟩
theorem ZJH{e:Expr}{d:DE}{pos:Pos}(h:JE X e d):JE X (.JoinedStr [e] pos) d:=⟨ZHa h.h⟩
def ZFY(a b:W)(g:G):Option (W×G):=match a with
 |.dat (.str z)=>(ZBH b).bind λi=>if z.length<=100000 then (atI z.cps.toList i).map λc=>(.dat (.str ⟨#[c]⟩),g) else none
 |a=>Z2 a b g
theorem oIxT:IxR X (rOp X.K ZFY):=by
 intro value slice pins s σ H x y v u Q I rx ry h hs;obtain⟨ρ,a,b,g,z,g',hR,ra,rb,e,q⟩:=h;have old:Z2 a b g=some (z,g')->wpAny (model X.prog X.w) X.A (subscriptTail value slice v u) (EP X pins σ Q) X.xe s:=λe=>oIx value slice pins s σ H x y v u Q I rx ry ⟨ρ,a,b,g,z,g',hR,ra,rb,e,q⟩ hs
 unfold ZFY at e
 split at e
 ·obtain⟨i,e0,e⟩:=bnd e
  have:=ZAK rb e0;subst this
  split at e
  ·rename_i hz
   obtain⟨c,e1,e2⟩:=mp e;cases e2;cases ra with
   |dat ra =>
    cases ra;exact ZLE value slice pins s σ H _ _ v u Q I rx ry ⟨_,_,_,rfl,rfl,le_trans hz (by decide),e1,q.at hR (.dat (.str _))⟩ hs
  ·cases e
 ·exact old e
theorem ZGG{x n:Str}{pos:Pos}(hg:Gl X x)(h:ZIm X.mg x n)(hd:(x == ("__debug__" : Str))=false:=by decide):JE X (.Name x pos) (dC (.str n)):=⟨ZHF (ZIQ hg h hd) λ_ _=>.str n⟩
def ZMV(d:DE):DI:=λsd g=>(d sd g).bind λp=>match p.1 with
 |.dat (.str x)=>some (ZIE x,none,p.2)
 |_=>none
theorem ZJB{tg l:Expr}{d:DE}(h:JE X l d):JI X tg l (ZMV d):=⟨(ZMG h.h).imp λσ H R ⟨ρ,sd,g,xs,src,g',r,e,q⟩=>by
 obtain⟨⟨y,g1⟩,e1,e⟩:=bnd e;refine⟨ρ,sd,g,y,g1,r,e1,λv H1 ρ1 s1 h1 r1=>?_⟩;dsimp only at e
 split at e
 ·cases e
  cases r1 with
  |dat r1 =>
   cases r1;exact⟨_,rfl,q _ H1 ρ1 s1 h1 ⟨trivial,ItOk.str⟩⟩
 ·cases e⟩
end
def jn(c:Nat):List (List Nat)->List Nat
 |[]=>[]
 |[a]=>a
 |a::b::l=>a++c::jn c (b::l)
theorem ZHO{c:Nat}:∀{a a' r r':List Nat},c∉a->c∉a'->a++c::r=a'++c::r'->a=a'/\r=r'
 |[],[],r,r',_,_,h=>⟨rfl,by simpa using h⟩
 |[],x::a',r,r',_,h2,h=>by
  have h:c::r=x::(a'++c::r'):=h;cases h;exact absurd (mem_cons_self ..) h2
 |x::a,[],r,r',h1,_,h=>by
  have h:x::(a++c::r)=c::r':=h;cases h;exact absurd (mem_cons_self ..) h1
 |x::a,y::a',r,r',h1,h2,h=>by
  have h:x::(a++c::r)=y::(a'++c::r'):=h;injection h with e1 e2
  obtain⟨e3,e4⟩:=ZHO (λz=>h1 (mem_cons_of_mem _ z)) (λz=>h2 (mem_cons_of_mem _ z)) e2;exact⟨by rw[e1,e3],e4⟩
theorem ZFr{c:Nat}:∀{A B:List (List Nat)},A≠[]->B≠[]->(∀a∈A,c∉a)->(∀b∈B,c∉b)->jn c A=jn c B->A=B
 |[],_,h,_,_,_,_=>absurd rfl h
 |_,[],_,h,_,_,_=>absurd rfl h
 |[a],[b],_,_,_,_,e=>by rw[show a=b from e]
 |[a],b::b'::B,_,_,hA,_,e=>by
  have e:a=b++c::jn c (b'::B):=e;exact absurd (by rw[e];exact mem_append_right _ (mem_cons_self ..)) (hA a (mem_cons_self ..))
 |a::a'::A,[b],_,_,_,hB,e=>by
  have e:a++c::jn c (a'::A)=b:=e;exact absurd (by rw[←e];exact mem_append_right _ (mem_cons_self ..)) (hB b (mem_cons_self ..))
 |a::a'::A,b::b'::B,_,_,hA,hB,e=>by
  have e:a++c::jn c (a'::A)=b++c::jn c (b'::B):=e;obtain⟨e1,e2⟩:=ZHO (hA a (mem_cons_self ..)) (hB b (mem_cons_self ..)) e;have:=ZFr (A:=a'::A) (B:=b'::B) (by simp) (by simp) (λx hx=>hA x (mem_cons_of_mem _ hx)) (λx hx=>hB x (mem_cons_of_mem _ hx)) e2;rw[e1,this]
theorem ZBQ{c:Nat}:∀ss:List Str,(Str.join ⟨#[c]⟩ ss).cps.toList=jn c (ss.map λs=>s.cps.toList)
 |[]=>rfl
 |[a]=>rfl
 |a::b::l=>by
  show((a++(⟨#[c]⟩:Str))++Str.join ⟨#[c]⟩ (b::l)).cps.toList=_;rw[Str.cps_append,Array.toList_append,Str.cps_append,Array.toList_append,ZBQ (b::l),append_assoc];rfl
theorem ZEG{a b:Str}(h:a.cps.toList=b.cps.toList):a=b:=Str.ext' (Array.toList_inj.mp h)
theorem ZBb{c:Nat}{ss:List Str}(h0:ss≠[])(h:∀s∈ss,c∉s.cps.toList):Txt.split (Txt.join ⟨#[c]⟩ ss) ⟨#[c]⟩=ss:=by
 have e:Str.join ⟨#[c]⟩ (Txt.split (Txt.join ⟨#[c]⟩ ss) ⟨#[c]⟩)=Str.join ⟨#[c]⟩ ss:=by
  rw[StrLaws.join_split];show Builtin.Str.glued ⟨#[c]⟩ ss=_;rw[StrLaws.glued_eq_join]
 have k:(Str.join ⟨#[c]⟩ (Txt.split (Txt.join ⟨#[c]⟩ ss) ⟨#[c]⟩)).cps.toList=(Str.join ⟨#[c]⟩ ss).cps.toList:=by rw[e]
 rw[ZBQ,ZBQ] at k;have fr:=StrLaws.split_free (Txt.join ⟨#[c]⟩ ss) c;have ps:=split_pos (Txt.join ⟨#[c]⟩ ss) ⟨#[c]⟩
 generalize Txt.split (Txt.join ⟨#[c]⟩ ss) ⟨#[c]⟩=A at *
 have inj:∀{A B:List Str},A.map (λs=>s.cps.toList)=B.map (λs=>s.cps.toList)->A=B:=by
  intro A
  induction A with
  |nil=>intro B e;cases B with
   |nil=>rfl
   |cons _ _=>cases e
  |cons a A ih=>intro B e;cases B with
   |nil=>cases e
   |cons b B =>
    injection e with e1 e2
    rw[ZEG e1,ih e2]
 refine inj (ZFr ?_ ?_ ?_ ?_ k)
 ·intro z
  rw[List.map_eq_nil_iff] at z;rw[z] at ps;exact absurd ps (by decide)
 ·intro z
  exact h0 (List.map_eq_nil_iff.mp z)
 ·intro a ha
  obtain⟨s,hs,rfl⟩:=List.mem_map.mp ha;exact fr s hs
 ·intro a ha
  obtain⟨s,hs,rfl⟩:=List.mem_map.mp ha;exact h s hs
def nt(n:Nat):Str:=Str.ofString (toString (n:Int))
theorem ZFI(n:Nat):(nt n).cps.toList=(Nat.toDigits 10 n).map Char.toNat:=PySem.W.KIN.signs_num n
theorem ZCj{n:Nat}:∀x∈(nt n).cps.toList,48<=x/\x<=57:=by
 intro x hx;rw[ZFI] at hx;obtain⟨c,hc,rfl⟩:=List.mem_map.mp hx;have h:=Nat.isDigit_of_mem_toDigits (by decide) (by decide) hc;unfold Char.isDigit at h;rw[Bool.and_eq_true,decide_eq_true_iff,decide_eq_true_iff] at h;exact⟨h.1,h.2⟩
theorem ZCc{n:Nat}(h:n<10 ^ 9) : 1<=(nt n).length/\(nt n).length<=9:=by
 have e:(nt n).length=(Nat.toDigits 10 n).length:=by
  show(nt n).cps.size=_;rw[←Array.length_toList,ZFI,length_map]
 rw[e];refine⟨?_,(Nat.length_toDigits_le_iff (by decide) (by decide)).mpr h⟩;have:=@Nat.toDigits_ne_nil n 10;cases hh:Nat.toDigits 10 n with
 |nil=>exact absurd hh this
 |cons _ _=>exact Nat.succ_le_succ (zero_le _)
theorem ZHr:∀{n:Nat},0<n->∃d,0<d/\d<10/\(Nat.toDigits 10 n).head? = some (Nat.digitChar d):=by
 intro n
 induction n using Nat.strongRecOn with
 |ind n ih =>
  intro h;rw[Nat.toDigits_eq_if (by decide)]
  split
  ·rename_i hl
   exact⟨n,h,hl,rfl⟩
  ·rename_i hl
   obtain⟨d,h0,h1,h2⟩:=ih (n / 10) (by omega) (by omega);refine⟨d,h0,h1,?_⟩;cases hh:Nat.toDigits 10 (n / 10) with
   |nil=>rw[hh] at h2;cases h2
   |cons a r=>rw[hh] at h2;exact h2
theorem ZFg{n:Nat}(h : 0<n):∃c r,(nt n).cps.toList=c::r/\49<=c/\c<=57:=by
 obtain⟨d,h0,h1,h2⟩:=ZHr h;rw[ZFI];cases hh:Nat.toDigits 10 n with
 |nil=>rw[hh] at h2;cases h2
 |cons a r =>
  rw[hh] at h2;cases h2;refine⟨_,_,rfl,?_⟩;have:∀d:Nat,d<10->0<d->49<=(Nat.digitChar d).toNat/\(Nat.digitChar d).toNat<=57:=by decide
  exact this d h1 h0
theorem ZJR{n:Nat}(h:n<10 ^ 9):PySem.intText? (nt n)=some (n:Int):=PySem.W.KIN.num_reads (by omega) (by omega)
section
variable{sd:Sd}{g:G}{d:DE}{aa:DA}{f:W->List W->G->Option (W×G)}{P:W->G->Prop}
theorem ZDL(h:EvP (d sd g) λx g1=>∃a:Str,x=.dat (.str a)/\EvP (aa sd g1) λws g2=>EvP (f (.dat (.str a)) ws g2) P):EvP (dMt f d aa sd g) P:=by
 obtain⟨x,g1,e,a,rfl,ws,g2,e2,y,g3,e3,q⟩:=h;refine⟨y,g3,?_,q⟩;show(d sd g).bind _=_;rw[e];show(aa sd g1).bind _=_;rw[e2];exact e3
theorem ZF0{sep:Str}{ss:List Str}{ds:List PyData}(hd:ds=ss.map .str)(h1:sep.length<=16)(h2:(ss.map (·.length)).sum+ss.length<=1048576)(q:P (.dat (.str (Txt.join sep ss))) g):EvP (ZBL (.dat (.str sep)) [.dat (.list ds)] g) P:=by
 subst hd;refine⟨_,g,?_,q⟩;show(ZGA (ss.map .str)).bind _=_;rw[ZEa];exact if_pos ⟨h1,h2⟩
theorem ZBy{sep:Str}{ss:List Str}{ds:List PyData}(hd:ds=ss.map .str)(h1:sep.length<=16)(h2:ss.length<=1000)(h3:∀x∈ss,x.length<=1000)(q:P (.dat (.str (Txt.join sep ss))) g):EvP (ZBL (.dat (.str sep)) [.dat (.list ds)] g) P:=by
 refine ZF0 hd h1 ?_ q;have h4:=ZGv h3;have h5:ss.length*1000<=1000*1000:=Nat.mul_le_mul_right _ h2;omega
theorem ZDr{a sep:Str}{ss:List Str}(h1:(sep.length == 0)=false)(h2:a.length<=500000)(e:Txt.split a sep=ss)(q:P (.dat (.list (ss.map .str))) g):EvP (ZBk (.dat (.str a)) [.dat (.str sep)] g) P:=by
 subst e;exact⟨_,g,if_pos ⟨h1,h2⟩,q⟩
theorem ZLc{a:Str}{n:Int}(h:a.length<=640)(e:PySem.intText? a=some n)(q:P (.dat (.int n)) g):EvP (f1 ZHW [.dat (.str a)] g) P:=by
 refine⟨_,g,?_,q⟩;show(if a.length<=640 then (PySem.intText? a).map λn=>(W.dat (.int n),g) else none)=_;rw[if_pos h,e];rfl
theorem ZLb{a:Str}(h:a.length<=100000)(q:P (.dat (.int (a.length:Int))) g):EvP (f1 ZGp [.dat (.str a)] g) P:=⟨_,g,if_pos h,q⟩
theorem ZMD{z:Str}{i:Int}{c:Nat}(h:z.length<=100000)(e:atI z.cps.toList i=some c)(q:P (.dat (.str ⟨#[c]⟩)) g):EvP (ZFY (.dat (.str z)) (.dat (.int i)) g) P:=by
 refine⟨_,g,?_,q⟩;show(if z.length<=100000 then (atI z.cps.toList i).map λc=>(W.dat (.str ⟨#[c]⟩),g) else none)=_;rw[if_pos h,e];rfl
theorem ZLJ{n:Nat}(h:EvP (d sd g) λx g1=>x=.dat (.int (n:Int))/\n<10 ^ 12/\P (.dat (.str (nt n))) g1):EvP (ZKc d sd g) P:=by
 obtain⟨x,g1,e,rfl,hn,q⟩:=h;refine⟨_,g1,?_,q⟩;show(d sd g).bind _=_;rw[e];exact if_pos (by omega)
theorem ZKw{n:Nat}(h:n<10 ^ 12)(q:P (.dat (.str (nt n))) g):EvP (f1 ZIn [.dat (.int (n:Int))] g) P:=⟨_,g,if_pos (by omega),q⟩
theorem ZId:∀c:Nat,c<=57->48<=c->(!(Builtin.Str.occurrences (Str.ofString "0123456789") ⟨#[c]⟩ 0 (Str.ofString "0123456789").length 1).isEmpty)=true:=by
 intro c h1 h2;have:c=48∨c=49∨c=50∨c=51∨c=52∨c=53∨c=54∨c=55∨c=56∨c=57:=by omega
 rcases this with rfl|rfl|rfl|rfl|rfl|rfl|rfl|rfl|rfl|rfl <;> decide +kernel
end
end L2
namespace K74
open PySem PySem.Spec PyProof.Rows L2 H1
def top(i:Nat):Stmt:=PySem.Challenge.pw_hearsaybook_k74_rows_written.main.body.getD i (.Pass ⟨0,0,0,0⟩)
abbrev ZAy:List Str:=["thing"]
abbrev ZA0:List Str:=["thing"]
abbrev ZCQ:List Str:=["things"]
abbrev ZAF:List Str:=["thing"]
abbrev ZAX:List Str:=["some","others"]
abbrev ZAt:List Str:=["row"]
abbrev Z7:List Str:=["doings"]
abbrev Zv:List Str:=["numbers"]
abbrev ZBP:List Str:=["text"]
abbrev ZA4:List Str:=["text"]
abbrev Z9:List Str:=["word"]
abbrev Zx:List Str:=["text","between"]
abbrev Z8:List Str:=["text"]
abbrev ZAU:List Str:=["text"]
abbrev ZAv:List Str:=["_law_script","_law_k"]
abbrev ZAS:List Str:=["_law_box_here","_law_many"]
abbrev Z3:List Str:=["_law_box_here","_law_most","_law_many"]
abbrev Z4:List Str:=["_law_box_here"]
abbrev Zo:List Str:=["_law_numbers"]
abbrev ZAT:List Str:=["_law_row"]
set_option genInjectivity false in
set_option genSizeOf false in
structure Adr where
 (fx0 fx1 fx2 fx3 fx4 fx5 fx6 fx7 fx8 fx9 fx10 fx11 fx12 fx13 fx14 fx15 fx16 fx17 fx18 fx19:Addr)
 (fy0 fy1 fy2 fy3 fy4 fy5 fy6 fy7 fy8 fy9 fy10 fy11 fy12 fy13 fy14 fy15 fy16 fy17 fy18 fy19:FuncData)
structure Txt (K:PySem.W.Frag) (mg:Str->Option Value) (A:Adr):Prop where
 z_abs:mg "abs" = none
 z_all:mg "all" = none
 z_bool:mg "bool" = none
 z_int:mg "int" = none
 z_isinstance:mg "isinstance" = none
 z_len:mg "len" = none
 z_max:mg "max" = none
 z_min:mg "min" = none
 z_range:mg "range" = none
 z_repr:mg "repr" = none
 z_sorted:mg "sorted" = none
 z_str:mg "str" = none
 z_tuple:mg "tuple" = none
 z_zip:mg "zip" = none
 g_FIGURES:ZIm mg "FIGURES" "0123456789"
 g_MOST_FIGURES:ZJu mg "MOST_FIGURES" 9
 g_NONE:ZIm mg "NONE" "-"
 fz0:Def K mg "is_whole" (top 1) ZAy A.fx0 A.fy0
 fz1:Def K mg "is_count" (top 2) ZA0 A.fx1 A.fy1
 fz2:Def K mg "rises" (top 3) ZCQ A.fx2 A.fy2
 fz3:Def K mg "are_rising" (top 5) ZAF A.fx3 A.fy3
 fz4:Def K mg "are_apart" (top 6) ZAX A.fx4 A.fy4
 fz5:Def K mg "show_row" (top 14) ZAt A.fx5 A.fy5
 fz6:Def K mg "show_doings" (top 15) Z7 A.fx6 A.fy6
 fz7:Def K mg "show_numbers" (top 16) Zv A.fx7 A.fy7
 fz8:Def K mg "or_none" (top 17) ZBP A.fx8 A.fy8
 fz9:Def K mg "read_row" (top 18) ZA4 A.fx9 A.fy9
 fz10:Def K mg "read_doings" (top 19) Z9 A.fx10 A.fy10
 fz11:Def K mg "read_numbers" (top 20) Zx A.fx11 A.fy11
 fz12:Def K mg "read_number" (top 21) Z8 A.fx12 A.fy12
 fz13:Def K mg "is_number" (top 22) ZAU A.fx13 A.fy13
 fz14:Def K mg "_law_box" (top 24) ZAv A.fx14 A.fy14
 fz15:Def K mg "_law_take" (top 25) ZAS A.fx15 A.fy15
 fz16:Def K mg "_law_rising" (top 26) Z3 A.fx16 A.fy16
 fz17:Def K mg "_law_doings" (top 27) Z4 A.fx17 A.fy17
 fz18:Def K mg "_law_part_text" (top 28) Zo A.fx18 A.fy18
 fz19:Def K mg "_law_text" (top 29) ZAT A.fx19 A.fy19
section
variable{a0 a1 a2 a3 a4 a5 a6 a7:W}{g:G}{P:W->G->Prop}
@[reducible] noncomputable def ZBf:DS :=
 (ZN (ZBA (dF ZGN (ZA (ZB 0) (ZA (λ_ g=>some (.ty "int",g)) ZC))) (ZEy (dF ZGN (ZA (ZB 0) (ZA (λ_ g=>some (.ty "bool",g)) ZC))))))
@[irreducible] noncomputable def Zr:List W->G->Option (W×G):=ZAA 1 ZBf
theorem ZEu(h:EvS (ZBf [some a0] g) (runP P)):EvP (Zr [a0] g) P:=by
 unfold Zr;exact ZU h
@[reducible] noncomputable def ZBc:DS :=
 (ZN (ZBA (dF Zr (ZA (ZB 0) ZC)) (dOp ZKR (ZB 0) (dC (.int 0)))))
@[irreducible] noncomputable def Zs:List W->G->Option (W×G):=ZAA 1 ZBc
theorem ZEU(h:EvS (ZBc [some a0] g) (runP P)):EvP (Zs [a0] g) P:=by
 unfold Zs;exact ZU h
@[reducible] noncomputable def ZDw:DS :=
 (ZN (dF (f1 ZCr) (ZA (Ze 2 [] (.tp (.cons (.nm 0) (.cons (.nm 1) .nil))) (ZER (ZA (ZB 0) (ZA (dSl (ZB 0) (ZCA (dC (.int 1))) ZA3) ZC))) ZA7 (dOp ZL4 (ZB 0) (ZB 1))) ZC)))
@[irreducible] noncomputable def ZAu:List W->G->Option (W×G):=ZAA 1 ZDw
theorem ZIN(h:EvS (ZDw [some a0] g) (runP P)):EvP (ZAu [a0] g) P:=by
 unfold ZAu;exact ZU h
@[reducible] noncomputable def ZAx:DS :=
 (ZN (ZBA (dF ZGN (ZA (ZB 0) (ZA (λ_ g=>some (.ty "tuple",g)) ZC))) (ZBA (dF (f1 ZCr) (ZA (Ze 1 [] (.nm 0) (ZBG (ZB 0)) ZA7 (dF Zs (ZA (ZB 0) ZC))) ZC)) (dF ZAu (ZA (ZB 0) ZC)))))
@[irreducible] noncomputable def Zd:List W->G->Option (W×G):=ZAA 1 ZAx
theorem ZDE(h:EvS (ZAx [some a0] g) (runP P)):EvP (Zd [a0] g) P:=by
 unfold Zd;exact ZU h
@[reducible] noncomputable def ZBI:DS :=
 (ZN (dF (f1 ZCr) (ZA (Ze 1 [1] (.nm 0) (ZBG (ZB 0)) ZA7 (dOp ZEH (ZB 0) (ZB 1))) ZC)))
@[irreducible] noncomputable def ZO:List W->G->Option (W×G):=ZAA 2 ZBI
theorem ZDz(h:EvS (ZBI [some a0,some a1] g) (runP P)):EvP (ZO [a0,a1] g) P:=by
 unfold ZO;exact ZU h
@[reducible] noncomputable def ZB1:DS :=
 (ZN (dIf (dB (dOp ZBt (ZB 0) (dC (.str "")))) (dC (.str "-")) (ZB 0)))
@[irreducible] noncomputable def ZAJ:List W->G->Option (W×G):=ZAA 1 ZB1
theorem ZFN(h:EvS (ZB1 [some a0] g) (runP P)):EvP (ZAJ [a0] g) P:=by
 unfold ZAJ;exact ZU h
@[reducible] noncomputable def ZAP:DS :=
 (ZN (dF ZAJ (ZA (dMt ZBL (dC (.str ".")) (ZA (Ze 1 [] (.nm 0) (ZBG (ZB 0)) ZA7 (ZKc (ZB 0))) ZC)) ZC)))
@[irreducible] noncomputable def ZQ:List W->G->Option (W×G):=ZAA 1 ZAP
theorem ZCG(h:EvS (ZAP [some a0] g) (runP P)):EvP (ZQ [a0] g) P:=by
 unfold ZQ;exact ZU h
@[reducible] noncomputable def ZAc:DS :=
 (ZN (dMt ZBL (dC (.str "/")) (ZA (Ze 1 [] (.nm 0) (ZBG (ZB 0)) ZA7 (dF ZQ (ZA (ZB 0) ZC))) ZC)))
@[irreducible] noncomputable def ZW:List W->G->Option (W×G):=ZAA 1 ZAc
theorem ZCk(h:EvS (ZAc [some a0] g) (runP P)):EvP (ZW [a0] g) P:=by
 unfold ZW;exact ZU h
@[reducible] noncomputable def ZBe:DS :=
 (ZN (dMt ZBL (dC (.str " ")) (ZA (Ze 1 [] (.nm 0) (ZBG (ZB 0)) ZA7 (dF ZW (ZA (ZB 0) ZC))) ZC)))
@[irreducible] noncomputable def ZM:List W->G->Option (W×G):=ZAA 1 ZBe
theorem ZEn(h:EvS (ZBe [some a0] g) (runP P)):EvP (ZM [a0] g) P:=by
 unfold ZM;exact ZU h
@[reducible] noncomputable def ZBC:DS :=
 (Zb (ZBN (ZC7 (ZDu (dB (ZBd ZJo ZJo (dC (.int 1)) (dF (f1 ZGp) (ZA (ZB 0) ZC)) (dC (.int 9)))) (dB (dF (f1 ZCr) (ZA (Ze 1 [] (.nm 0) (ZMV (ZB 0)) ZA7 (dOp ZHc (ZB 0) (dC (.str "0123456789")))) ZC)))))
 (ZN (dC (.bool false)))
 dNx)
 (ZN (ZGU (dOp ZBt (ZB 0) (dC (.str "0"))) (dOp ZFO (dOp ZFY (ZB 0) (dC (.int 0))) (dC (.str "0"))))))
@[irreducible] noncomputable def Zh:List W->G->Option (W×G):=ZAA 1 ZBC
theorem ZDs(h:EvS (ZBC [some a0] g) (runP P)):EvP (Zh [a0] g) P:=by
 unfold Zh;exact ZU h
@[reducible] noncomputable def ZAe:DS :=
 (Zb (ZBN (ZC7 (dB (dF Zh (ZA (ZB 0) ZC))))
 ZGB
 dNx)
 (ZN (dF (f1 ZHW) (ZA (ZB 0) ZC))))
@[irreducible] noncomputable def Za:List W->G->Option (W×G):=ZAA 1 ZAe
theorem ZCg(h:EvS (ZAe [some a0] g) (runP P)):EvP (Za [a0] g) P:=by
 unfold Za;exact ZU h
@[reducible] noncomputable def ZAL:DS :=
 (ZN (dF (f1 ZDI) (ZA (Ze 1 [] (.nm 0) (ZBG (dMt ZBk (ZB 0) (ZA (ZB 1) ZC))) ZA7 (dF Za (ZA (ZB 0) ZC))) ZC)))
@[irreducible] noncomputable def ZR:List W->G->Option (W×G):=ZAA 2 ZAL
theorem ZCL(h:EvS (ZAL [some a0,some a1] g) (runP P)):EvP (ZR [a0,a1] g) P:=by
 unfold ZR;exact ZU h
@[reducible] noncomputable def ZAY:DS :=
 (Zb (ZAH 1 (dMt ZBk (ZB 0) (ZA (dC (.str "/")) ZC)))
 (Zb (ZBN (dB (dOp ZFO (dF (f1 ZEY) (ZA (ZB 1) ZC)) (dC (.int 4))))
 ZGB
 dNx)
 (Zb (ZAH 2 (dF (f1 ZDI) (ZA (Ze 1 [] (.nm 0) (ZBG (ZB 1)) ZA7 (dIf (dB (dOp ZBt (ZB 0) (dC (.str "-")))) (dF ZAz ZC) (dF ZR (ZA (ZB 0) (ZA (dC (.str ".")) ZC))))) ZC)))
 (Zb (ZGP (.tp (.cons (.nm 3) (.cons (.nm 4) (.cons (.nm 5) (.cons (.nm 6) .nil))))) (ZB 2))
 (Zb (ZBN (ZC7 (dB (dF (f1 ZCr) (ZA (Ze 1 [] (.nm 0) (ZBG (ZB 2)) ZA7 (dF Zd (ZA (ZB 0) ZC))) ZC))))
 ZGB
 dNx)
 (Zb (ZBN (ZC7 (ZDu (dB (dF ZO (ZA (ZB 4) (ZA (ZB 5) ZC)))) (dB (dF ZO (ZA (dOp ZAQ (ZB 4) (ZB 5)) (ZA (ZB 6) ZC))))))
 ZGB
 dNx)
 (ZN (ZB 2))))))))
@[irreducible] noncomputable def ZZ:List W->G->Option (W×G):=ZAA 7 ZAY
theorem ZCZ(h:EvS (ZAY [some a0,none,none,none,none,none,none] g) (runP P)):EvP (ZZ [a0] g) P:=by
 unfold ZZ;exact ZU h
@[reducible] noncomputable def ZBh:DS :=
 (Zb (ZBN (ZC7 (dB (dF ZGN (ZA (ZB 0) (ZA (λ_ g=>some (.ty "str",g)) ZC)))))
 ZGB
 dNx)
 (Zb (ZBN (dB (dOp ZBt (ZB 0) (dC (.str ""))))
 (ZN (dF ZAz ZC))
 dNx)
 (ZN (dF (f1 ZDI) (ZA (Ze 1 [] (.nm 0) (ZBG (dMt ZBk (ZB 0) (ZA (dC (.str " ")) ZC))) ZA7 (dF ZZ (ZA (ZB 0) ZC))) ZC)))))
@[irreducible] noncomputable def ZX:List W->G->Option (W×G):=ZAA 1 ZBh
theorem ZEp(h:EvS (ZBh [some a0] g) (runP P)):EvP (ZX [a0] g) P:=by
 unfold ZX;exact ZU h
@[reducible] noncomputable def ZBj:DS :=
 (Zb (ZAH 2 (dIf (dB (dOp ZL4 (ZB 1) (dF (f1 ZEY) (ZA (ZB 0) ZC)))) (dOp Z2 (ZB 0) (ZB 1)) (dC (.int 0))))
 (Zb (ZAH 3 (dOp ZBT (dF (f1 ZLY) (ZA (ZB 2) ZC)) (dF (f1 ZHL) (ZA (dOp ZKR (dF (f1 ZLY) (ZA (ZB 2) ZC)) (dC (.int 1000000000000000000))) ZC))))
 (ZN (dF ZCb (ZA (ZB 3) (ZA (dOp ZAi (dOp ZBT (dOp ZAQ (dOp ZAQ (dOp ZAi (ZB 2) (dC (.int 2147483629))) (dOp ZBT (dOp ZBT (dC (.int 7919)) (ZB 1)) (ZB 1))) (dC (.int 11))) (dC (.int 48271))) (dC (.int 2147483647))) (ZA (dC (.int 0)) ZC)))))))
@[irreducible] noncomputable def Zt:List W->G->Option (W×G):=ZAA 4 ZBj
theorem ZEq(h:EvS (ZBj [some a0,some a1,none,none] g) (runP P)):EvP (Zt [a0,a1] g) P:=by
 unfold Zt;exact ZU h
@[reducible] noncomputable def ZBE:DS :=
 (Zb (ZEk (ZB 0) (dC (.int 2)) (dOp ZAQ (dOp Z2 (ZB 0) (dC (.int 2))) (dC (.int 1))))
 (Zb (ZBN (ZDu (dB (dOp ZMN (dOp Z2 (ZB 0) (dC (.int 0))) (dC (.int 0)))) (dB (dOp ZJo (dOp Z2 (ZB 0) (dC (.int 2))) (dC (.int 60)))))
 (Zb (ZAH 2 (dOp ZAi (dOp Z2 (ZB 0) (dC (.int 0))) (ZB 1)))
 (Zb (ZEk (ZB 0) (dC (.int 0)) (dOp ZBs (dOp Z2 (ZB 0) (dC (.int 0))) (ZB 1)))
 (ZN (ZB 2))))
 dNx)
 (Zb (ZEk (ZB 0) (dC (.int 1)) (dOp ZAi (dOp ZAQ (dOp ZAQ (dOp ZBT (dOp Z2 (ZB 0) (dC (.int 1))) (dC (.int 48271))) (dC (.int 12345))) (dOp Z2 (ZB 0) (dC (.int 2)))) (dC (.int 2147483647))))
 (ZN (dOp ZAi (dOp ZBs (dOp ZAi (dOp ZBT (dOp Z2 (ZB 0) (dC (.int 1))) (dOp ZAQ (dOp ZAi (dOp Z2 (ZB 0) (dC (.int 1))) (dC (.int 40009))) (dC (.int 3)))) (dC (.int 2147483629))) (dC (.int 7))) (ZB 1))))))
@[irreducible] noncomputable def ZH:List W->G->Option (W×G):=ZAA 3 ZBE
theorem ZEL(h:EvS (ZBE [some a0,some a1,none] g) (runP P)):EvP (ZH [a0,a1] g) P:=by
 unfold ZH;exact ZU h
@[reducible] noncomputable def ZAd:DS :=
 (Zb (ZAH 3 ZKA)
 (Zb (ZFE (.nm 4) (ZBM (ZA (dF ZH (ZA (ZB 0) (ZA (dOp ZAQ (ZB 2) (dC (.int 1))) ZC))) ZC))
 (ZF1 (ZB 3) (dF ZH (ZA (ZB 0) (ZA (ZB 1) ZC))) (dC (.bool true))))
 (ZN (dF (f1 ZDI) (ZA (dF (f1 ZFa) (ZA (ZB 3) ZC)) ZC)))))
@[irreducible] noncomputable def ZV:List W->G->Option (W×G):=ZAA 5 ZAd
theorem ZCq(h:EvS (ZAd [some a0,some a1,some a2,none,none] g) (runP P)):EvP (ZV [a0,a1,a2] g) P:=by
 unfold ZV;exact ZU h
@[reducible] noncomputable def ZAZ:DS :=
 (Zb (ZAH 1 (dF ZV (ZA (ZB 0) (ZA (dOp Z2 (dF ZJO (ZA (dC (.int 6)) (ZA (dC (.int 60)) (ZA (dC (.int 1000000000)) ZC)))) (dF ZH (ZA (ZB 0) (ZA (dC (.int 3)) ZC)))) (ZA (dC (.int 5)) ZC)))))
 (Zb (ZAH 2 (dF ZD7 (ZA (dF ZCb ZC) (ZA (dF ZCb ZC) (ZA (dF ZCb ZC) (ZA (dF ZCb ZC) ZC))))))
 (Zb (ZFE (.nm 3) (ZBM (ZA (dC (.int 8)) ZC))
 (ZEZ (ZH8 (dOp Z2 (ZB 2) (dF ZH (ZA (ZB 0) (ZA (dC (.int 4)) ZC)))) (ZB 3))))
 (Zb (ZAH 4 (dF ZH (ZA (ZB 0) (ZA (dC (.int 3)) ZC))))
 (Zb (ZBN (dB (dOp ZBt (ZB 4) (dC (.int 0))))
 (ZN (dF ZAz (ZA (ZB 1) (ZA (dF ZAz ZC) (ZA (dF ZAz ZC) (ZA (dF ZAz ZC) ZC))))))
 dNx)
 (ZN (dF ZAz (ZA (ZB 1) (ZA (dF (f1 ZDI) (ZA (dOp Z2 (ZB 2) (dC (.int 0))) ZC)) (ZA (dF (f1 ZDI) (ZA (dSl (dOp Z2 (ZB 2) (dC (.int 1))) ZA3 (ZCA (ZB 4))) ZC)) (ZA (dF (f1 ZDI) (ZA (dOp Z2 (ZB 2) (dC (.int 2))) ZC)) ZC)))))))))))
@[irreducible] noncomputable def ZY:List W->G->Option (W×G):=ZAA 5 ZAZ
theorem ZCm(h:EvS (ZAZ [some a0,none,none,none,none] g) (runP P)):EvP (ZY [a0] g) P:=by
 unfold ZY;exact ZU h
@[reducible] noncomputable def Z1:DS :=
 (ZN (dIf (dB (dOp ZBt (ZB 0) (dF ZAz ZC))) (dC (.str "-")) (dMt ZBL (dC (.str ".")) (ZA (Ze 1 [] (.nm 0) (ZBG (ZB 0)) ZA7 (dF (f1 ZIn) (ZA (ZB 0) ZC))) ZC))))
@[irreducible] noncomputable def ZK:List W->G->Option (W×G):=ZAA 1 Z1
theorem ZBl(h:EvS (Z1 [some a0] g) (runP P)):EvP (ZK [a0] g) P:=by
 unfold ZK;exact ZU h
@[reducible] noncomputable def ZBK:DS :=
 (ZN (dMt ZBL (dC (.str " ")) (ZA (Ze 1 [] (.nm 0) (ZBG (ZB 0)) ZA7 (dMt ZBL (dC (.str "/")) (ZA (Ze 1 [] (.nm 0) (ZBG (ZB 0)) ZA7 (dF ZK (ZA (ZB 0) ZC))) ZC))) ZC)))
@[irreducible] noncomputable def Zk:List W->G->Option (W×G):=ZAA 1 ZBK
theorem ZD1(h:EvS (ZBK [some a0] g) (runP P)):EvP (Zk [a0] g) P:=by
 unfold Zk;exact ZU h
@[reducible] noncomputable def ZHx:DS :=
 (Zb (ZFE (.nm 1) (ZBM (ZA (dOp ZAQ (dC (.int 1)) (dF ZMT (ZA (dC (.int 12)) (ZA (dF (f1 ZEY) (ZA (ZB 0) ZC)) ZC)))) ZC))
 (Zb (ZAH 2 (dF Zt (ZA (ZB 0) (ZA (ZB 1) ZC))))
 (Zb (ZAH 3 (dOp Z2 (dF ZJO (ZA (dC (.int 13)) (ZA (dC (.int 61)) ZC))) (dF (f1 ZHL) (ZA (dOp ZBt (dF ZH (ZA (ZB 2) (ZA (dC (.int 8)) ZC))) (dC (.int 7))) ZC))))
 (Zb (ZAH 4 (dF (f1 ZDI) (ZA (Ze 1 [2] (.nm 0) (ZBM (ZA (dF ZH (ZA (ZB 2) (ZA (ZB 3) ZC))) ZC)) ZA7 (dF ZY (ZA (ZB 1) ZC))) ZC)))
 (Zb (ZAH 5 (dF ZM (ZA (ZB 4) ZC)))
 (Zb (ZBN (dOr (ZC7 (dB (dF ZGN (ZA (ZB 5) (ZA (λ_ g=>some (.ty "str",g)) ZC))))) (dOr (dB (dOp ZFO (ZB 5) (dF Zk (ZA (ZB 4) ZC)))) (dB (dOp ZG7 (dF (f1 ZDi) (ZA (dF ZX (ZA (ZB 5) ZC)) ZC)) (dF (f1 ZDi) (ZA (ZB 4) ZC))))))
 (ZN (dC (.bool false)))
 dNx)
 (Zb (ZAH 6 (dF ZH (ZA (ZB 2) (ZA (dOp ZAQ (dF (f1 ZEY) (ZA (ZB 4) ZC)) (dC (.int 1))) ZC))))
 (Zb (ZAH 7 (Ze 1 [] (.nm 0) (ZBG (dF ZAz (ZA (dF ZM (ZA (dSl (ZB 4) ZA3 (ZCA (ZB 6))) ZC)) (ZA (dF ZM (ZA (dSl (ZB 4) (ZCA (ZB 6)) ZA3) ZC)) ZC)))) (dB (dOp ZFO (ZB 0) (dC (.str "")))) (ZB 0)))
 (Zb (ZBN (dB (dOp ZFO (dMt ZBL (dC (.str " ")) (ZA (ZB 7) ZC)) (ZB 5)))
 (ZN (dC (.bool false)))
 dNx)
 (Zb (ZAH 8 (dOp ZEO (ZB 4) (dOp ZBs (dC (.int 400)) (dF ZKJ (ZA (dC (.int 1)) (ZA (dF (f1 ZEY) (ZA (ZB 4) ZC)) ZC))))))
 (ZBN (ZDu (dB (dOp ZBt (dF ZH (ZA (ZB 2) (ZA (dC (.int 8)) ZC))) (dC (.int 0)))) (dB (dOp ZG7 (dF (f1 ZDi) (ZA (dF ZX (ZA (dF ZM (ZA (ZB 8) ZC)) ZC)) ZC)) (dF (f1 ZDi) (ZA (ZB 8) ZC)))))
 (ZN (dC (.bool false)))
 dNx)))))))))))
 (ZN (ZBA (dOp ZBt (dF ZM (ZA (dF ZAz ZC) ZC)) (dC (.str ""))) (ZBA (dOp ZBt (dF ZX (ZA (dC (.str "")) ZC)) (dF ZAz ZC)) (dOp ZBt (dF ZM (ZA (dF ZAz (ZA (dF ZAz (ZA (dF ZAz (ZA (dC (.int 0)) (ZA (dC (.int 3)) ZC))) (ZA (dF ZAz ZC) (ZA (dF ZAz (ZA (dC (.int 1)) ZC)) (ZA (dF ZAz ZC) ZC))))) ZC)) ZC)) (dC (.str "0.3/-/1/-")))))))
@[irreducible] noncomputable def ZCe:List W->G->Option (W×G):=ZAA 9 ZHx
theorem ZKV(h:EvS (ZHx [some a0,none,none,none,none,none,none,none,none] g) (runP P)):EvP (ZCe [a0] g) P:=by
 unfold ZCe;exact ZU h
end
local macro_rules
 | `(tactic| symm) => `(tactic| repeat (first
  | with_reducible (first
   | refine ZLU ?_ | refine x_nil ?_ | refine x_c ?_ | refine x_op ?_ | refine x_f ?_ | refine as_b ?_ | refine x_b ?_ | refine ZFF ?_ | refine x_seq ?_ | refine x_set ?_ | refine x_ifS ?_ | refine x_and ?_ | refine x_or ?_ | refine x_not ?_
   | refine ZL0 ?_ | refine as_i ?_ | refine x_asg ?_ | refine x_ret ?_ | refine ZKg ?_ | refine x_for ?_ | refine ZLt ?_ | refine x_retN ?_
   | refine x_un ?_ | refine ZKN ?_ | refine x_orV ?_ | refine ZFS ?_ | refine x_if ?_ | refine ZJv ?_
   | refine x_sl ?_ | refine ZHn ?_ | refine ZKd ?_ | refine ZKh ?_ | refine ZLD ?_ | refine x_ienum ?_ | refine ZLg ?_ | refine x_app ?_ | refine x_sto ?_ | refine x_augS ?_ | refine x_make ?_ | refine x_fld ?_ | refine x_fldS ?_ | refine x_meth ?_ | refine x_tupR ?_ | refine x_par ?_ | refine x_par3 ?_ | refine x_pick ?_ | refine x_ext ?_ | refine x_ins ?_)
  | ((with_reducible refine x_var ?_ ?_); exact rfl)
  | refine ZLm ?_ | refine run_nx ?_ | refine Exists.intro _ (And.intro rfl ?_)
  | refine Exists.intro _ (Exists.intro _ (Exists.intro _ (And.intro rfl (And.intro (by assumption) (And.intro rfl ?_)))))
  | refine Exists.intro _ (Exists.intro _ (Exists.intro _ (And.intro rfl (And.intro (by assumption) (And.intro (of_decide_eq_true rfl) (And.intro rfl ?_))))))
  | refine Exists.intro _ (Exists.intro _ (And.intro rfl (And.intro (by assumption) ?_)))
  | refine And.intro (ZIC (by assumption)) ?_ | refine And.intro (ZIC ZEP) ?_ | refine ZAf ?_ | refine ZLe ?_))
theorem ZKI(n:Nat):PyData.strOk (nt n)=true:=ZAn _
theorem ZDF{a b:Str}(ha:PyData.strOk a=true)(hb:PyData.strOk b=true):(ok0 (.str a) && ok0 (.str b))=true:=by
 unfold ok0;rw[show(PyData.str a).canLay0=true from ha,show(PyData.str b).canLay0=true from hb];rfl
theorem Z6{a b:Str}:(PyData.str a).eqv (.str b)=decide (a=b):=by
 show(a == b)=_
 by_cases h:a=b
 ·subst h;rw[decide_eq_true rfl];exact beq_self_eq_true a
 ·rw[decide_eq_false h];exact beq_eq_false_iff_ne.mpr h
theorem ZGq{n:Nat}{g:G}{P:W->G->Prop}(h:n<10 ^ 9)(q:P (.dat (.bool true)) g):EvP (Zh [.dat (.str (nt n))] g) P:=by
 have hl:=ZCc h;refine ZDs ?_;symm;refine ZLb (by omega) ?_;symm;refine⟨λ_=>?_,λz=>absurd (of_decide_eq_false z) (by omega)⟩;symm;refine⟨λ_=>?_,λz=>absurd (of_decide_eq_false z) (by omega)⟩;symm;refine⟨by unfold ZIE;rw[length_map,Array.length_toList];show(nt n).length<=1000;omega,?_⟩;refine ZT (λc:Nat=>PyData.str ⟨#[c]⟩) (λ_=>PyData.bool true) (nt n).cps.toList rfl trivial (λc hc=>⟨_,rfl,?_⟩) ?_
 ·symm
  exact⟨by rw[ZId c (ZCj c hc).2 (ZCj c hc).1],rfl⟩
 symm;rw[show(List.map (λ_=>PyData.bool true) (nt n).cps.toList)=((nt n).cps.toList.map λ_=>true).map .bool by rw[map_map];rfl];refine ZIM ?_;rw[show((nt n).cps.toList.map λ_=>true).all id=true by rw[all_map];exact List.all_eq_true.mpr λ_ _=>rfl];symm;refine bF ?_;symm;refine ZE4 (ZDF (ZKI n) (ZAn _)) ?_;rw[Z6]
 by_cases hn:n=0
 ·subst hn
  symm;refine bT ?_;symm;exact q
 ·obtain⟨c,r,e,hc1,hc2⟩:=ZFg (Nat.pos_of_ne_zero hn)
  have hne:nt n≠Str.ofString "0":=λz=>by
   rw[z] at e;have e:[48]=c::r:=e;cases e;omega
  rw[decide_eq_false hne];symm;refine bF ?_;symm;refine ZMD (c:=c) (by omega) (by rw[e];exact ZCT (j:=0) rfl) ?_;symm;refine ZJ5 (ZDF ?_ (ZAn _)) ?_
  ·unfold PyData.strOk
   simp;omega
  have hc0:(⟨#[c]⟩:Str)≠Str.ofString "0":=λz=>by
   have z:(⟨#[c]⟩:Str)=⟨#[48]⟩:=z;injection z with z
   have z:=congrArg Array.toList z;cases z;omega
  rw[Z6,decide_eq_false hc0];symm;exact q
abbrev dot:Str:=Str.ofString "."
def Zu(ns:List Nat):List PyData:=ns.map λn:Nat=>.int (n:Int)
def Few(ns:List Nat):Prop:=ns.length<=20/\∀n∈ns,n<10 ^ 9
def ZB8(ns:List Nat):Str:=Txt.join dot (ns.map nt)
theorem ZGr{n:Nat}{g:G}{P:W->G->Prop}(h:n<10 ^ 9)(q:P (.dat (.int (n:Int))) g):EvP (Za [.dat (.str (nt n))] g) P:=by
 have hl:=ZCc h;refine ZCg ?_;symm;refine ZGq h ?_;symm;refine bF ?_;symm;refine ZLc (by omega) (ZJR h) ?_;symm;exact q
theorem ZJA{n c:Nat}(h:c<48):c∉(nt n).cps.toList:=λz=>by have:=ZCj c z;omega
theorem ZDc{ns:List Nat}(h:Few ns):(ZB8 ns).length<=200:=by
 have:=ZCS (sep:=dot) (ss:=ns.map nt) (B:=9) (N:=20) (λ x hx=>by
  obtain⟨n,hn,rfl⟩:=List.mem_map.mp hx;exact(ZCc (h.2 n hn)).2) (by rw[length_map];exact h.1)
 exact le_trans this (by decide)
theorem ZFM{ns:List Nat}(h0:ns≠[]):Txt.split (ZB8 ns) dot=ns.map nt:=ZBb (c:=46) (λz=>h0 (List.map_eq_nil_iff.mp z)) λs hs=>by
 obtain⟨n,hn,rfl⟩:=List.mem_map.mp hs;exact ZJA (by decide)
theorem ZGR{ns:List Nat}{g:G}{P:W->G->Prop}(h:Few ns)(h0:ns≠[])(q:P (.dat (.tuple (Zu ns))) g):EvP (ZR [.dat (.str (ZB8 ns)),.dat (.str dot)] g) P:=by
 have hl:=ZDc h;have hf:=h.1;refine ZCL ?_;symm;refine ZDL ?_;symm;refine ZDr (by decide) (by omega) (ZFM h0) ?_;symm;refine⟨by rw[length_map,length_map];omega,?_⟩;refine ZT (λn:Nat=>PyData.str (nt n)) (λn:Nat=>PyData.int (n:Int)) ns (by rw[map_map];rfl) trivial (λn hn=>⟨_,rfl,?_⟩) ?_
 ·symm
  refine ZGr (h.2 n hn) ?_;exact⟨rfl,rfl⟩
 symm;exact q
def Zf(ns:List Nat):Str:=if ns=[] then Str.ofString "-" else ZB8 ns
theorem ZHs{ns:List Nat}(h0:ns≠[]):ZB8 ns≠Str.ofString "":=λz=>by
 have hs:=ZFM h0;rw[z] at hs;have e:Txt.split (Str.ofString "") dot=[Str.ofString ""]:=by decide +kernel
 rw[e] at hs;cases ns with
 |nil=>exact h0 rfl
 |cons n r =>
  have hs:[Str.ofString ""]=nt n::r.map nt:=hs;injection hs with h1 _
  by_cases hn:n=0
  ·subst hn
   have h1:=congrArg (λs:Str=>s.cps.size) h1;cases h1
  ·obtain⟨c,r',e',_⟩:=ZFg (Nat.pos_of_ne_zero hn)
   rw[←h1] at e';cases e'
theorem ZEW{ns:List Nat}:PyData.strOk (ZB8 ns)=true:=ZC0 (ZAn _) λx hx=>by
 obtain⟨n,_,rfl⟩:=List.mem_map.mp hx;exact ZKI n
theorem ZH5{ns:List Nat}{g:G}{P:W->G->Prop}(h:Few ns)(q:P (.dat (.str (Zf ns))) g):EvP (ZQ [.dat (.tuple (Zu ns))] g) P:=by
 have hf:=h.1;refine ZCG ?_;symm;refine ZDL ?_;symm;refine⟨by unfold Zu;rw[length_map];omega,?_⟩;refine ZT (λn:Nat=>PyData.int (n:Int)) (λn:Nat=>PyData.str (nt n)) ns rfl trivial (λn hn=>⟨_,rfl,?_⟩) ?_
 ·refine ZLJ (n:=n) ?_
  symm;exact⟨rfl,lt_trans (h.2 n hn) (by decide),rfl,rfl⟩
 symm;refine ZBy (ss:=ns.map nt) (by rw [map_map]; rfl) (by decide) (by rw [length_map]; omega) (λ x hx=>by
  obtain⟨n,hn,rfl⟩:=List.mem_map.mp hx;have:=(ZCc (h.2 n hn)).2;omega) ?_
 symm;refine ZFN ?_;symm;refine ZE4 (ZDF ZEW (ZAn _)) ?_;rw[Z6]
 by_cases h0:ns=[]
 ·subst h0
  symm;refine bT ?_;symm;exact q
 ·have hj:Txt.join (Str.ofString ".") (ns.map nt)≠Str.ofString "":=ZHs h0
  rw[decide_eq_false hj];symm;refine bF ?_;symm;unfold Zf at q;rw[if_neg h0] at q;exact q
def isI:PyData->Bool
 |.int _=>true
 |_=>false
theorem ZIA{d:PyData}{g:G}{P:W->G->Prop}(q:P (.dat (.bool (isI d))) g):EvP (Zr [.dat d] g) P:=by
 refine ZEu ?_;symm;cases d with
 |int i=>exact⟨λ_=>ZFS (by symm;exact q),(λz=>by cases z)⟩
 |bool b=>exact⟨λ_=>ZFS (by symm;exact q),(λz=>by cases z)⟩
 |_=>exact⟨(λz=>by cases z),λ_=>(by symm;exact q)⟩
def cnt:PyData->Bool
 |.int i=>decide (0<=i)
 |_=>false
theorem ZHb{d:PyData}{g:G}{P:W->G->Prop}(q:P (.dat (.bool (cnt d))) g):EvP (Zs [.dat d] g) P:=by
 refine ZEU ?_;symm;refine ZIA ?_;symm;cases d with
 |int i =>
  refine bT ?_;symm;exact q
 |_=>exact⟨(λz=>by cases z),λ_=>(by symm;exact q)⟩
def its:PyData->List PyData
 |.tuple ds=>ds
 |_=>[]
theorem ZLd{ds:List PyData}{c:PyData->Bool}{g:G}{P:W->G->Prop}(q:P (.dat (.bool (ds.all c))) g):EvP (f1 ZCr [.dat (.list (ds.map λx=>.bool (c x)))] g) P:=by
 rw[show ds.map (λx=>PyData.bool (c x))=(ds.map c).map .bool by rw[map_map];rfl];exact ZIM (by rw[all_map];exact q)
def upI:PyData->Int
 |.int i=>i
 |_=>0
theorem ZEc:∀(ds:List PyData),ZA8 ds (ds.drop 1)=(ds.zip (ds.drop 1)).map λp=>PyData.tuple [p.1,p.2]
 |[]=>rfl
 |[a]=>rfl
 |a::b::r=>by
  have:=ZEc (b::r);show PyData.tuple [a,b]::ZA8 (b::r) r=_;rw[show ZA8 (b::r) r=_ from this];rfl
theorem cut1(ds:List PyData):ZBa ds (some 1) none=ds.drop 1:=by
 have h1:HT.sIx ds.length 0 (some 1)=min 1 ds.length:=rfl;have h2:HT.sIx ds.length ds.length none=ds.length:=rfl;unfold ZBa;rw[h1,h2];cases ds with
 |nil=>rfl
 |cons d ds =>
  rw[show min 1 (d::ds).length=1 by simp,List.take_of_length_le (by rw[length_drop];exact le_refl _)]
theorem ZHd{α : Type}{L:List α}{c : α->Bool}{g:G}{P:W->G->Prop}(q:P (.dat (.bool (L.all c))) g):EvP (f1 ZCr [.dat (.list (L.map λx=>.bool (c x)))] g) P:=by
 rw[show L.map (λx=>PyData.bool (c x))=(L.map c).map .bool by rw[map_map];rfl];exact ZIM (by rw[all_map];exact q)
def ris(ds:List PyData):Bool:=(ds.zip (ds.drop 1)).all λp=>decide (upI p.1<upI p.2)
theorem ZFe{d:PyData}(h:cnt d=true):d=.int (upI d)/\0<=upI d:=by
 cases d with
 |int a=>exact⟨rfl,of_decide_eq_true h⟩
 |_=>cases h
theorem ZHD{ds:List PyData}{g:G}{P:W->G->Prop}(hl:ds.length<=1000)(hi:∀x∈ds,cnt x=true)(q:P (.dat (.bool (ris ds))) g):EvP (ZAu [.dat (.tuple ds)] g) P:=by
 refine ZIN ?_;symm;rw[cut1];refine⟨_,_,rfl,by rw[ZA9];omega,?_⟩;refine ZT (λp:PyData×PyData=>PyData.tuple [p.1,p.2]) (λp=>.bool (decide (upI p.1<upI p.2))) _ (ZEc ds) trivial (λp hp=>⟨_,rfl,?_⟩) ?_
 ·obtain⟨h1,h2⟩:=of_mem_zip (show(p.1,p.2)∈_ from hp)
  have e1:=(ZFe (hi _ h1)).1;have e2:=(ZFe (hi _ (List.mem_of_mem_drop h2))).1;rw[e1,e2];symm;exact⟨rfl,rfl⟩
 symm;refine ZHd ?_;symm;exact q
def isT:PyData->Bool
 |.tuple _=>true
 |_=>false
def arR(d:PyData):Bool:=isT d && ((its d).all cnt && ris (its d))
theorem ZFJ{d:PyData}{g:G}{P:W->G->Prop}(hl:(its d).length<=1000)(q:P (.dat (.bool (arR d))) g):EvP (Zd [.dat d] g) P:=by
 refine ZDE ?_;unfold arR at q;symm;cases d with
 |tuple ds =>
  have hl:ds.length<=1000:=hl;have q:P (.dat (.bool (ds.all cnt && ris ds))) g:=q;refine bT ?_;symm;refine⟨hl,?_⟩;refine ZT id (λx=>.bool (cnt x)) ds (map_id _).symm trivial (λx hx=>⟨_,by rw[Zi],?_⟩) ?_
  ·symm
   refine ZHb ?_;exact⟨rfl,rfl⟩
  symm;refine ZLd ?_;symm;cases h:ds.all cnt with
  |false =>
   rw[h,Bool.false_and] at q;refine bF ?_;symm;exact q
  |true =>
   rw[h,Bool.true_and] at q;refine bT ?_;symm;refine ZHD hl (List.all_eq_true.mp h) ?_;symm;exact q
 |_=>exact⟨(λz=>by cases z),λ_=>(by symm;exact q)⟩
theorem ZEQ:∀(ks:List Int),ks.Pairwise (· < ·)->ris (ks.map .int)=true
 |[],_=>rfl
 |[a],_=>rfl
 |a::c::r,h=>by
  rw[List.pairwise_cons] at h;have ih:=ZEQ (c::r) h.2;unfold ris at ih ⊢;show(decide (a<c) && _)=true;rw[decide_eq_true (h.1 c (mem_cons_self ..)),Bool.true_and];exact ih
theorem ZHg{ks:List Int}(h:∀k∈ks,0<=k):(ks.map PyData.int).all cnt=true:=by
 rw[all_eq_true];intro x hx;obtain⟨k,hk,rfl⟩:=List.mem_map.mp hx;exact decide_eq_true (h k hk)
theorem ZE1{fa le:List Int}{g:G}{P:W->G->Prop}(hl:fa.length<=1000)(h:∀k∈fa,k∉le)(q:P (.dat (.bool true)) g):EvP (ZO [.dat (ZAO fa),.dat (ZAO le)] g) P:=by
 refine ZDz ?_;symm;refine⟨by rw[length_map];exact hl,?_⟩;refine ZT PyData.int (λk=>.bool (!le.contains k)) fa rfl trivial (λk hk=>⟨_,by rw[Zi],?_⟩) ?_
 ·symm
  refine ZLZ (by rw[ZFc];rfl) ?_;rw[L2.any_ints];exact⟨rfl,rfl⟩
 symm;refine ZHd ?_;rw[List.all_eq_true.mpr λk hk=>by simp[h k hk]];symm;exact q
def nsI(ns:List Nat):List Int:=ns.map λn:Nat=>(n:Int)
theorem ZAq(ns:List Nat):(PyData.tuple (Zu ns))=ZAO (nsI ns):=by
 unfold Zu nsI ZAO;rw[map_map];rfl
abbrev ZE0:Str:=Str.ofString "/"
def ZAR(ns:List Nat):PyData:=.tuple (Zu ns)
def doT(p:List (List Nat)):Str:=Txt.join ZE0 (p.map Zf)
structure Row1 (p:List (List Nat)) (a b c d:List Nat):Prop where
 eq:p=[a,b,c,d]
 few:∀ns∈p,Few ns
 ris:∀ns∈p,(nsI ns).Pairwise (· < ·)
 bc:∀k∈nsI b,k∉nsI c
 bcd:∀k∈nsI b++nsI c,k∉nsI d
theorem ZB0{ns:List Nat}(h:Few ns):(Zf ns).length<=200:=by
 unfold Zf
 split
 ·decide
 ·exact ZDc h
theorem ZE6{c x:Nat}:∀{A:List (List Nat)},x∈jn c A->x=c∨∃a∈A,x∈a
 |[],h=>by cases h
 |[a],h=>.inr ⟨a,mem_cons_self ..,h⟩
 |a::b::l,h=>by
  have h:x∈a++c::jn c (b::l):=h;rcases List.mem_append.mp h with h|h
  ·exact .inr ⟨a,mem_cons_self ..,h⟩
  ·rcases List.mem_cons.mp h with h|h
   ·exact .inl h
   ·rcases ZE6 h with h|⟨y,hy,h⟩
    ·exact .inl h
    ·exact .inr ⟨y,mem_cons_of_mem _ hy,h⟩
theorem ZEX{ns:List Nat}{x:Nat}(h:x∈(Zf ns).cps.toList):x=45∨x=46∨(48<=x/\x<=57):=by
 unfold Zf at h
 split at h
 ·have h:x∈[45]:=h
  cases h with
  |head=>exact .inl rfl
  |tail _ h=>cases h
 ·have e:(ZB8 ns).cps.toList=jn 46 ((ns.map nt).map λs=>s.cps.toList):=by
   rw[←ZBQ];show(Builtin.Str.glued dot (ns.map nt)).cps.toList=_;rw[StrLaws.glued_eq_join];rfl
  rw[e] at h;rcases ZE6 h with h|⟨a,ha,h⟩
  ·exact .inr (.inl h)
  ·obtain⟨s,hs,rfl⟩:=List.mem_map.mp ha
   obtain⟨n,hn,rfl⟩:=List.mem_map.mp hs;exact .inr (.inr (ZCj x h))
theorem ZGs{p:List (List Nat)}{g:G}{P:W->G->Prop}(hl:p.length<=900)(h:∀ns∈p,Few ns)(q:P (.dat (.str (doT p))) g):EvP (ZW [.dat (.tuple (p.map ZAR))] g) P:=by
 refine ZCk ?_;symm;refine ZDL ?_;symm;refine⟨by rw[length_map];omega,?_⟩;refine ZT ZAR (λns=>PyData.str (Zf ns)) p rfl trivial (λns hn=>⟨_,rfl,?_⟩) ?_
 ·symm
  refine ZH5 (h ns hn) ?_;exact⟨rfl,rfl⟩
 symm;refine ZBy (ss:=p.map Zf) (by rw [map_map]; rfl) (by decide) (by rw [length_map]; omega) (λ x hx=>by
  obtain⟨n,hn,rfl⟩:=List.mem_map.mp hx;have:=ZB0 (h n hn);omega) ?_
 symm;exact q
theorem ZFW{p:List (List Nat)}(hl:p.length<=4)(h:∀ns∈p,Few ns):(doT p).length<=1000:=by
 have:=ZCS (sep:=ZE0) (ss:=p.map Zf) (B:=200) (N:=4) (λ x hx=>by
  obtain⟨n,hn,rfl⟩:=List.mem_map.mp hx;exact ZB0 (h n hn)) (by rw[length_map];exact hl)
 exact le_trans this (by decide)
theorem ZGz{p:List (List Nat)}(h0:p≠[]):Txt.split (doT p) ZE0=p.map Zf:=ZBb (c:=47) (λz=>h0 (List.map_eq_nil_iff.mp z)) λs hs=>by
 obtain⟨n,hn,rfl⟩:=List.mem_map.mp hs;intro z;have:=ZEX z;omega
theorem ZGQ{ns:List Nat}(h0:ns≠[]):Zf ns≠Str.ofString "-":=λz=>by
 unfold Zf at z;rw[if_neg h0] at z;have hs:=ZFM h0;rw[z] at hs;have e:Txt.split (Str.ofString "-") dot=[Str.ofString "-"]:=by decide +kernel
 rw[e] at hs;cases ns with
 |nil=>exact h0 rfl
 |cons n r =>
  have hs:[Str.ofString "-"]=nt n::r.map nt:=hs;injection hs with h1 _
  have:=ZCj (n:=n) 45 (by rw[←h1];exact mem_cons_self ..);omega
theorem arR_n{ns:List Nat}(h:(nsI ns).Pairwise (· < ·)):arR (ZAR ns)=true:=by
 rw[show ZAR ns=ZAO (nsI ns) from ZAq ns];show(true && (((nsI ns).map PyData.int).all cnt && ris ((nsI ns).map PyData.int)))=true;rw[ZHg (λk hk=>by unfold nsI at hk;obtain⟨n,_,rfl⟩:=List.mem_map.mp hk;omega),ZEQ _ h];rfl
theorem ZES{ns:List Nat}:PyData.strOk (Zf ns)=true:=by
 unfold Zf
 split
 ·exact ZAn _
 ·exact ZEW
theorem ZGn{p:List (List Nat)}{a b c d:List Nat}{g:G}{P:W->G->Prop}(R:Row1 p a b c d)(q:P (.dat (.tuple (p.map ZAR))) g):EvP (ZZ [.dat (.str (doT p))] g) P:=by
 have hp:p.length=4:=by rw[R.eq];rfl
 have hl:=ZFW (by omega) R.few;refine ZCZ ?_;symm;refine ZDL ?_;symm;refine ZDr (by decide) (by omega) (ZGz (λz=>by rw[z] at hp;cases hp)) ?_;symm;rw[length_map,length_map,hp];symm;rw[ZD6];refine⟨(λz=>absurd z (by decide)),λ_=>?_⟩;symm;refine⟨by rw[length_map,length_map];omega,?_⟩;refine ZT (λns=>PyData.str (Zf ns)) ZAR p (by rw[map_map];rfl) trivial (λns hn=>⟨_,rfl,?_⟩) ?_
 ·symm
  refine ZE4 (ZDF ZES (ZAn _)) ?_;rw[Z6]
  by_cases h0:ns=[]
  ·subst h0
   symm;refine bT ?_;symm;exact⟨rfl,rfl⟩
  ·rw[decide_eq_false (ZGQ h0)]
   symm;refine bF ?_;symm;rw[show Zf ns=ZB8 ns by unfold Zf;rw[if_neg h0]];refine ZGR (R.few ns hn) h0 ?_;exact⟨rfl,rfl⟩
 symm;have hpe:=R.eq;subst hpe;refine⟨_,rfl,?_⟩;symm;refine⟨by show 4<=1000;decide,?_⟩;refine ZT ZAR (λ_=>PyData.bool true) [a,b,c,d] rfl trivial (λns hn=>⟨_,rfl,?_⟩) ?_
 ·symm
  have hf:=(R.few ns hn).1;refine ZFJ (by show(Zu ns).length<=1000;unfold Zu;rw[length_map];omega) ?_;rw[arR_n (R.ris ns hn)];exact⟨rfl,rfl⟩
 symm;refine bF ?_;symm;have hfb:=(R.few b (by simp)).1;have hfc:=(R.few c (by simp)).1;show EvP (ZO [.dat (ZAR b),.dat (ZAR c)] _) _;rw[show ZAR b=ZAO (nsI b) from ZAq b,show ZAR c=ZAO (nsI c) from ZAq c];refine ZE1 (by unfold nsI;rw[length_map];omega) R.bc ?_;symm;refine bT ?_;symm;have lb:(nsI b).length<=100:=by unfold nsI;rw[length_map];omega
 have lc:(nsI c).length<=100:=by unfold nsI;rw[length_map];omega
 refine ZL1 (by rw[length_map,length_map];omega) ?_;rw[←map_append];symm;show EvP (ZO [.dat (ZAO (nsI b++nsI c)),.dat (ZAR d)] _) _;rw[show ZAR d=ZAO (nsI d) from ZAq d];refine ZE1 (by rw[length_append];omega) R.bcd ?_;symm;refine bF ?_;symm;exact q
abbrev sp:Str:=Str.ofString " "
abbrev Rw3:=List (List (List Nat))
def Zj(L:Rw3):Prop:=∀p∈L,∃a b c d,Row1 p a b c d
def doN(p:List (List Nat)):PyData:=.tuple (p.map ZAR)
def Zq(L:Rw3):Str:=Txt.join sp (L.map doT)
theorem Zj.len{L:Rw3}(h:Zj L):∀p∈L,p.length=4/\(doT p).length<=1000:=λp hp=>by
 obtain⟨a,b,c,d,R⟩:=h p hp;have e:p.length=4:=by rw[R.eq];rfl
 exact⟨e,ZFW (by omega) R.few⟩
theorem ZAh{L:Rw3}{g:G}{P:W->G->Prop}(hl:L.length<=900)(h:Zj L)(q:P (.dat (.str (Zq L))) g):EvP (ZM [.dat (.tuple (L.map doN))] g) P:=by
 refine ZEn ?_;symm;refine ZDL ?_;symm;refine⟨by rw[length_map];omega,?_⟩;refine ZT doN (λp=>PyData.str (doT p)) L rfl trivial (λp hp=>⟨_,rfl,?_⟩) ?_
 ·symm
  obtain⟨a,b,c,d,R⟩:=h p hp;have:=(h.len p hp).1;refine ZGs (by omega) R.few ?_;exact⟨rfl,rfl⟩
 symm;refine ZBy (ss:=L.map doT) (by rw [map_map]; rfl) (by decide) (by rw [length_map]; omega) (λ x hx=>by
  obtain⟨p,hp,rfl⟩:=List.mem_map.mp hx;exact(h.len p hp).2) ?_
 symm;exact q
theorem ZLu{p:List (List Nat)}{x:Nat}(h:x∈(doT p).cps.toList) : 45<=x:=by
 have e:(doT p).cps.toList=jn 47 ((p.map Zf).map λs=>s.cps.toList):=by
  rw[←ZBQ];show(Builtin.Str.glued ZE0 (p.map Zf)).cps.toList=_;rw[StrLaws.glued_eq_join];rfl
 rw[e] at h;rcases ZE6 h with h|⟨a,ha,h⟩
 ·omega
 ·obtain⟨s,hs,rfl⟩:=List.mem_map.mp ha
  obtain⟨n,hn,rfl⟩:=List.mem_map.mp hs;have:=ZEX h;omega
theorem ZHN{L:Rw3}(h0:L≠[]):Txt.split (Zq L) sp=L.map doT:=ZBb (c:=32) (λz=>h0 (List.map_eq_nil_iff.mp z)) λs hs=>by
 obtain⟨p,hp,rfl⟩:=List.mem_map.mp hs;intro z;have:=ZLu z;omega
theorem ZAV{L:Rw3}:PyData.strOk (Zq L)=true:=ZC0 (ZAn _) λx hx=>by
 obtain⟨p,_,rfl⟩:=List.mem_map.mp hx;exact ZC0 (ZAn _) λy hy=>by
  obtain⟨n,_,rfl⟩:=List.mem_map.mp hy;exact ZES
theorem ZHK{L:Rw3}(hl:L.length<=490)(h:Zj L):(Zq L).length<=500000:=by
 have:=ZCS (sep:=sp) (ss:=L.map doT) (B:=1000) (N:=490) (λ x hx=>by
  obtain⟨p,hp,rfl⟩:=List.mem_map.mp hx;exact(h.len p hp).2) (by rw[length_map];exact hl)
 exact le_trans this (by decide)
theorem ZBn{L:Rw3}(h0:L≠[])(h:Zj L):Zq L≠Str.ofString "":=λz=>by
 have hs:=ZHN h0;rw[z] at hs;have e:Txt.split (Str.ofString "") sp=[Str.ofString ""]:=by decide +kernel
 rw[e] at hs;cases L with
 |nil=>exact h0 rfl
 |cons p r =>
  have hs:[Str.ofString ""]=doT p::r.map doT:=hs;injection hs with h1 _
  obtain⟨a,b,c,d,R⟩:=h p (mem_cons_self ..);have hp:=ZGz (p:=p) (λz=>by rw[R.eq] at z;cases z);rw[←h1] at hp;have e:Txt.split (Str.ofString "") ZE0=[Str.ofString ""]:=by decide +kernel
  rw[e] at hp;have:=congrArg List.length hp;rw[length_map,R.eq] at this
  cases this
theorem ZCW{L:Rw3}{g:G}{P:W->G->Prop}(hl:L.length<=490)(h:Zj L)(q:P (.dat (.tuple (L.map doN))) g):EvP (ZX [.dat (.str (Zq L))] g) P:=by
 have hn:=ZHK hl h;refine ZEp ?_;symm;refine bF ?_;symm;refine ZE4 (ZDF ZAV (ZAn _)) ?_;rw[Z6]
 by_cases h0:L=[]
 ·subst h0
  symm;refine bT ?_;symm;exact q
 ·rw[decide_eq_false (ZBn h0 h)]
  symm;refine bF ?_;symm;refine ZDL ?_;symm;refine ZDr (by decide) (by omega) (ZHN h0) ?_;symm;refine⟨by rw[length_map,length_map];omega,?_⟩;refine ZT (λp=>PyData.str (doT p)) doN L (by rw[map_map];rfl) trivial (λp hp=>⟨_,rfl,?_⟩) ?_
  ·symm
   obtain⟨a,b,c,d,R⟩:=h p hp;refine ZGn R ?_;exact⟨rfl,rfl⟩
  symm;exact q
theorem ZMO:∀ks:List Int,PyData.depthAll (ks.map .int)<=1
 |[]=>by decide
 |k::ks=>by
  rw[map_cons,PyData.depthAll];have:=ZMO ks;have e:(PyData.int k).depth<=1:=by rw[PyData.depth];decide
  omega
theorem okIs(ks:List Int):ok0 (.tuple (ks.map .int))=true:=by
 unfold ok0;have h1:(PyData.tuple (ks.map .int)).canLay0=true:=by rw[PyData.canLay0];exact ZFc ks
 have h2:(PyData.tuple (ks.map .int)).depth<=40:=by
  rw[PyData.depth];have:=ZMO ks;omega
 rw[h1,decide_eq_true h2];rfl
theorem ZG2:∀ds:List PyData,(PyData.tuple ds).eqv (.tuple [])=decide (ds=[])
 |[]=>rfl
 |_::_=>rfl
theorem ZJJ{ns:List Nat}{g:G}{P:W->G->Prop}(h:Few ns)(q:P (.dat (.str (Zf ns))) g):EvP (ZK [.dat (ZAR ns)] g) P:=by
 have hf:=h.1;refine ZBl ?_;symm;refine ZE4 (by rw[show ZAR ns=ZAO (nsI ns) from ZAq ns,Bool.and_eq_true];exact⟨okIs _,by decide⟩) ?_;rw[show(ZAR ns).eqv (.tuple [])=decide (Zu ns=[]) from ZG2 _]
 by_cases h0:ns=[]
 ·subst h0
  symm;refine bT ?_;symm;exact q
 ·have hn:Zu ns≠[]:=λz=>h0 (List.map_eq_nil_iff.mp z)
  rw[decide_eq_false hn];symm;refine bF ?_;refine ZDL ?_;symm;refine⟨by unfold Zu;rw[length_map];omega,?_⟩;refine ZT (λn:Nat=>PyData.int (n:Int)) (λn:Nat=>PyData.str (nt n)) ns rfl trivial (λn hn=>⟨_,rfl,?_⟩) ?_
  ·symm
   refine ZKw (lt_trans (h.2 n hn) (by decide)) ?_;exact⟨rfl,rfl⟩
  symm;refine ZBy (ss:=ns.map nt) (by rw [map_map]; rfl) (by decide) (by rw [length_map]; omega) (λ x hx=>by
   obtain⟨n,hn,rfl⟩:=List.mem_map.mp hx;have:=(ZCc (h.2 n hn)).2;omega) ?_
  symm;unfold Zf at q;rw[if_neg h0] at q;exact q
theorem ZHm{L:Rw3}{g:G}{P:W->G->Prop}(hl:L.length<=900)(h:Zj L)(q:P (.dat (.str (Zq L))) g):EvP (Zk [.dat (.tuple (L.map doN))] g) P:=by
 refine ZD1 ?_;symm;refine ZDL ?_;symm;refine⟨by rw[length_map];omega,?_⟩;refine ZT doN (λp=>PyData.str (doT p)) L rfl trivial (λp hp=>⟨_,rfl,?_⟩) ?_
 ·obtain⟨a,b,c,d,R⟩:=h p hp
  have hp4:=(h.len p hp).1;refine ZDL ?_;symm;refine⟨by rw[length_map];omega,?_⟩;refine ZT ZAR (λns=>PyData.str (Zf ns)) p rfl trivial (λns hn=>⟨_,rfl,?_⟩) ?_
  ·symm
   refine ZJJ (R.few ns hn) ?_;exact⟨rfl,rfl⟩
  symm;refine ZBy (ss:=p.map Zf) (by rw [map_map]; rfl) (by decide) (by rw [length_map]; omega) (λ x hx=>by
   obtain⟨n,hn,rfl⟩:=List.mem_map.mp hx;have:=ZB0 (R.few n hn);omega) ?_
  exact⟨rfl,rfl⟩
 symm;refine ZBy (ss:=L.map doT) (by rw [map_map]; rfl) (by decide) (by rw [length_map]; omega) (λ x hx=>by
  obtain⟨p,hp,rfl⟩:=List.mem_map.mp hx;exact(h.len p hp).2) ?_
 symm;exact q
theorem ZAw(n:Nat)(lo:Int):(ZDC n lo).length=n:=by unfold ZDC;rw[length_map,length_range]
theorem ZAI{b:Nat}{m:Int}{g:G}{P:W->G->Prop}(hb:Bx g b)(h0 : 0<m)(h1:m<2 ^ 62)(q:∀d g',0<=d->d<m->Dr b g g'->P (.dat (.int d)) g'):EvP (ZH [.ref b,.dat (.int m)] g) P:=by
 have hl:=hb.lt;obtain⟨x,n,c,e⟩:=hb;have hl2:∀{y:Cell},b<(g.set b y).length:=λ{y}=>by rw[length_set];exact hl
 refine ZEL ?_;symm;refine ZBp e rfl ?_;symm;refine⟨_,e,?_⟩;symm;have go:∀rest:DS,EvS (Zb (ZEk (ZB 0) (dC (.int 1)) (dOp ZAi (dOp ZAQ (dOp ZAQ (dOp ZBT (dOp Z2 (ZB 0) (dC (.int 1))) (dC (.int 48271))) (dC (.int 12345))) (dOp Z2 (ZB 0) (dC (.int 2)))) (dC (.int 2147483647)))) (ZN (dOp ZAi (dOp ZBs (dOp ZAi (dOp ZBT (dOp Z2 (ZB 0) (dC (.int 1))) (dOp ZAQ (dOp ZAi (dOp Z2 (ZB 0) (dC (.int 1))) (dC (.int 40009))) (dC (.int 3)))) (dC (.int 2147483629))) (dC (.int 7))) (ZB 1))) [some (.ref b),some (.dat (.int m)),none] (g.set b (.pl [.int x,.int n,.int (c+1)]))) (runP P):=λ_=>by
  symm;refine ZBp (Zn hl) rfl ?_;symm;refine ZCa (ZBg (by decide)) ?_;symm;refine ZBp (Zn hl) rfl ?_;symm;refine⟨_,Zn hl,?_⟩;symm
  generalize (n*48271+12345+(c+1)) % 2147483647=z
  refine ZBp (Zn hl2) rfl ?_;symm;refine ZBp (Zn hl2) rfl ?_;symm;have w0:=Int.emod_nonneg z (show(40009:Int)≠0 by decide);have w1:=Int.emod_lt_of_pos z (show(0:Int)<40009 by decide);refine ZCa (ZBg (by omega)) ?_;symm;refine ZKE h0 ?_;symm;refine q _ _ (Int.emod_nonneg _ (by omega)) (Int.emod_lt_of_pos _ h0) ?_;rw[set_set];exact .set hl
 refine ZBp (Zn hl) rfl ?_;symm;refine⟨λh1=>?_,λh1=>⟨(λz=>by cases z),λ_=>ZLt (ZFF (go dNx))⟩⟩;symm;refine ZBp (Zn hl) rfl ?_;symm;refine⟨λh2=>?_,λh2=>ZLt (ZFF (go dNx))⟩;symm;refine ZBp (Zn hl) rfl ?_;symm;refine ZKE h0 ?_;symm;refine ZBp (Zn hl) rfl ?_;symm;refine ZJ7 h0 (by omega) ?_;symm;refine⟨_,Zn hl,?_⟩;symm;refine q _ _ (Int.emod_nonneg _ (by omega)) (Int.emod_lt_of_pos _ h0) ?_;rw[set_set];exact .set hl
theorem ZLo{ns:List Int}{k:Int}{g:G}{P:W->G->Prop}(hk : 0<=k/\k<=100)(q:∀g',g'.length=g.length+1->(∀n,n<g.length->g'[n]? = g[n]?)->Bx g' g.length->P (.ref g.length) g'):EvP (Zt [.inp ns,.dat (.int k)] g) P:=by
 refine ZEq ?_;symm;refine⟨λhx=>?_,λhx=>?_⟩
 ·have hk2:k.toNat<ns.length:=by have:=of_decide_eq_true hx;omega
  symm;refine ZE2 (y:=ns.getD k.toNat 0) (x:=.dat (.int (ns.getD k.toNat 0))) (g:=g) (by have:=ZCT (xs:=ns) (j:=k.toNat) (v:=ns.getD k.toNat 0) (by rw[List.getD_eq_getElem?_getD,getElem?_eq_getElem hk2];rfl);rwa [Int.toNat_of_nonneg hk.1] at this) rfl ?_
  generalize ns.getD k.toNat 0=c
  symm;refine ZCa (ZBg (ib1 _)) ?_;symm;refine ZCa (ZBg (by omega)) ?_;symm;refine ZCa (ZBg (by decide)) ?_;symm;exact q _ (by simp) (λn hn=>getElem?_append_left hn) ⟨_,_,_,ZEP⟩
 ·symm
  refine ZCa (ZBg (by omega)) ?_;symm;refine ZCa (ZBg (by decide)) ?_;symm;exact q _ (by simp) (λn hn=>getElem?_append_left hn) ⟨_,_,_,ZEP⟩
theorem ZFX{xs:List PyData}{d:Int}{g:G}{P:W->G->Prop}(h0 : 0<=d)(h1:d<xs.length)(q:∀x∈xs,P (.dat x) g):EvP (Z2 (.dat (.list xs)) (.dat (.int d)) g) P:=by
 have hn:d.toNat<xs.length:=by omega
 refine y_ixL (d:=xs[d.toNat]) ?_ (q _ (List.getElem_mem hn));have h:=ZCT (xs:=xs) (j:=d.toNat) (v:=xs[d.toNat]) (by simp[hn])
 rwa [Int.toNat_of_nonneg h0] at h
structure RisN (ks:List Int) (m:Int):Prop where
 up:ks.Pairwise (· < ·)
 lo:∀k∈ks,0<=k
 hi:∀k∈ks,k<m
theorem ZIc{kvs:List (Key×W)}{k:Key}{x:W}:(ZAk kvs k x).length<=kvs.length+1:=by
 unfold ZAk
 split
 ·rw[length_map];omega
 ·rw[length_append];exact le_refl _
theorem ZCy:∀{ns:List Int} {kvs:List (Key×W)} {ms:List Int},kvs.map (·.1)=ms.map Sum.inl->ms.Nodup->(∀k∈ms,k∈ms)->∃js:List Int,(ZLX kvs (ns.map λn=>(Sum.inl n,W.dat (.bool true)))).map (·.1)=js.map Sum.inl/\js.Nodup/\∀k∈js,k∈ms∨k∈ns
 |[],kvs,ms,e,nd,_=>⟨ms,e,nd,λk h=>.inl h⟩
 |n::r,kvs,ms,e,nd,_=>by
  have hp:∃ms':List Int,(ZAk kvs (Sum.inl n) (W.dat (.bool true))).map (·.1)=ms'.map Sum.inl/\ms'.Nodup/\∀k∈ms',k∈ms∨k=n:=by
   unfold ZAk
   split
   ·refine⟨ms,?_,nd,λk h=>.inl h⟩
    rw[←e,map_map];apply List.map_congr_left;intro p hp;show(if p.1=Sum.inl n then (p.1,W.dat (.bool true)) else p).1=p.1
    split <;> rfl
   ·rename_i h
    refine⟨ms++[n],by rw[map_append,map_append,e];rfl,?_,λk hk=>?_⟩
    ·rw[List.nodup_append]
     refine⟨nd,by simp,λa ha c hc z=>h ?_⟩;rw[List.mem_singleton.mp hc] at z;subst z;have:(Sum.inl a:Key)∈kvs.map (·.1):=by rw[e];exact List.mem_map.mpr ⟨a,ha,rfl⟩
     obtain⟨p,hp,e2⟩:=List.mem_map.mp this
     exact List.any_eq_true.mpr ⟨p,hp,decide_eq_true e2⟩
    ·rcases List.mem_append.mp hk with hk|hk
     ·exact .inl hk
     ·exact .inr (List.mem_singleton.mp hk)
  obtain⟨ms',e1,n1,h1⟩:=hp;obtain⟨js,e2,n2,h2⟩:=ZCy (ns:=r) e1 n1 λ_ h=>h
  refine⟨js,e2,n2,λk hk=>?_⟩;rcases h2 k hk with h|h
  ·rcases h1 k h with h|h
   ·exact .inl h
   ·exact .inr (by rw[h];exact mem_cons_self ..)
  ·exact .inr (mem_cons_of_mem _ h)
theorem ZEf:∀{kvs:List (Key×W)} {ns:List Int},kvs.map (·.1)=ns.map Sum.inl->ZAG kvs=some ns
 |[],[],_=>rfl
 |[],_::_,e=>by cases e
 |_::_,[],e=>by cases e
 |(k,v)::r,n::ns,e=>by
  rw[map_cons,map_cons] at e;injection e with e1 e2
  have e1:k=Sum.inl n:=e1;subst e1;rw[ZAG,ZEf e2];rfl
theorem ZGf{ns:List Int}(nd:ns.Nodup){m:Int}(h:∀k∈ns,0<=k/\k<m):RisN (ZBZ ns) m:=by
 have pm:(ZBZ ns).Perm ns:=List.mergeSort_perm _ _;have pw:(ZBZ ns).Pairwise (· <= ·):=by
  refine List.Pairwise.imp (λ{a b} h=>of_decide_eq_true h) (List.pairwise_mergeSort (le:=λa b:Int=>decide (a<=b)) (λa b c h1 h2=>?_) (λa b=>?_) ns)
  ·exact decide_eq_true (Int.le_trans (of_decide_eq_true h1) (of_decide_eq_true h2))
  ·rw[Bool.or_eq_true,decide_eq_true_iff,decide_eq_true_iff]
   exact Int.le_total a b
 have nd2:(ZBZ ns).Nodup:=pm.nodup_iff.mpr nd;exact⟨(List.pairwise_and_iff.mpr ⟨pw,nd2⟩).imp λz=>by omega,λk hk=>(h k (pm.mem_iff.mp hk)).1,λk hk=>(h k (pm.mem_iff.mp hk)).2⟩
theorem ZG5{n:Int}{kvs:List (Key×W)}{ms:List Int}(e:kvs.map (·.1)=ms.map Sum.inl)(nd:ms.Nodup):∃js:List Int,(ZAk kvs (Sum.inl n) (W.dat (.bool true))).map (·.1)=js.map Sum.inl/\js.Nodup/\(js.length<=ms.length+1)/\∀k∈js,k∈ms∨k=n:=by
 obtain⟨js,e1,n1,h1⟩:=ZCy (ns:=[n]) e nd λ_ h=>h
 refine⟨js,e1,n1,?_,λk hk=>?_⟩
 ·have:=ZIc (kvs:=kvs) (k:=Sum.inl n) (x:=W.dat (.bool true))
  have e2:=congrArg List.length e1;have e3:=congrArg List.length e;rw[length_map,length_map] at e2 e3;have e2:(ZAk kvs (Sum.inl n) (W.dat (.bool true))).length=js.length:=e2;omega
 ·rcases h1 k hk with h|h
  ·exact .inl h
  ·exact .inr (List.mem_singleton.mp h)
theorem ZF9{b:Nat}{m:Int}{g:G}{P:W->G->Prop}(hb:Bx g b)(hm : 0<m/\m<2 ^ 62)(q:∀lo g',RisN lo m->lo.length<=5->Dr b g g'->P (.dat (ZAO lo)) g'):EvP (ZV [.ref b,.dat (.int m),.dat (.int 5)] g) P:=by
 have hbl:=hb.lt;refine ZCq ?_;symm;have D1:Dr b g (g++[.dk []]):=(Dr.refl hb).app;refine ZCt (j:=0) (g1:=[]) ?_;symm;refine ZAI D1.bx (by decide) (by decide) λd1 g1 l1 u1 D2=>?_
 symm;refine⟨by omega,?_⟩;have c1:g1[g.length]? = some (.dk []):=by rw[D2.kp _ (by simp) (by omega)];exact ZEP
 have hl1:=D2.len;rw[length_append] at hl1;have hl1:g.length<g1.length:=hl1;refine ZDv (λi sd gx=>∃kvs js z,Dr b g gx/\g.length<gx.length/\gx[g.length]? = some (.dk kvs)/\kvs.map (·.1)=(js:List Int).map Sum.inl/\js.Nodup/\js.length<=i/\(∀k∈js,0<=k/\k<m)/\sd=[some (.ref b),some (.dat (.int m)),some (.dat (.int 5)),some (.ref g.length),z]) ⟨[],[],none,D1.trans D2,hl1,c1,rfl,List.nodup_nil,le_refl _,(λk hk=>by cases hk),rfl⟩ ?_ ?_
 ·rintro i x sd gx hx ⟨kvs,js,z,D3,hl3,c3,e3,n3,h3,k3,rfl⟩
  have hi:i<6:=by
   have:=(List.getElem?_eq_some_iff.mp hx).1;rw[ZAw] at this
   omega
  refine⟨_,rfl,?_⟩;refine ZKs ?_;symm;refine ZAI D3.bx hm.1 hm.2 λd2 g2 l2 u2 D4=>?_
  have c4:g2[g.length]? = some (.dk kvs):=by rw[D4.kp _ hl3 (by omega)];exact c3
  have hl4:=D4.len;obtain⟨js',e5,n5,h5,k5⟩:=ZG5 (n:=d2) e3 n3;have hkl:kvs.length=js.length:=by have:=congrArg List.length e3;rwa [length_map,length_map] at this
  refine⟨_,_,_,rfl,c4,rfl,by omega,trivial,_,js',_,(D3.trans D4).put hbl (le_refl _),by rw[length_set];omega,Zn (by omega),e5,n5,by omega,λk hk=>?_,rfl⟩;rcases k5 k hk with h|h
  ·exact k3 k h
  ·rw[h];exact⟨l2,u2⟩
 ·rintro sd gx ⟨kvs,js,z,D3,hl3,c3,e3,n3,h3,k3,rfl⟩
  rw[ZAw] at h3;symm;refine ZKL c3 (ZEf e3) (by omega) ?_;symm;refine q (ZBZ js) gx (ZGf n3 k3) ?_ D3;have e9:(ZBZ js).length=js.length:=(List.mergeSort_perm _ _).length_eq;rw[e9];omega
theorem ZHp{lo:List Int}{m:Int}(h:RisN lo m):nsI (lo.map Int.toNat)=lo:=by
 unfold nsI;rw[map_map];refine(List.map_congr_left λk hk=>?_).trans (map_id lo);exact Int.toNat_of_nonneg (h.lo k hk)
theorem ZE3{l:List Nat}(h:l.Pairwise (· < ·)):(nsI l).Pairwise (· < ·):=by
 unfold nsI;rw[List.pairwise_map];exact h.imp λz=>by omega
theorem ZCP{l:List Nat}{k:Int}(h:k∈nsI l):∃n∈l,k=(n:Int):=by
 unfold nsI at h;obtain⟨n,hn,e⟩:=List.mem_map.mp h;exact⟨n,hn,e.symm⟩
theorem ZDt{l:List Nat}{n:Nat}(h:n∉l):(n:Int)∉nsI l:=λz=>by
 obtain⟨k,hk,e⟩:=ZCP z;have:n=k:=by omega
 rw[this] at h;exact h hk
structure Lots (gx:G) (n0 i:Nat) (L:Nat->List Nat):Prop where
 at_:∀j<4,gx[n0+j]? = some (.pl (Zu (L j)))
 rf:gx[n0+4]? = some (.rl [.ref n0,.ref (n0+1),.ref (n0+2),.ref (n0+3)])
 up:∀j,(L j).Pairwise (· < ·)
 hi:∀j,∀x∈L j,x<i
 ap:∀j j',j≠j'->∀x∈L j,x∉L j'
 ln:∀j,(L j).length<=i
theorem Lots.add{gx:G}{n0 i d:Nat}{L:Nat->List Nat}(h:Lots gx n0 i L)(hd:d<4):Lots (gx.set (n0+d) (.pl (Zu (L d)++[.int (i:Int)]))) n0 (i+1) (λj=>if j=d then L j++[i] else L j):=⟨λj hj=>by
 by_cases e:j=d
 ·subst e
  rw[if_pos rfl,Zn (List.getElem?_eq_some_iff.mp (h.at_ j hj)).1];unfold Zu;rw[map_append];rfl
 ·rw[if_neg e,getElem?_set_ne (by omega)]
  exact h.at_ j hj,by rw[getElem?_set_ne (by omega)];exact h.rf,λj=>by
 show(if j=d then L j++[i] else L j).Pairwise (· < ·)
 split
 ·rw[List.pairwise_append]
  exact⟨h.up j,List.pairwise_singleton _ _,λa ha c hc=>by rw[List.mem_singleton.mp hc];exact h.hi j a ha⟩
 ·exact h.up j,λj x hx=>by
 have hx:x∈if j=d then L j++[i] else L j:=hx
 split at hx
 ·rcases List.mem_append.mp hx with hx|hx
  ·have:=h.hi j x hx;omega
  ·rw[List.mem_singleton.mp hx];omega
 ·have:=h.hi j x hx;omega,λj j' hj x hx hx'=>by
 have hx:x∈if j=d then L j++[i] else L j:=hx
 have hx':x∈if j'=d then L j'++[i] else L j':=hx'
 split at hx
 ·rw[if_neg (by omega)] at hx'
  rcases List.mem_append.mp hx with hx|hx
  ·exact h.ap j j' hj x hx hx'
  ·rw[List.mem_singleton.mp hx] at hx'
   have:=h.hi j' i hx';omega
 ·split at hx'
  ·rcases List.mem_append.mp hx' with hx'|hx'
   ·exact h.ap j j' hj x hx hx'
   ·rw[List.mem_singleton.mp hx'] at hx
    have:=h.hi j i hx;omega
  ·exact h.ap j j' hj x hx hx',λj=>by
 show(if j=d then L j++[i] else L j).length<=i+1;have:=h.ln j
 split
 ·rw[length_append]
  show(L j).length+1<=_;omega
 ·omega⟩
theorem Lots.draw{b n0 i:Nat}{g gx:G}{L:Nat->List Nat}(h:Lots g n0 i L)(hb:b<n0)(D:Dr b g gx):Lots gx n0 i L:=⟨λj hj=>by rw[D.kp _ (List.getElem?_eq_some_iff.mp (h.at_ j hj)).1 (by omega)];exact h.at_ j hj,by rw[D.kp _ (List.getElem?_eq_some_iff.mp h.rf).1 (by omega)];exact h.rf,h.up,h.hi,h.ap,h.ln⟩
theorem ZFv{lo:List Int}{m:Int}(hm:m<=10 ^ 9)(hr:RisN lo m)(hl:lo.length<=5){b c d:List Nat}(hb:b.Pairwise (· < ·))(hc:c.Pairwise (· < ·))(hd:d.Pairwise (· < ·))(lb:b.length<=8)(lc:c.length<=8)(ld:d.length<=8)(bb:∀x∈b,x<8)(bc:∀x∈c,x<8)(bd:∀x∈d,x<8)(h1:∀x∈b,x∉c)(h2:∀x∈b,x∉d)(h3:∀x∈c,x∉d):Row1 [lo.map Int.toNat,b,c,d] (lo.map Int.toNat) b c d:=⟨rfl,λns hn=>by
 have e:(10:Int) ^ 9=1000000000:=by decide
 simp only[mem_cons,not_mem_nil,or_false] at hn;rcases hn with rfl|rfl|rfl|rfl
 ·refine⟨by rw[length_map];omega,λn hn=>?_⟩
  obtain⟨k,hk,rfl⟩:=List.mem_map.mp hn;have h1:=hr.lo k hk;have h2:=hr.hi k hk;show k.toNat<1000000000;omega
 ·exact⟨by omega,λn hn=>lt_trans (bb n hn) (by decide)⟩
 ·exact⟨by omega,λn hn=>lt_trans (bc n hn) (by decide)⟩
 ·exact⟨by omega,λn hn=>lt_trans (bd n hn) (by decide)⟩,λns hn=>by
 simp only[mem_cons,not_mem_nil,or_false] at hn;rcases hn with rfl|rfl|rfl|rfl
 ·rw[ZHp hr];exact hr.up
 ·exact ZE3 hb
 ·exact ZE3 hc
 ·exact ZE3 hd,λk hk=>by
 obtain⟨n,hn,rfl⟩:=ZCP hk;exact ZDt (h1 n hn),λk hk=>by
 rcases List.mem_append.mp hk with hk|hk
 ·obtain⟨n,hn,rfl⟩:=ZCP hk
  exact ZDt (h2 n hn)
 ·obtain⟨n,hn,rfl⟩:=ZCP hk
  exact ZDt (h3 n hn)⟩
theorem ZG6{α : Type}{ds:List α}{k:Int}(h : 0<=k):ZBa ds none (some k)=ds.take k.toNat:=by
 obtain⟨n,rfl⟩:=Int.eq_ofNat_of_zero_le h;unfold ZBa;rw[HT.sIx_none,HT.sIx_nat,List.drop_zero,Nat.sub_zero,toNat_natCast]
 by_cases z:n<=ds.length
 ·rw[Nat.min_eq_left z]
 ·rw[Nat.min_eq_right (by omega),List.take_length,List.take_of_length_le (by omega)]
theorem ZKU{α : Type}{ds:List α}{k:Int}(h : 0<=k):ZBa ds (some k) none=ds.drop k.toNat:=by
 obtain⟨n,rfl⟩:=Int.eq_ofNat_of_zero_le h;unfold ZBa;rw[HT.sIx_none,HT.sIx_nat,toNat_natCast]
 by_cases z:n<=ds.length
 ·rw[Nat.min_eq_left z]
  exact List.take_of_length_le (by rw[length_drop];exact le_refl _)
 ·rw[Nat.min_eq_right (by omega),drop_length,List.drop_of_length_le (by omega),List.take_nil]
theorem ZKi{n:Nat}{xs:List PyData}{lo hi:Option Int}{g:G}{P:W->G->Prop}(hn:g[n]? = some (.pl xs))(q:P (.dat (.list (ZBa xs lo hi))) g):EvP (slO (.ref n) lo hi g) P:=by
 refine ZLs ?_ q;show(lk g n).map _=_;rw[ZJ9 hn];rfl
theorem lots0{g:G}:Lots (g++[Cell.pl []]++[Cell.pl []]++[Cell.pl []]++[Cell.pl []]++[Cell.rl [W.ref (List.length g),W.ref (List.length (g++[Cell.pl []])),W.ref (List.length (g++[Cell.pl []]++[Cell.pl []])),W.ref (List.length (g++[Cell.pl []]++[Cell.pl []]++[Cell.pl []]))]]) g.length 0 (λ_=>[]):=by
 have e:(g++[Cell.pl []]++[Cell.pl []]++[Cell.pl []]++[Cell.pl []]++[Cell.rl [W.ref (List.length g),W.ref (List.length (g++[Cell.pl []])),W.ref (List.length (g++[Cell.pl []]++[Cell.pl []])),W.ref (List.length (g++[Cell.pl []]++[Cell.pl []]++[Cell.pl []]))]])=g++[Cell.pl [],Cell.pl [],Cell.pl [],Cell.pl [],Cell.rl [W.ref g.length,W.ref (g.length+1),W.ref (g.length+2),W.ref (g.length+3)]]:=by
  simp only[append_assoc,length_append];rfl
 rw[e];have at_:∀j,(g++[Cell.pl [],Cell.pl [],Cell.pl [],Cell.pl [],Cell.rl [W.ref g.length,W.ref (g.length+1),W.ref (g.length+2),W.ref (g.length+3)]])[g.length+j]? = [Cell.pl [],Cell.pl [],Cell.pl [],Cell.pl [],Cell.rl [W.ref g.length,W.ref (g.length+1),W.ref (g.length+2),W.ref (g.length+3)]][j]?:=λj=>by
  rw[getElem?_append_right (by omega),Nat.add_sub_cancel_left]
 refine⟨λj hj=>?_,at_ 4,λ_=>.nil,(λ_ x hx=>by cases hx),(λ_ _ _ x hx=>by cases hx),λ_=>le_refl _⟩;rw[at_ j]
 match j,hj with
 |0,_=>rfl
 |1,_=>rfl
 |2,_=>rfl
 |3,_=>rfl
theorem ZGS{b:Nat}{g:G}{P:W->G->Prop}(hb:Bx g b)(q:∀p a c d e g',Row1 p a c d e->Dr b g g'->P (.dat (doN p)) g'):EvP (ZY [.ref b] g) P:=by
 have hbl:=hb.lt;refine ZCm ?_;symm;refine ZAI hb (by decide) (by decide) λd1 g1 l1 u1 D1=>?_
 symm;refine ZFX (xs:=[.int 6,.int 60,.int 1000000000]) l1 u1 λx hx=>?_
 obtain⟨m,rfl,hm⟩:∃m:Int,x=.int m/\0<m/\m<=1000000000:=by
  simp only[mem_cons,not_mem_nil,or_false] at hx;rcases hx with rfl|rfl|rfl <;> exact⟨_,rfl,by decide,by decide⟩
 symm;refine ZF9 D1.bx ⟨hm.1,by omega⟩ λlo g2 hr hlo D2=>?_
 have D12:=D1.trans D2;have hl2:=D12.len;have hb2:b<g2.length:=by omega
 symm;refine ZDv (λi sd gx=>∃L z z',Dr b g gx/\Lots gx g2.length i L/\sd=[some (.ref b),some (.dat (ZAO lo)),some (.ref (g2.length+4)),z,z']) ⟨λ_=>[],none,none,D12.app.app.app.app.app,lots0,?_⟩ ?_ ?_
 ·show [some (W.ref b),some (W.dat (ZAO lo)),some (W.ref (List.length (g2++[Cell.pl []]++[Cell.pl []]++[Cell.pl []]++[Cell.pl []]))),none,none]=_
  simp only[length_append];rfl
 ·rintro i x sd gx hx ⟨L,z,z',D3,hL,rfl⟩
  have hi:i<8:=by
   have:=(List.getElem?_eq_some_iff.mp hx).1;rw[ZAw] at this
   exact this
  rw[ZFu,getElem?_map] at hx;obtain⟨k,hk,rfl⟩:=mp hx;obtain⟨hk1,hk2⟩:=List.getElem?_eq_some_iff.mp hk;rw[List.getElem_range] at hk2;subst hk2;refine⟨_,rfl,?_⟩;symm;refine ZAI D3.bx (by decide) (by decide) λd2 g3 l2 u2 D4=>?_
  obtain⟨d,rfl⟩:=Int.eq_ofNat_of_zero_le l2;have hd:d<4:=by omega
  have hL4:=hL.draw hb2 D4;symm;refine ZD3 (d:=.ref (g2.length+d)) hL4.rf ?_ ?_
  ·refine ZCT ?_
   match d,hd with
   |0,_=>rfl
   |1,_=>rfl
   |2,_=>rfl
   |3,_=>rfl
  have hc:=hL4.at_ d hd;symm;refine⟨_,hc,?_,?_⟩
  ·have:=hL4.ln d
   unfold Zu;rw[length_map];omega
  symm;exact⟨trivial,_,_,_,(D3.trans D4).put hbl (by omega),hL4.add hd,rfl⟩
 ·rintro sd gx ⟨L,z,z',D3,hL,rfl⟩
  rw[ZAw] at hL;symm;refine ZAI D3.bx (by decide) (by decide) λd2 g3 l2 u2 D4=>?_
  have hL4:=hL.draw hb2 D4;have e0:ZAO lo=ZAR (lo.map Int.toNat):=by rw[show ZAR (lo.map Int.toNat)=ZAO (nsI (lo.map Int.toNat)) from ZAq _,ZHp hr]
  symm;rw[ZD6];refine⟨λz1=>?_,λz1=>?_⟩
  ·symm
   rw[e0];exact q [lo.map Int.toNat,[],[],[]] _ _ _ _ g3 (ZFv (by omega) hr hlo .nil .nil .nil (by decide) (by decide) (by decide) (λx hx=>by cases hx) (λx hx=>by cases hx) (λx hx=>by cases hx) (λx hx=>by cases hx) (λx hx=>by cases hx) (λx hx=>by cases hx)) (D3.trans D4)
  ·symm
   refine ZD3 (d:=.ref (g2.length+0)) hL4.rf rfl ?_;symm;refine ZGx (hL4.at_ 0 (by decide)) ?_;symm;refine ZD3 (d:=.ref (g2.length+1)) hL4.rf rfl ?_;symm;refine ZKi (hL4.at_ 1 (by decide)) ?_;rw[ZG6 l2];symm;refine ZD3 (d:=.ref (g2.length+2)) hL4.rf rfl ?_;symm;refine ZGx (hL4.at_ 2 (by decide)) ?_;symm;have e1:(Zu (L 1)).take d2.toNat=Zu ((L 1).take d2.toNat):=by unfold Zu;rw[List.map_take]
   rw[e0,e1];have hs:=List.take_sublist d2.toNat (L 1);refine q [lo.map Int.toNat,L 0,(L 1).take d2.toNat,L 2] _ _ _ _ g3 (ZFv (by omega) hr hlo (hL.up 0) ((hL.up 1).sublist hs) (hL.up 2) (hL.ln 0) (le_trans hs.length_le (hL.ln 1)) (hL.ln 2) (hL.hi 0) (λx hx=>hL.hi 1 x (hs.mem hx)) (hL.hi 2) (λx hx hx'=>hL.ap 0 1 (by decide) x hx (hs.mem hx')) (hL.ap 0 2 (by decide)) (λx hx=>hL.ap 1 2 (by decide) x (hs.mem hx))) (D3.trans D4)
def ZIq(L:Rw3):PyData:=.tuple (L.map doN)
theorem ZGg{ns:List Nat}(h:Few ns):Fine (ZAR ns) 1 303:=by
 have:=Fine.tup (xs:=Zu ns) (k:=0) (L:=13) (n:=20) (λ x hx=>by
  obtain⟨n,hn,rfl⟩:=List.mem_map.mp hx;have:=h.2 n hn;exact Fine.int (by omega)) (by unfold Zu;rw[length_map];exact h.1)
 exact this.mono (le_refl _) (by decide)
theorem ZGo{L:Rw3}(hl:L.length<=400)(h:Zj L):Fine (ZIq L) 3 600000:=by
 have:=Fine.tup (xs:=L.map doN) (k:=2) (L:=1223) (n:=400) (λ x hx=>by
  obtain ⟨p,hp,rfl⟩:=List.mem_map.mp hx;obtain ⟨a,b,c,d,R⟩:=h p hp;exact (Fine.tup (xs:=p.map ZAR) (k:=1) (L:=303) (n:=4) (λ y hy=>by
   obtain⟨ns,hn,rfl⟩:=List.mem_map.mp hy;exact ZGg (R.few ns hn)) (by rw[length_map,R.eq];exact le_refl _)).mono (le_refl _) (by decide)) (by rw[length_map];exact hl)
 exact this.mono (le_refl _) (by decide)
theorem ZCO{L:Rw3}{g:G}{P:W->G->Prop}(hl:L.length<=400)(h:Zj L)(q:P (.dat (.str (ZIq L).shown)) g):EvP (f1 ZDi [.dat (.tuple (L.map doN))] g) P:=by
 have f:=ZGo hl h;refine ZA1 ?_ (ZAf q);show okR (ZIq L)=true;unfold okR;rw[f.lay,f.sh,f.nd,decide_eq_true (show(ZIq L).depth<=40 from le_trans f.dp (by decide)),decide_eq_true (le_trans f.ln (by decide))];rfl
theorem ZGu{c:Nat}:∀{A B:List (List Nat)},A≠[]->B≠[]->jn c (A++B)=jn c A++c::jn c B
 |[],_,h,_=>absurd rfl h
 |[a],b::B,_,_=>rfl
 |[a],[],_,h=>absurd rfl h
 |a::a'::A,B,_,h=>by
  show a++c::jn c (a'::A++B)=(a++c::jn c (a'::A))++c::jn c B;rw[ZGu (A:=a'::A) (by simp) h,append_assoc];rfl
theorem ZBF{c:Nat}{ss:List Str}:(Txt.join ⟨#[c]⟩ ss).cps.toList=jn c (ss.map λs=>s.cps.toList):=by
 rw[←ZBQ];show(Builtin.Str.glued ⟨#[c]⟩ ss).cps.toList=_;rw[StrLaws.glued_eq_join]
theorem ZJX{A B:Rw3}(ha:A≠[])(hb:B≠[]):Txt.join sp [Zq A,Zq B]=Zq (A++B):=by
 refine ZEG ?_;show(Txt.join ⟨#[32]⟩ [Zq A,Zq B]).cps.toList=(Txt.join ⟨#[32]⟩ ((A++B).map doT)).cps.toList;rw[ZBF,ZBF,map_append,map_append,ZGu (λz=>ha (by simpa using z)) (λz=>hb (by simpa using z))];show(Txt.join ⟨#[32]⟩ (A.map doT)).cps.toList++32::(Txt.join ⟨#[32]⟩ (B.map doT)).cps.toList=_;rw[ZBF,ZBF]
theorem ZEi{s:Str}:Txt.join sp [s]=s:=by
 refine ZEG ?_;show(Txt.join ⟨#[32]⟩ [s]).cps.toList=_;rw[ZBF];rfl
theorem ZGy{A B:Rw3}(hA:Zj A)(hB:Zj B):Txt.join sp (([Zq A,Zq B].filter λs=>!decide (s=Str.ofString "")))=Zq (A++B):=by
 have e0:Zq []=Str.ofString "":=by decide +kernel
 by_cases ha:A=[]
 ·subst ha
  by_cases hb:B=[]
  ·subst hb
   rw[e0];decide +kernel
  ·rw[e0,List.filter_cons_of_neg (by simp),filter_cons_of_pos (by simp[ZBn hb hB]),filter_nil,ZEi]
   rfl
 ·by_cases hb:B=[]
  ·subst hb
   rw[e0,filter_cons_of_pos (by simp[ZBn ha hA]),List.filter_cons_of_neg (by simp),filter_nil,ZEi,append_nil]
  ·rw[filter_cons_of_pos (by simp[ZBn ha hA]),filter_cons_of_pos (by simp[ZBn hb hB]),filter_nil]
   exact ZJX ha hb
theorem ZMS:Zq []=Str.ofString "":=by decide +kernel
theorem ZGw{g:G}{P:W->G->Prop}(q:P (.dat (.tuple [])) g):EvP (ZX [.dat (.str (Str.ofString ""))] g) P:=by
 have:=ZCW (L:=[]) (g:=g) (P:=P) (by decide) (λp hp=>by cases hp) q;rw[ZMS] at this
 exact this
theorem ZC4{L:Rw3}(hl:L.length<=60)(h:Zj L):(Zq L).length<=70000:=by
 have:=ZCS (sep:=sp) (ss:=L.map doT) (B:=1000) (N:=60) (λ x hx=>by
  obtain⟨p,hp,rfl⟩:=List.mem_map.mp hx;exact(h.len p hp).2) (by rw[length_map];exact hl)
 exact le_trans this (by decide)
theorem ZCu(f:Str->Bool):∀l:List Str,((l.filter f).map (·.length)).sum<=(l.map (·.length)).sum
 |[]=>le_refl _
 |a::l=>by
  have:=ZCu f l;rw[map_cons,sum_cons,List.filter_cons]
  split
  ·rw[map_cons,sum_cons];omega
  ·omega
theorem ZIu:Zj [[[0,3],[],[1],[]]]:=λp hp=>by
 rw[List.mem_singleton.mp hp];refine⟨_,_,_,_,rfl,?_,?_,?_,?_⟩
 ·unfold Few
  decide
 ·unfold nsI
  decide
 ·unfold nsI
  decide
 ·unfold nsI
  decide
theorem ZKa{ns:List Int}(hns:ns.length<=63):∃g',ZCe [.inp ns] []=some (.dat (.bool true),g'):=by
 suffices h:EvP (ZCe [.inp ns] []) λx _=>x=.dat (.bool true) by
  obtain⟨x,g',e,rfl⟩:=h;exact⟨g',e⟩
 refine ZKV ?_;symm;refine ZCt (j:=0) (g1:=[]) ?_;symm;have hm : 0<=(1:Int)+(if (ns.length:Int)<12 then (ns.length:Int) else 12)/\(1:Int)+(if (ns.length:Int)<12 then (ns.length:Int) else 12)<=64:=by split <;> omega
 generalize (1:Int)+(if (ns.length:Int)<12 then (ns.length:Int) else 12)=len at *
 refine⟨by omega,?_⟩;refine ZDv (λn sd gx=>∃z1 z2 z3 z4 z5 z6 z7 z8,sd=[some (.inp ns),z1,z2,z3,z4,z5,z6,z7,z8]) ⟨_,_,_,_,_,_,_,_,rfl⟩ ?_ ?_
 ·rintro n x sd g0 hx ⟨z1,z2,z3,z4,z5,z6,z7,z8,rfl⟩
  have hn:n<64:=by
   have:=(List.getElem?_eq_some_iff.mp hx).1;rw[ZAw] at this
   omega
  rw[ZFu,getElem?_map] at hx;obtain⟨k,hk,rfl⟩:=mp hx;obtain⟨hk1,hk2⟩:=List.getElem?_eq_some_iff.mp hk;rw[List.getElem_range] at hk2;subst hk2;refine⟨_,rfl,?_⟩;symm
  generalize hb:List.length g0=b
  refine ZLo (by omega) λg1 hl1 hg1 B1=>?_
  rw[hb] at B1;rw[hb];symm;refine ZAI B1 (by decide) (by decide) λd1 g2 l1 u1 D2=>?_
  symm;rw[ZD6];refine ZFX (xs:=[.int 13,.int 61]) (by split <;> decide) (by show(if _ then (1:Int) else 0)<2;split <;> decide) λx hx=>?_
  obtain⟨m,rfl,hm2⟩:∃m:Int,x=.int m/\0<m/\m<=61:=by
   simp only[mem_cons,not_mem_nil,or_false] at hx;rcases hx with rfl|rfl <;> exact⟨_,rfl,by decide,by decide⟩
  symm;refine ZCt (j:=0) (g1:=[]) ?_;symm;refine ZAI D2.bx hm2.1 (by omega) λd2 g3 l2 u2 D3=>?_
  symm;refine⟨by omega,by rw[ZAw];omega,?_⟩;refine ZG4 (λgx=>Bx gx b) (λi acc=>∃L:Rw3,acc=L.map doN/\L.length=i/\Zj L) D3.bx ⟨[],rfl,rfl,λp hp=>by cases hp⟩ ?_ ?_
  ·rintro i x gx acc hx Dx ⟨L,rfl,rfl,hL⟩
   refine⟨_,rfl,true,gx,rfl,λ_=>?_,(λz=>by cases z)⟩;symm;refine ZGS Dx λp a c d e g4 R D4=>?_
   symm;refine⟨trivial,D4.bx,L++[p],by rw[map_append];rfl,by rw[length_append];rfl,λp' hp=>?_⟩;rcases List.mem_append.mp hp with hp|hp
   ·exact hL p' hp
   ·rw[List.mem_singleton.mp hp];exact⟨a,c,d,e,R⟩
  rintro acc gx Bx' ⟨L,rfl,hll,hL⟩
  rw[ZAw] at hll;have hl60:L.length<=60:=by omega
  symm;refine ZAh (by omega) hL ?_;symm;refine bF ?_;symm;refine ZHm (by omega) hL ?_;symm;refine ZJ5 (ZDF ZAV ZAV) ?_;rw[Z6,decide_eq_true rfl];symm;refine bF ?_;symm;refine ZCW (by omega) hL ?_;symm;refine ZCO (by omega) hL ?_;symm;refine ZCO (by omega) hL ?_;symm;rw[decide_eq_true rfl];refine bF ?_;symm;refine ZAI Bx' (by rw[length_map];omega) (by rw[length_map];omega) λd3 g5 l3 u3 D5=>?_
  symm;rw[ZG6 l3,←List.map_take];have hA:Zj (L.take d3.toNat):=λp hp=>hL p (List.mem_of_mem_take hp)
  have hB:Zj (L.drop d3.toNat):=λp hp=>hL p (List.mem_of_mem_drop hp)
  refine ZAh (by rw[length_take];omega) hA ?_;symm;rw[ZKU l3,←List.map_drop];refine ZAh (by rw[length_drop];omega) hB ?_;symm;refine⟨by show 2<=1000;decide,?_⟩;refine ZFl PyData.str (λs=>!decide (s=Str.ofString "")) PyData.str [Zq (L.take d3.toNat),Zq (L.drop d3.toNat)] rfl trivial (λs hs=>⟨_,rfl,?_⟩) ?_
  ·have hok:PyData.strOk s=true:=by
    simp only[mem_cons,not_mem_nil,or_false] at hs;rcases hs with rfl|rfl <;> exact ZAV
   symm;refine ZJ5 (ZDF hok (ZAn _)) ?_;rw[Z6];symm;refine⟨rfl,rfl,λ_=>?_⟩;symm;exact⟨rfl,rfl⟩
  symm;refine ZDL ?_;symm;have hq:=ZGy hA hB;rw[List.take_append_drop] at hq;have hf:([Zq (L.take d3.toNat),Zq (L.drop d3.toNat)].filter λs=>!decide (s=Str.ofString "")).length<=2:=List.length_filter_le _ _;have hsum:(([Zq (L.take d3.toNat),Zq (L.drop d3.toNat)].filter λs=>!decide (s=Str.ofString "")).map (·.length)).sum<=1000000:=by
   have h1:=ZC4 (L:=L.take d3.toNat) (by rw[length_take];omega) hA;have h2:=ZC4 (L:=L.drop d3.toNat) (by rw[length_drop];omega) hB;have h3:=ZCu (λs=>!decide (s=Str.ofString "")) [Zq (L.take d3.toNat),Zq (L.drop d3.toNat)];simp only[map_cons,map_nil,sum_cons,List.sum_nil] at h3;omega
  refine ZF0 (ss:=[Zq (L.take d3.toNat),Zq (L.drop d3.toNat)].filter λs=>!decide (s=Str.ofString "")) rfl (by decide) (by omega) ?_;rw[show Txt.join (Str.ofString " ") ([Zq (L.take d3.toNat),Zq (L.drop d3.toNat)].filter λs=>!decide (s=Str.ofString ""))=Zq L from hq];symm;refine ZJ5 (ZDF ZAV ZAV) ?_;rw[Z6,decide_eq_true rfl];symm;refine bF ?_;symm;obtain⟨M,hM,hM1,hM2,hM3⟩:∃M:Nat,(if ((List.map doN L).length:Int) > 1 then ((List.map doN L).length:Int) else 1)=(M:Int)/\1<=M/\M<=60/\L.length<=M:=by
   rw[length_map]
   by_cases h1:(L.length:Int) > 1
   ·exact⟨L.length,if_pos h1,by omega,by omega,le_refl _⟩
   ·exact⟨1,if_neg h1,le_refl _,by decide,by omega⟩
  rw[hM];refine ZJ7 (by omega) (by omega) ?_;have hK:(400:Int) / (M:Int)=((400 / M:Nat):Int):=rfl;rw[hK];have k1 : 6<=400 / M:=(Nat.le_div_iff_mul_le hM1).mpr (by omega);have k2 : 400 / M<=400:=Nat.div_le_self ..;have k3 : 400 / M*M<=400:=Nat.div_mul_le_self ..
  generalize 400 / M=K at *
  have k4:K*L.length<=400:=le_trans (Nat.mul_le_mul_left _ hM3) k3;refine ZL9 ⟨by rw[Bool.and_eq_true,decide_eq_true_iff,decide_eq_true_iff];omega,by rw[length_map,toNat_natCast];exact k4⟩ ?_;have e5:(List.replicate (K:Int).toNat (L.map doN)).flatten=(List.replicate K L).flatten.map doN:=by
   rw[toNat_natCast,List.map_flatten,List.map_replicate]
  rw[e5];have hC:Zj (List.replicate K L).flatten:=λp hp=>by
   obtain⟨l,hl,hp⟩:=List.mem_flatten.mp hp;rw[(List.mem_replicate.mp hl).2] at hp;exact hL p hp
  have hCl:(List.replicate K L).flatten.length<=400:=by rw[ZD0];exact k4
  generalize (List.replicate K L).flatten=LL at *
  symm;refine ZAI D5.bx (by decide) (by decide) λd4 g6 l4 u4 D6=>?_
  symm;refine⟨λ_=>?_,λ_=>?_⟩
  ·symm
   refine ZAh (by omega) hC ?_;symm;refine ZCW (by omega) hC ?_;symm;refine ZCO (by omega) hC ?_;symm;refine ZCO (by omega) hC ?_;symm;rw[decide_eq_true rfl];refine bF ?_;symm;exact⟨trivial,_,_,_,_,_,_,_,_,rfl⟩
  ·refine bF ?_
   symm;exact⟨trivial,_,_,_,_,_,_,_,_,rfl⟩
 ·rintro sd gx ⟨z1,z2,z3,z4,z5,z6,z7,z8,rfl⟩
  symm;refine ZAh (L:=[]) (by decide) (λp hp=>by cases hp) ?_;symm;refine ZE4 (ZDF ZAV (ZAn _)) ?_;rw[Z6,decide_eq_true ZMS];symm;refine bT ?_;symm;refine ZGw ?_;symm;refine bT ?_;symm;refine ZAh (L:=[[[0,3],[],[1],[]]]) (by decide) ZIu ?_;symm;refine ZE4 (ZDF ZAV (ZAn _)) ?_;rw[Z6,decide_eq_true (show Zq [[[0,3],[],[1],[]]]=Str.ofString "0.3/-/1/-" by decide +kernel)];symm;rfl
local macro_rules
 | `(tactic| left) => `(tactic| (intro _ _ _ _ _ _ _; cases ‹Txt _ _ _›; repeat' (first | ((with_reducible show JE _ _ _); first | ((with_reducible show JE _ (.Name _ _) _); first | refine ZI7 _ | exact ZF4 rfl (by assumption) | exact ZGG rfl (by assumption) | (refine' ZMH rfl ?m ?v; (case m => assumption); (case v => first | exact boot_int | exact boot_bool | exact boot_tuple | exact boot_str | exact boot_list | exact boot_dict))) | ((with_reducible show JE _ (.Constant _ _ _) _); first | exact ZIz | exact ZJl | exact ZLG) | ((with_reducible show JE _ (.Subscript _ _ _) _); first | refine ZE5 oIx ?_ ?_ (λ _ _ => rfl) | refine ZE5 oIxD ?_ ?_ (λ _ _ => rfl) | refine ZE5 oIxT ?_ ?_ (λ _ _ => rfl) | refine ZLH ?_ ?_ ?_) | ((with_reducible show JE _ (.BinOp _ _ _ _) _); first | refine ZKY ?_ ?_ ?_ | exact ZJ0 ⟨by decide, by decide, by decide⟩ (by decide +kernel)) | ((with_reducible show JE _ (.Compare _ _ _ _) _); first | (refine' ZI5 ?_ ?_ ?_ ?m; (case m => first | exact ZHG _ | with_unfolding_all rfl))) | ((with_reducible show JE _ (.Call (.Name _ _) _ _ _) _); first | ((with_reducible show JE _ _ (dF (f1 _) _)); first | (refine' ZFC ?c rfl ?m ?v ?_; (case m => assumption); (case v => first | exact boot_int | exact boot_str | exact boot_tuple | exact boot_list | exact boot_dict); (case c => first | exact ZMW | exact cIntS | exact cStr | exact cTup)) | (refine' ZDg ?c rfl ?m ?v ?_; (case m => assumption); (case v => first | exact boot_len | exact boot_abs | exact boot_all | exact boot_any | exact boot_sorted | exact boot_repr | exact boot_sum | exact boot_min); (case c => first | exact ZMQ | exact cLenS | exact cAbs | exact cAll rfl | exact cSrtD rfl | exact cRepr (Room.units (by assumption)) (Room.gd (by assumption))))) | (refine' ZG8 ?D ?F ?r ?_ ?m; (case F => assumption); (case D => assumption); (case r => exact Room.mono (by assumption) (by decide)); (case m => repeat constructor)) | (refine' ZDg ?c rfl ?m ?v ?_; (case m => assumption); (case v => first | exact boot_min | exact boot_max | exact boot_isinstance); (case c => first | exact cMin rfl | exact cMax2 rfl | exact cIsi))) | ((with_reducible show JE _ (.Tuple _ _ _) _); first | refine ZJe ?_) | ((with_reducible show JE _ (.BoolOp _ _ _) _); first | refine ZJb ?_ ?_ | refine ZLf ?_ ?_ | refine ZIw ?_) | ((with_reducible show JE _ (.List _ _) _); first | refine ZJY ?_ | refine ZHj ?_ | refine ZGZ ?_) | ((with_reducible show JE _ (.ListComp _ _ _ _) _); first | ((with_reducible first | show JE _ (.ListComp _ _ ⟨_, _ :: (_, .cell) :: _, _, _, _⟩ _) _ | show JE _ (.ListComp _ _ ⟨_, _ :: _ :: (_, .cell) :: _, _, _, _⟩ _) _ | show JE _ (.ListComp _ _ ⟨_, _ :: _ :: _ :: (_, .cell) :: _, _, _, _⟩ _) _); refine jde_compK rfl ?_ ?_ (by kernel_rfl) rfl) | refine ZGb rfl ?_ ?_ (by kernel_rfl) rfl) | refine ZJx ?_ | refine ZKP ?_ ?_ ?_ | exact ZHM | refine ZJ2 ?_ ?_ | refine ZIJ ?_ ?_ | refine ZGc ?_ ?_ | refine ZI3 ?_ | refine ZJH ?_) | ((with_reducible show JA _ _ _); first | refine ZIO ?_ ?_ | exact ZIx) | ((with_reducible show OpR _ _ _); first | exact oAdd | exact oEq (Room.units (by assumption)) | exact oMul | exact oMod | exact oFdiv | exact oNe (Room.units (by assumption)) | exact oLt (Room.units (by assumption)) | exact oLe | exact oGt (Room.units (by assumption)) | exact oGe (Room.units (by assumption)) | exact oInT (Room.units (by assumption)) | exact ZKm (Room.units (by assumption)) | exact oNeS | exact oMulT) | ((with_reducible show JT _ _ _); first | refine ZIv ?_ | (refine' ZJy ?_ ?_ ?_ ?m; (case m => first | exact ZHG _ | with_unfolding_all rfl)) | refine JW.pt (ZFo ?_ ?_) | refine JW.pt (ZHu ?_ ?_) | refine ZGk ?_ ?_ ?_ ?_ ?_ | refine ZJw ?_) | ((with_reducible show JSs _ _ _); first | refine ZGK ?_ ?_ | refine ZH6 ?_ | exact ZHC) | ((with_reducible show JS _ _ _); first | ((with_reducible show JS _ _ (ZAH _ _)); first | (refine' ZIa ?nd rfl ?lo ?_; (case nd => first | assumption | exact of_decide_eq_true (by kernel_rfl)); (case lo => first | exact Or.inl rfl | exact Or.inr rfl)) | ((with_reducible first | show JS _ (.Assign _ (.ListComp _ _ ⟨_, _ :: (_, .cell) :: _, _, _, _⟩ _) _) _ | show JS _ (.Assign _ (.ListComp _ _ ⟨_, _ :: _ :: (_, .cell) :: _, _, _, _⟩ _) _) _ | show JS _ (.Assign _ (.ListComp _ _ ⟨_, _ :: _ :: _ :: (_, .cell) :: _, _, _, _⟩ _) _) _); refine' jds_setCK ?nd rfl ?lo rfl ?_ ?_ (by kernel_rfl) rfl; (case nd => first | assumption | exact of_decide_eq_true (by kernel_rfl)); (case lo => first | exact Or.inl rfl | exact Or.inr rfl)) | (refine' ZGO ?nd rfl ?lo rfl ?_ ?_ (by kernel_rfl) rfl; (case nd => first | assumption | exact of_decide_eq_true (by kernel_rfl)); (case lo => first | exact Or.inl rfl | exact Or.inr rfl))) | ((with_reducible show JS _ _ (ZGP _ _)); first | refine ZFj ?_ ?_ | refine ZFj (hs := by kernel_rfl) (hw := by kernel_rfl) ?_ ?_) | refine ZIg ?_ | refine ZKZ ?_ ?_ ?_ | refine ZHk ?_ | refine ZJk PassesOwn.never rfl ?_ ?_ ?_ | refine ZJs ?_ ?_ ?_ | refine ZHB ?_ ?_ ?_ | exact ZIs) | (refine' ZLA ?nd rfl ?lo; (case nd => first | assumption | exact of_decide_eq_true (by kernel_rfl)); (case lo => first | exact Or.inl rfl | exact Or.inr rfl)) | refine ZKv rfl ?_ | refine ZG3 ?_ ?_ | exact ZJQ | refine ZFo ?_ ?_ | refine ZHu ?_ ?_ | refine ZID ?_ | refine ZJV ?_ | exact ZHz | refine ZIG ?_ | exact ZIR | refine ZIL ?_ | (refine' ZFP rfl ?m ?_ (hn := ?n); (case m => assumption); (case n => repeat constructor)) | (refine' ZJt rfl ?m ?_ (hn := ?n); (case m => assumption); (case n => repeat constructor)) | refine ZJB ?_ | refine ZJg ?_ | (intro _ _ _ _ _; refine ⟨?_, ?_, ?_⟩))))
local macro_rules
 | `(tactic| right) => `(tactic| first | exact ⟨rfl, rfl, rfl, by decide +kernel, rfl, by decide +kernel, by decide +kernel⟩ | exact (λ _ _ _ _ _ _ => ZMJ (by intros; rfl)) | exact (λ _ _ _ _ _ _ => len3 (by intros; rfl)) | exact (λ _ _ _ _ _ _ => len4 (by intros; rfl)) | exact (λ _ _ _ _ _ _ => len5 (by intros; rfl)) | exact (λ _ _ _ _ _ _ => ZMU (by intros; rfl)) | exact (λ _ _ _ _ _ _ => len6 (by intros; rfl)) | exact (λ _ _ _ _ _ _ => len7 (by intros; rfl)) | exact (λ _ _ _ _ _ _ us e => by cases us with | nil => rfl | cons _ _ => cases e))
section
variable{P:Program}{w:World}{K:PySem.W.Frag}{mg:Str->Option Value}{base:Heap}{A:Adr}
theorem ZCw:FnScope ["thing"] ZAy (ZD (top 1)):=by right
theorem ZC3:FnScope ["thing"] ZA0 (ZD (top 2)):=by right
theorem ZFt:FnScope ["things"] ZCQ (ZD (top 3)):=by right
theorem ZBo:FnScope ["thing"] ZAF (ZD (top 5)):=by right
theorem ZCC:FnScope ["some","others"] ZAX (ZD (top 6)):=by right
theorem ZDS:FnScope ["text"] ZBP (ZD (top 17)):=by right
theorem ZBJ:FnScope ["numbers"] Zv (ZD (top 16)):=by right
theorem ZBS:FnScope ["doings"] Z7 (ZD (top 15)):=by right
theorem ZCn:FnScope ["row"] ZAt (ZD (top 14)):=by right
theorem ZCB:FnScope ["text"] ZAU (ZD (top 22)):=by right
theorem ZBY:FnScope ["text"] Z8 (ZD (top 21)):=by right
theorem ZBB:FnScope ["text","between"] Zx (ZD (top 20)):=by right
theorem ZBU:FnScope ["word","parts","doings","lost","falls","leaves","comes"] Z9 (ZD (top 19)):=by right
theorem ZCi:FnScope ["text"] ZA4 (ZD (top 18)):=by right
theorem ZC6:FnScope ["_law_script","_law_k","_law_cell","_law_great"] ZAv (ZD (top 24)):=by right
theorem ZCD:FnScope ["_law_box_here","_law_many","_law_digit"] ZAS (ZD (top 25)):=by right
theorem ZBW:FnScope ["_law_box_here","_law_most","_law_many","_law_found","_law_turn"] Z3 (ZD (top 26)):=by right
theorem ZBX:FnScope ["_law_box_here","_law_lost","_law_lots","_law_house","_law_way"] Z4 (ZD (top 27)):=by right
theorem ZAm:FnScope ["_law_numbers"] Zo (ZD (top 28)):=by right
theorem ZB6:FnScope ["_law_row"] ZAT (ZD (top 29)):=by right
theorem ZKG:FnScope ["_law_script","_law_k","_law_box_here","_law_most","_law_row","_law_text_here","_law_at","_law_parts","_law_long"] ["_law_script"] (ZD (top 30)):=by right
section
variable(T:Txt K mg A)
include T
theorem ZEM:FnOk P w K mg base CX0 1 A.fx0 A.fy0 ZAy (spD K 1 Zr):=by
 have nd:=ZCw.nd;refine ZL (d:=ZBf) (r:=Zr) (n:=1) (by unfold Zr;rfl) rfl rfl T.fz0.fn ZCw ?_;left
theorem ZEE:FnOk P w K mg base CX0 2 A.fx1 A.fy1 ZA0 (spD K 1 Zs):=by
 have:=@ZEM P w K mg base A T;have nd:=ZC3.nd;refine ZL (d:=ZBc) (r:=Zs) (n:=1) (by unfold Zs;rfl) rfl rfl T.fz1.fn ZC3 ?_;left
theorem ZGH:FnOk P w K mg base CX0 1 A.fx2 A.fy2 ZCQ (spD K 1 ZAu):=by
 have nd:=ZFt.nd;refine ZL (d:=ZDw) (r:=ZAu) (n:=1) (by unfold ZAu;rfl) rfl rfl T.fz2.fn ZFt ?_;left
theorem ZCv:FnOk P w K mg base CX0 3 A.fx3 A.fy3 ZAF (spD K 1 Zd):=by
 have:=@ZGH P w K mg base A T;have:=@ZEE P w K mg base A T;have nd:=ZBo.nd;refine ZL (d:=ZAx) (r:=Zd) (n:=1) (by unfold Zd;rfl) rfl rfl T.fz3.fn ZBo ?_;left
theorem ZDN:FnOk P w K mg base CX0 1 A.fx4 A.fy4 ZAX (spD K 2 ZO):=by
 have nd:=ZCC.nd;refine ZL (d:=ZBI) (r:=ZO) (n:=2) (by unfold ZO;rfl) rfl rfl T.fz4.fn ZCC ?_;left
theorem ZEl:FnOk P w K mg base CX0 1 A.fx8 A.fy8 ZBP (spD K 1 ZAJ):=by
 have nd:=ZDS.nd;refine ZL (d:=ZB1) (r:=ZAJ) (n:=1) (by unfold ZAJ;rfl) rfl rfl T.fz8.fn ZDS ?_;left
theorem ZB3:FnOk P w K mg base CX0 2 A.fx7 A.fy7 Zv (spD K 1 ZQ):=by
 have:=@ZEl P w K mg base A T;have nd:=ZBJ.nd;refine ZL (d:=ZAP) (r:=ZQ) (n:=1) (by unfold ZQ;rfl) rfl rfl T.fz7.fn ZBJ ?_;left
theorem ZCF:FnOk P w K mg base CX0 3 A.fx6 A.fy6 Z7 (spD K 1 ZW):=by
 have:=@ZB3 P w K mg base A T;have nd:=ZBS.nd;refine ZL (d:=ZAc) (r:=ZW) (n:=1) (by unfold ZW;rfl) rfl rfl T.fz6.fn ZBS ?_;left
theorem ZEF:FnOk P w K mg base CX0 4 A.fx5 A.fy5 ZAt (spD K 1 ZM):=by
 have:=@ZCF P w K mg base A T;have nd:=ZCn.nd;refine ZL (d:=ZBe) (r:=ZM) (n:=1) (by unfold ZM;rfl) rfl rfl T.fz5.fn ZCn ?_;left
theorem ZDA:FnOk P w K mg base CX0 1 A.fx13 A.fy13 ZAU (spD K 1 Zh):=by
 have nd:=ZCB.nd;refine ZL (d:=ZBC) (r:=Zh) (n:=1) (by unfold Zh;rfl) rfl rfl T.fz13.fn ZCB ?_;left
theorem ZCJ:FnOk P w K mg base CX0 2 A.fx12 A.fy12 Z8 (spD K 1 Za):=by
 have:=@ZDA P w K mg base A T;have nd:=ZBY.nd;refine ZL (d:=ZAe) (r:=Za) (n:=1) (by unfold Za;rfl) rfl rfl T.fz12.fn ZBY ?_;left
theorem ZB4:FnOk P w K mg base CX0 3 A.fx11 A.fy11 Zx (spD K 2 ZR):=by
 have:=@ZCJ P w K mg base A T;have nd:=ZBB.nd;refine ZL (d:=ZAL) (r:=ZR) (n:=2) (by unfold ZR;rfl) rfl rfl T.fz11.fn ZBB ?_;left
theorem ZCH:FnOk P w K mg base CX0 4 A.fx10 A.fy10 Z9 (spD K 1 ZZ):=by
 have:=@ZDN P w K mg base A T;have:=@ZB4 P w K mg base A T;have:=@ZCv P w K mg base A T;have nd:=ZBU.nd;refine ZL (d:=ZAY) (r:=ZZ) (n:=7) (by unfold ZZ;rfl) rfl rfl T.fz10.fn ZBU ?_;left
theorem ZED:FnOk P w K mg base CX0 5 A.fx9 A.fy9 ZA4 (spD K 1 ZX):=by
 have:=@ZCH P w K mg base A T;have nd:=ZCi.nd;refine ZL (d:=ZBh) (r:=ZX) (n:=1) (by unfold ZX;rfl) rfl rfl T.fz9.fn ZCi ?_;left
theorem ZEN:FnOk P w K mg base CX0 1 A.fx14 A.fy14 ZAv (spD K 2 Zt):=by
 have nd:=ZC6.nd;refine ZL (d:=ZBj) (r:=Zt) (n:=4) (by unfold Zt;rfl) rfl rfl T.fz14.fn ZC6 ?_;left
theorem ZAb:FnOk P w K mg base CX0 1 A.fx15 A.fy15 ZAS (spD K 2 ZH):=by
 have nd:=ZCD.nd;refine ZL (d:=ZBE) (r:=ZH) (n:=3) (by unfold ZH;rfl) rfl rfl T.fz15.fn ZCD ?_;left
theorem ZCN:FnOk P w K mg base CX0 2 A.fx16 A.fy16 Z3 (spD K 3 ZV):=by
 have:=@ZAb P w K mg base A T;have nd:=ZBW.nd;refine ZL (d:=ZAd) (r:=ZV) (n:=5) (by unfold ZV;rfl) rfl rfl T.fz16.fn ZBW ?_;left
theorem ZCM:FnOk P w K mg base CX0 3 A.fx17 A.fy17 Z4 (spD K 1 ZY):=by
 have:=@ZCN P w K mg base A T;have:=@ZAb P w K mg base A T;have nd:=ZBX.nd;refine ZL (d:=ZAZ) (r:=ZY) (n:=5) (by unfold ZY;rfl) rfl rfl T.fz17.fn ZBX ?_;left
theorem ZBi:FnOk P w K mg base CX0 1 A.fx18 A.fy18 Zo (spD K 1 ZK):=by
 have nd:=ZAm.nd;refine ZL (d:=Z1) (r:=ZK) (n:=1) (by unfold ZK;rfl) rfl rfl T.fz18.fn ZAm ?_;left
theorem ZDD:FnOk P w K mg base CX0 2 A.fx19 A.fy19 ZAT (spD K 1 Zk):=by
 have:=@ZBi P w K mg base A T;have nd:=ZB6.nd;refine ZL (d:=ZBK) (r:=Zk) (n:=1) (by unfold Zk;rfl) rfl rfl T.fz19.fn ZB6 ?_;left
theorem ZIl{f:Addr}{fd:FuncData}(F:Fun K "law" "law" (top 30) f fd):FnOk P w K mg base CX0 6 f fd ["_law_script"] (spD K 1 ZCe):=by
 have:=@ZEN P w K mg base A T;have:=@ZEF P w K mg base A T;have:=@ZAb P w K mg base A T;have:=@ZED P w K mg base A T;have:=@ZCM P w K mg base A T;have:=@ZDD P w K mg base A T;have nd:=ZKG.nd;refine ZL (d:=ZHx) (r:=ZCe) (n:=9) (by unfold ZCe;rfl) rfl rfl F ZKG ?_;left
end
def ZFZ(K:PySem.W.Frag):Sp:=λvs H Q _=>∃(a:Addr) (ns:List Int),vs=[.ref a]/\SqL K H a (ns.map V.int)/\ns.length<=63/\∀H',Q (.bl true) H'
theorem ZKf(T:Txt K mg A){f:Addr}{fd:FuncData}(F:Fun K "law" "law" (top 30) f fd):FnOk P w K mg base CX0 6 f fd ["_law_script"] (ZFZ K):=ZLx (ZIl T F) λns hl=>ZKa hl
end
theorem all_mk{l:PySem.W.OpenLaw}{w:World}{K:PySem.W.Frag}{h:Heap}{mg:Str->Option Value}{fa:Addr}(X:K.In h)(G:h.Ns mainGlobals mg)(hfa:mg "law" = some (.ref fa))
  {f0:Addr}
  (a0:PySem.W.nsIn K mainGlobals "is_whole" = some (some (.ref f0)))
  (h0:ZAg K "is_whole" "is_whole" (top 1) f0)
  {f1:Addr}
  (a1:PySem.W.nsIn K mainGlobals "is_count" = some (some (.ref f1)))
  (h1:ZAg K "is_count" "is_count" (top 2) f1)
  {f2:Addr}
  (a2:PySem.W.nsIn K mainGlobals "rises" = some (some (.ref f2)))
  (h2:ZAg K "rises" "rises" (top 3) f2)
  {f3:Addr}
  (a3:PySem.W.nsIn K mainGlobals "are_rising" = some (some (.ref f3)))
  (h3:ZAg K "are_rising" "are_rising" (top 5) f3)
  {f4:Addr}
  (a4:PySem.W.nsIn K mainGlobals "are_apart" = some (some (.ref f4)))
  (h4:ZAg K "are_apart" "are_apart" (top 6) f4)
  {f5:Addr}
  (a5:PySem.W.nsIn K mainGlobals "show_row" = some (some (.ref f5)))
  (h5:ZAg K "show_row" "show_row" (top 14) f5)
  {f6:Addr}
  (a6:PySem.W.nsIn K mainGlobals "show_doings" = some (some (.ref f6)))
  (h6:ZAg K "show_doings" "show_doings" (top 15) f6)
  {f7:Addr}
  (a7:PySem.W.nsIn K mainGlobals "show_numbers" = some (some (.ref f7)))
  (h7:ZAg K "show_numbers" "show_numbers" (top 16) f7)
  {f8:Addr}
  (a8:PySem.W.nsIn K mainGlobals "or_none" = some (some (.ref f8)))
  (h8:ZAg K "or_none" "or_none" (top 17) f8)
  {f9:Addr}
  (a9:PySem.W.nsIn K mainGlobals "read_row" = some (some (.ref f9)))
  (h9:ZAg K "read_row" "read_row" (top 18) f9)
  {f10:Addr}
  (a10:PySem.W.nsIn K mainGlobals "read_doings" = some (some (.ref f10)))
  (h10:ZAg K "read_doings" "read_doings" (top 19) f10)
  {f11:Addr}
  (a11:PySem.W.nsIn K mainGlobals "read_numbers" = some (some (.ref f11)))
  (h11:ZAg K "read_numbers" "read_numbers" (top 20) f11)
  {f12:Addr}
  (a12:PySem.W.nsIn K mainGlobals "read_number" = some (some (.ref f12)))
  (h12:ZAg K "read_number" "read_number" (top 21) f12)
  {f13:Addr}
  (a13:PySem.W.nsIn K mainGlobals "is_number" = some (some (.ref f13)))
  (h13:ZAg K "is_number" "is_number" (top 22) f13)
  {f14:Addr}
  (a14:PySem.W.nsIn K mainGlobals "_law_box" = some (some (.ref f14)))
  (h14:ZAg K "_law_box" "_law_box" (top 24) f14)
  {f15:Addr}
  (a15:PySem.W.nsIn K mainGlobals "_law_take" = some (some (.ref f15)))
  (h15:ZAg K "_law_take" "_law_take" (top 25) f15)
  {f16:Addr}
  (a16:PySem.W.nsIn K mainGlobals "_law_rising" = some (some (.ref f16)))
  (h16:ZAg K "_law_rising" "_law_rising" (top 26) f16)
  {f17:Addr}
  (a17:PySem.W.nsIn K mainGlobals "_law_doings" = some (some (.ref f17)))
  (h17:ZAg K "_law_doings" "_law_doings" (top 27) f17)
  {f18:Addr}
  (a18:PySem.W.nsIn K mainGlobals "_law_part_text" = some (some (.ref f18)))
  (h18:ZAg K "_law_part_text" "_law_part_text" (top 28) f18)
  {f19:Addr}
  (a19:PySem.W.nsIn K mainGlobals "_law_text" = some (some (.ref f19)))
  (h19:ZAg K "_law_text" "_law_text" (top 29) f19)
  {f20:Addr}{od20 an20:Option Addr}{sl20:Array (Option Value)}{oc20 kV20 dc20 pm20 cd20 ct20:Value}
  (a20:PySem.W.nsIn K mainGlobals "law" = some (some (.ref f20)))
  (l20:K.lookup f20=some ⟨oc20,od20,.func (PySem.W.fnOf "law" "law" (ZA2 (top 30)) (Z5 (top 30)) (ZD (top 30)) .none kV20 dc20 pm20 an20 cd20 ct20),sl20⟩)(c20:PySem.W.codeIn K cd20 "law" = true)(k20:PySem.W.keepIn K (.ref f20)=true)
  {gt0:Tok}(glob0:PySem.W.nsIn K mainGlobals "FIGURES" = some (some (.str "0123456789" gt0)))
  {gt1:Tok}(glob1:PySem.W.nsIn K mainGlobals "MOST_FIGURES" = some (some (.int 9 gt1)))
  {gt2:Tok}(glob2:PySem.W.nsIn K mainGlobals "NONE" = some (some (.str "-" gt2)))
  (z0:PySem.W.nsIn K mainGlobals "abs" = some none)
  (z1:PySem.W.nsIn K mainGlobals "all" = some none)
  (z2:PySem.W.nsIn K mainGlobals "bool" = some none)
  (z3:PySem.W.nsIn K mainGlobals "int" = some none)
  (z4:PySem.W.nsIn K mainGlobals "isinstance" = some none)
  (z5:PySem.W.nsIn K mainGlobals "len" = some none)
  (z6:PySem.W.nsIn K mainGlobals "max" = some none)
  (z7:PySem.W.nsIn K mainGlobals "min" = some none)
  (z8:PySem.W.nsIn K mainGlobals "range" = some none)
  (z9:PySem.W.nsIn K mainGlobals "repr" = some none)
  (z10:PySem.W.nsIn K mainGlobals "sorted" = some none)
  (z11:PySem.W.nsIn K mainGlobals "str" = some none)
  (z12:PySem.W.nsIn K mainGlobals "tuple" = some none)
  (z13:PySem.W.nsIn K mainGlobals "zip" = some none)
  : ∃fd:FuncData,(∀(s:Shared) (v:Value),BindsTo s fd ⟨[v],[]⟩ [("_law_script",v)])/\∀base:Heap,K.In base->base.Ns mainGlobals mg->FnOk l.prog w K mg base CX0 6 fa fd ["_law_script"] (ZFZ K):=by
 have e:=hfa.symm.trans (PySem.W.mg_of X G a20);cases e;obtain⟨_,F0⟩:=h0;have D0:Def K mg _ _ ZAy f0 _:=⟨PySem.W.mg_of X G a0,F0,F0.binds (by right)⟩;obtain⟨_,F1⟩:=h1;have D1:Def K mg _ _ ZA0 f1 _:=⟨PySem.W.mg_of X G a1,F1,F1.binds (by right)⟩;obtain⟨_,F2⟩:=h2;have D2:Def K mg _ _ ZCQ f2 _:=⟨PySem.W.mg_of X G a2,F2,F2.binds (by right)⟩;obtain⟨_,F3⟩:=h3;have D3:Def K mg _ _ ZAF f3 _:=⟨PySem.W.mg_of X G a3,F3,F3.binds (by right)⟩;obtain⟨_,F4⟩:=h4;have D4:Def K mg _ _ ZAX f4 _:=⟨PySem.W.mg_of X G a4,F4,F4.binds (by right)⟩;obtain⟨_,F5⟩:=h5;have D5:Def K mg _ _ ZAt f5 _:=⟨PySem.W.mg_of X G a5,F5,F5.binds (by right)⟩;obtain⟨_,F6⟩:=h6;have D6:Def K mg _ _ Z7 f6 _:=⟨PySem.W.mg_of X G a6,F6,F6.binds (by right)⟩;obtain⟨_,F7⟩:=h7;have D7:Def K mg _ _ Zv f7 _:=⟨PySem.W.mg_of X G a7,F7,F7.binds (by right)⟩;obtain⟨_,F8⟩:=h8;have D8:Def K mg _ _ ZBP f8 _:=⟨PySem.W.mg_of X G a8,F8,F8.binds (by right)⟩;obtain⟨_,F9⟩:=h9;have D9:Def K mg _ _ ZA4 f9 _:=⟨PySem.W.mg_of X G a9,F9,F9.binds (by right)⟩;obtain⟨_,F10⟩:=h10;have D10:Def K mg _ _ Z9 f10 _:=⟨PySem.W.mg_of X G a10,F10,F10.binds (by right)⟩;obtain⟨_,F11⟩:=h11;have D11:Def K mg _ _ Zx f11 _:=⟨PySem.W.mg_of X G a11,F11,F11.binds (by right)⟩;obtain⟨_,F12⟩:=h12;have D12:Def K mg _ _ Z8 f12 _:=⟨PySem.W.mg_of X G a12,F12,F12.binds (by right)⟩;obtain⟨_,F13⟩:=h13;have D13:Def K mg _ _ ZAU f13 _:=⟨PySem.W.mg_of X G a13,F13,F13.binds (by right)⟩;obtain⟨_,F14⟩:=h14;have D14:Def K mg _ _ ZAv f14 _:=⟨PySem.W.mg_of X G a14,F14,F14.binds (by right)⟩;obtain⟨_,F15⟩:=h15;have D15:Def K mg _ _ ZAS f15 _:=⟨PySem.W.mg_of X G a15,F15,F15.binds (by right)⟩;obtain⟨_,F16⟩:=h16;have D16:Def K mg _ _ Z3 f16 _:=⟨PySem.W.mg_of X G a16,F16,F16.binds (by right)⟩;obtain⟨_,F17⟩:=h17;have D17:Def K mg _ _ Z4 f17 _:=⟨PySem.W.mg_of X G a17,F17,F17.binds (by right)⟩;obtain⟨_,F18⟩:=h18;have D18:Def K mg _ _ Zo f18 _:=⟨PySem.W.mg_of X G a18,F18,F18.binds (by right)⟩;obtain⟨_,F19⟩:=h19;have D19:Def K mg _ _ ZAT f19 _:=⟨PySem.W.mg_of X G a19,F19,F19.binds (by right)⟩;have F20:=ZIF (st:=(top 30)) l20 c20 k20;have T:Txt K mg ⟨f0,f1,f2,f3,f4,f5,f6,f7,f8,f9,f10,f11,f12,f13,f14,f15,f16,f17,f18,f19,_,_,_,_,_,_,_,_,_,_,_,_,_,_,_,_,_,_,_,_⟩:=⟨PySem.W.mg_none_of X G z0,PySem.W.mg_none_of X G z1,PySem.W.mg_none_of X G z2,PySem.W.mg_none_of X G z3,PySem.W.mg_none_of X G z4,PySem.W.mg_none_of X G z5,PySem.W.mg_none_of X G z6,PySem.W.mg_none_of X G z7,PySem.W.mg_none_of X G z8,PySem.W.mg_none_of X G z9,PySem.W.mg_none_of X G z10,PySem.W.mg_none_of X G z11,PySem.W.mg_none_of X G z12,PySem.W.mg_none_of X G z13,⟨_,PySem.W.mg_of X G glob0⟩,⟨_,PySem.W.mg_of X G glob1⟩,⟨_,PySem.W.mg_of X G glob2⟩,D0,D1,D2,D3,D4,D5,D6,D7,D8,D9,D10,D11,D12,D13,D14,D15,D16,D17,D18,D19⟩;exact⟨PySem.W.fnOf "law" "law" (ZA2 (top 30)) (Z5 (top 30)) (ZD (top 30)) .none kV20 dc20 pm20 an20 cd20 ct20,λs v=>.of_eq rfl,λbase _ _=>ZKf T F20⟩
theorem walk{l:PySem.W.OpenLaw}{q:Program}{loose:List Str}{XP:(Str->Option Value)->Heap->Prop}{YP:World->Heap->Prop}{d:DefRec}{K:Params->PySem.W.Frag}(hn:l.most=some 63)(hdf:d.params.defaults=[])
  (hY:∀(w:World) (h:Heap),YP w h->(K w.params).In h)
  (F:∀ (w:World) (mg:Str->Option Value) (fa:Addr) (h:Heap),(K w.params).In h->h.Ns mainGlobals mg->mg d.name=some (.ref fa) ->
   ∃fd:FuncData,(∀(s:Shared) (u:Value),BindsTo s fd ⟨[u],[]⟩ [("_law_script",u)])/\∀base:Heap,(K w.params).In base->base.Ns mainGlobals mg->FnOk l.prog w (K w.params) mg base CX0 6 fa fd ["_law_script"] (ZFZ (K w.params))) :
  PySem.W.WalkO q loose XP YP l.row.toRowW d [] (λf vs=>PySem.call f vs) :=
 L2.walk_of (n:=63) (k:=6) (x:="_law_script") (CX:=λ_=>CX0) (sp:=λw=>ZFZ (K w.params)) hn (by decide) hdf ⟨rfl,by decide,by decide,rfl⟩ hY F (λ_ _ a ns hl _ hS=>⟨a,ns,rfl,hS,hl,λ_=>rfl⟩) λ_ _ _ _ _ z=>z
end K74
end
open PySem PySem.W PyProof.Rows
local macro_rules
 | `(tactic| and_intros) => `(tactic| (refine' L2.fnAt_mk ?l ?c ?k; (case l => k_is); (case c => k_is); (case k => k_is)))
set_option maxRecDepth 100000 in
set_option maxHeartbeats 0 in
theorem PySem.Challenge.cw_hearsaybook_k74_rows_written_holds : PySem.Challenge.rw_hearsaybook_k74_rows_written.Holds := by
 w_on; o_law; k_head; (case hw=>w_witness2)
 k_fill
 refine K74.walk (l:=PySem.Challenge.rw_hearsaybook_k74_rows_written) rfl rfl (λ w h Y=>PySem.W.kIn_of Y) ?F
 case F =>
  intro w mg fa h KX G hmg;refine' K74.all_mk KX G hmg ?a0 ?h0 ?a1 ?h1 ?a2 ?h2 ?a3 ?h3 ?a4 ?h4 ?a5 ?h5 ?a6 ?h6 ?a7 ?h7 ?a8 ?h8 ?a9 ?h9 ?a10 ?h10 ?a11 ?h11 ?a12 ?h12 ?a13 ?h13 ?a14 ?h14 ?a15 ?h15 ?a16 ?h16 ?a17 ?h17 ?a18 ?h18 ?a19 ?h19 ?a20 ?l20 ?c20 ?k20 ?glob0 ?glob1 ?glob2 ?z0 ?z1 ?z2 ?z3 ?z4 ?z5 ?z6 ?z7 ?z8 ?z9 ?z10 ?z11 ?z12 ?z13
  (case a0=>k_is)
  (case h0=>and_intros)
  (case a1=>k_is)
  (case h1=>and_intros)
  (case a2=>k_is)
  (case h2=>and_intros)
  (case a3=>k_is)
  (case h3=>and_intros)
  (case a4=>k_is)
  (case h4=>and_intros)
  (case a5=>k_is)
  (case h5=>and_intros)
  (case a6=>k_is)
  (case h6=>and_intros)
  (case a7=>k_is)
  (case h7=>and_intros)
  (case a8=>k_is)
  (case h8=>and_intros)
  (case a9=>k_is)
  (case h9=>and_intros)
  (case a10=>k_is)
  (case h10=>and_intros)
  (case a11=>k_is)
  (case h11=>and_intros)
  (case a12=>k_is)
  (case h12=>and_intros)
  (case a13=>k_is)
  (case h13=>and_intros)
  (case a14=>k_is)
  (case h14=>and_intros)
  (case a15=>k_is)
  (case h15=>and_intros)
  (case a16=>k_is)
  (case h16=>and_intros)
  (case a17=>k_is)
  (case h17=>and_intros)
  (case a18=>k_is)
  (case h18=>and_intros)
  (case a19=>k_is)
  (case h19=>and_intros)
  (case a20=>k_is)
  (case l20=>k_is)
  (case c20=>k_is)
  (case k20=>k_is)
  (case glob0=>k_is)
  (case glob1=>k_is)
  (case glob2=>k_is)
  (case z0=>k_is)
  (case z1=>k_is)
  (case z2=>k_is)
  (case z3=>k_is)
  (case z4=>k_is)
  (case z5=>k_is)
  (case z6=>k_is)
  (case z7=>k_is)
  (case z8=>k_is)
  (case z9=>k_is)
  (case z10=>k_is)
  (case z11=>k_is)
  (case z12=>k_is)
  (case z13=>k_is)
