import PyProof.Rows.All
import Wide.All
import OpenK.AllK
import Wide.FinOn
import Lean
import PyProof.EqAt
import PyProof.EqKinds
import PyProof.TupleCall
import PyProof.NeKinds
import PyProof.IsiPairs
import PyProof.EnumMake
import PyProof.Draws
import PyProof.CompFree
import PyProof.CompUse
import PyProof.ConsumeWalk
import PyProof.NeData
import PyProof.P3In
import PyProof.Rows.ReprR
import PyProof.ZipIter
import PyProof.MinMaxWalk
import PyProof.Rows.TupAdd
import PyProof.ListMulRoad
import PyProof.FactsAll.tuple_2
import PyProof.Rows.FStr
import PyProof.StrCalls2
import PyProof.Rows.StrWeight2
import PyProof.Rows.StrSplitJoin
import PyProof.Rows.TupIter
import PyProof.Rows.SortStr
import KE.KSortTup
import PyProof.Rows.SortWalkRead
import PyProof.AttrMissSeq
import KE.KDictOf
import KE.KDictList
import KE.KDictSum
import PyProof.DictRoads
import PyProof.DictStraight
import PyProof.TupleOfSeq
import PyProof.DictTable
import PyProof.StrWalks
import PyProof.ListRange
import PyProof.TupleOfGen
import KE.KRevIter
import PyProof.FactsAll.dict_1
import PyProof.FactsAll.subtypes_3
import PyProof.FitsReplace
import PyProof.StrLawsOcc
import KE.KIntText
import PyProof.StrLawsTight
import PyProof.StrLawsChain
import PyProof.Rows.StrLawsPart
import PyProof.Rows.StrFit
import PyProof.SetKind
import PyProof.Rows.SetFrom
import PyProof.SetRoads
import PyProof.StrCalls6
import PyProof.ToksMono
import PyProof.TupleKey
import PyProof.IsRules
import PySem.Challenge.RW_hearsaybook_k75_no_rows
set_option bootstrap.genMatcherCode false
set_option compiler.extract_closed false
set_option Elab.async false
set_option linter.all false
set_option maxRecDepth 100000
set_option maxHeartbeats 4000000
section
open List (length_map length_append mem_cons_self length_cons mem_cons_of_mem size_toArray getElem?_eq_getElem getElem?_append_left getElem?_append_right map_cons length_set getElem?_set_ne getElem?_map getElem?_set_self mem_of_getElem? map_append mem_append_right append_assoc not_mem_nil append_nil lookup_cons map_map mem_cons length_nil length_range length_replicate mem_append_left getElem?_replicate replicate_succ all_eq_true mem_singleton drop_eq_getElem_cons zip_cons_cons nil_append flatten_cons length_take length_drop getElem_mem map_congr_left forIn_cons nodup_append map_nil getElem?_eq_none drop_length mergeSort_perm contains_cons any_eq_true of_mem_zip foldl_cons forIn_nil nodup_nil sum_cons any_cons take_sublist zip_nil_left nodup_range any_map all_map set_set map_set map_id)
open PySem.Heap (get?_push_of_some lt_size get?_push_size get?_update_self get?_update_other size_push get?_none_of_le)
open Nat (le_refl ne_of_lt lt_of_lt_of_le le_trans zero_le le_of_lt sub_self lt_trans lt_irrefl mul_le_mul_right ne_of_gt lt_succ_of_lt zero_add le_add_right not_lt_zero le_succ lt_or_ge add_comm pow_succ)
open Int (toNat_natCast le_total)
namespace L2
open PySem PySem.Spec PyProof.Rows
noncomputable abbrev Key:=Sum Int Str
noncomputable def ZFz:Key->Value->Bool
 |.inl k,v=>Value.isInt k v
 |.inr x,v=>Value.isStrOf x v
noncomputable def keyH(w:World):Key->Int
 |.inl k=>hashInt k
 |.inr x=>hashStr w x
theorem ZZ:∀{k:Key} {v:Value},ZFz k v=true->(∃i t,k=Sum.inl i/\v=Value.int i t)∨(∃x t,k=Sum.inr x/\v=Value.str x t)
 |.inl i,v,h=>by
  obtain⟨t,e⟩:=Value.isInt_shape (k:=i) (v:=v) h;exact .inl ⟨i,t,rfl,e⟩
 |.inr x,v,h=>by
  obtain⟨t,e⟩:=Value.isStrOf_shape (x:=x) (v:=v) h;exact .inr ⟨x,t,rfl,e⟩
theorem ZKs(i:Int)(t:Tok):ZFz (.inl i) (.int i t)=true:=by simp[ZFz,Value.isInt]
theorem ZKx(x:Str)(t:Tok):ZFz (.inr x) (.str x t)=true:=by simp[ZFz,Value.isStrOf]
theorem ZQu(a b:Int):decide ((Sum.inl a:Key)=Sum.inl b)=(a == b):=by
 by_cases e:a=b
 ·subst e;simp
 ·have h : ¬(Sum.inl a:Key)=Sum.inl b:=λq=>e (Sum.inl.inj q)
  rw[decide_eq_false h];exact(beq_eq_false_iff_ne.mpr e).symm
theorem ZP0(a b:Str):decide ((Sum.inr a:Key)=Sum.inr b)=decide (a=b):=by
 by_cases e:a=b
 ·subst e;simp
 ·have h : ¬(Sum.inr a:Key)=Sum.inr b:=λq=>e (Sum.inr.inj q)
  rw[decide_eq_false h,decide_eq_false e]
theorem ZQi(a:Int)(b:Str):decide ((Sum.inl a:Key)=Sum.inr b)=false:=decide_eq_false (λq=>nomatch q)
theorem ZRm(a:Str)(b:Int):decide ((Sum.inr a:Key)=Sum.inl b)=false:=decide_eq_false (λq=>nomatch q)
noncomputable def ZBJ(prog:Program)(w:World):PySem.KeyKind prog w Key where
 is:=ZFz
 hash:=keyH w
 inj:=λv a b ha hb=>by
  rcases ZZ ha with ⟨i,t,rfl,rfl⟩|⟨x,t,rfl,rfl⟩
  ·rcases ZZ hb with ⟨j,u,rfl,e⟩|⟨y,u,rfl,e⟩
   ·injection e with e1 _;rw[e1]
   ·exact nomatch e
  ·rcases ZZ hb with ⟨j,u,rfl,e⟩|⟨y,u,rfl,e⟩
   ·exact nomatch e
   ·injection e with e1 _;rw[e1]
 byValue:=λk v h=>by
  rcases ZZ h with ⟨i,t,rfl,rfl⟩|⟨x,t,rfl,rfl⟩ <;> rfl
 pyHash:=λhv h=>by
  rcases ZZ hv with ⟨i,t,rfl,rfl⟩|⟨x,t,rfl,rfl⟩
  ·exact wpAny_pyHash_int h
  ·exact wpAny_pyHash_str h
 eqBool:=λhu hv h=>by
  rcases ZZ hu with ⟨i,t,rfl,rfl⟩|⟨x,t,rfl,rfl⟩
  ·rcases ZZ hv with ⟨j,u,rfl,rfl⟩|⟨y,u,rfl,rfl⟩
   ·rw[ZQu] at h;exact wpAny_eqBool_int h
   ·rw[ZQi] at h;exact SeqAt.EqAt.int_str i t y u _ _ _ _ h
  ·rcases ZZ hv with ⟨j,u,rfl,rfl⟩|⟨y,u,rfl,rfl⟩
   ·rw[ZRm] at h;exact SeqAt.EqAt.str_int x t j u _ _ _ _ h
   ·rw[ZP0] at h;exact wpAny_eqBool_str h
 «strs»:=λk x t v h=>by
  rcases ZZ h with ⟨i,u,rfl,e⟩|⟨y,u,rfl,e⟩
  ·exact nomatch e
  ·injection e with e1 _
   subst e1;cases v <;> rfl
theorem ZHk(prog:Program)(w:World)(i:Int)(t:Tok):(ZBJ prog w).is (.inl i) (.int i t)=true:=ZKs i t
theorem ZHi(prog:Program)(w:World)(x:Str)(t:Tok):(ZBJ prog w).is (.inr x) (.str x t)=true:=ZKx x t
inductive V where
 |non|bl (b:Bool)|int (i:Int)|str (x:Str)|byt (b:Array UInt8)|flt (b:UInt64)|ref (a:Addr)|ty (n:String)
 deriving DecidableEq
noncomputable def ZU:V->Value->Prop
 |.non,u=>u=Value.none
 |.bl b,u=>u=Value.bool b
 |.int i,u=>∃t,u=Value.int i t
 |.str x,u=>∃t,u=Value.str x t
 |.byt b,u=>∃t,u=Value.bytes b t
 |.flt b,u=>∃t,u=Value.float b t
 |.ref a,u=>u=Value.ref a
 |.ty n,u=>u=Value.type n
noncomputable abbrev ZK:List V->List Value->Prop:=Paired ZU
theorem ZK.length{xs:List V}{us:List Value}(r:ZK xs us):xs.length=us.length:=Paired.length r
theorem ZK.get:∀{xs:List V} {us:List Value} {i:Nat} {x:V},ZK xs us->xs[i]? = some x->∃u,us[i]? = some u/\ZU x u
 |_,_,_,_,.nil,e=>by simp at e
 |_,_,0,_,.cons r _,e=>by simp at e;subst e;exact⟨_,rfl,r⟩
 |_,_,i+1,x,.cons _ t,e=>by
  obtain⟨u,h1,h2⟩:=ZK.get (i:=i) (x:=x) t (by simpa using e);exact⟨u,by simpa using h1,h2⟩
theorem ZK.set{x:V}{u:Value}(r:ZU x u):∀{xs:List V} {us:List Value} (i:Nat),ZK xs us->ZK (xs.set i x) (us.set i u)
 |_,_,_,.nil=>.nil
 |_,_,0,.cons _ t=>.cons r t
 |_,_,i+1,.cons q t=>.cons q (ZK.set r i t)
theorem ZK.append:∀{xs ys:List V} {us ws:List Value},ZK xs us->ZK ys ws->ZK (xs++ys) (us++ws)
 |_,_,_,_,.nil,s=>s
 |_,_,_,_,.cons r t,s=>.cons r (ZK.append t s)
theorem ZK.take:∀{xs:List V} {us:List Value} (n:Nat),ZK xs us->ZK (xs.take n) (us.take n)
 |_,_,0,_=>.nil
 |_,_,_+1,.nil=>.nil
 |_,_,n+1,.cons r t=>.cons r (ZK.take n t)
theorem ZK.drop:∀{xs:List V} {us:List Value} (n:Nat),ZK xs us->ZK (xs.drop n) (us.drop n)
 |_,_,0,r=>r
 |_,_,_+1,.nil=>.nil
 |_,_,n+1,.cons _ t=>ZK.drop n t
noncomputable def ZSV:Option V->Option Value->Prop
 |some v,some u=>ZU v u
 |none,none=>True
 |_,_=>False
noncomputable def KV{κ : Type}:List (κ×V)->List (κ×Value)->Prop:=Paired λ(p : κ×V) (q : κ×Value)=>p.1=q.1/\ZU p.2 q.2
noncomputable def kV:Key->V
 |.inl i=>.int i
 |.inr x=>.str x
inductive HO where
 /-- a list -/
 |lst (xs:List V)
 /-- a tuple (never changes) -/
 |tup (xs:List V)
 /-- a dict whose keys are ints and texts;one whose keys are tuples of ints and texts (the empty one is both) -/
 |dK (kvs:List (Key×V))|dT (kvs:List (List Key×V))
 /-- a set of ints: its members,its size -/
 |set (S:Int->Bool) (n:Nat)
 /-- an instance of the class at C,its dict at dx,its attributes -/
 |ins (C dx:Addr) (fs:List (Str×V))
 /-- the dict of the instance at x -/
 |own (x:Addr)
 /-- the dict of an exception -/
 |xd (fs:List (Str×V))
 /-- a bound method,f of x -/
 |met (f x:Addr)
 /-- a range object lo,lo+1,.. below hi -/
 |rng (lo hi:Int)
 /-- a thing that is known to the object (the script;a dict while a loop walks it): read,never written while it is so -/
 |frz (o:Obj) (u:HO)
 /-- a code object's table -/
 |tbl (ps:Array Value)
 /-- any other thing,by what is true of its one object (a def of one's own: SetO a S n:=HO.ext λh=>..) -/
 |ext (φ : Heap->Prop)
noncomputable abbrev Hp:=Addr->Option HO
noncomputable def upd(H:Hp)(a:Addr)(o:HO):Hp:=λb=>if b=a then some o else H b
theorem ZC{H:Hp}{a:Addr}{o:HO}:upd H a o a=some o:=by unfold upd;rw[if_pos rfl]
theorem ZD{H:Hp}{a b:Addr}{o:HO}(h:b≠a):upd H a o b=H b:=by unfold upd;rw[if_neg h]
theorem ZD8{H:Hp}{a:Addr}{o u:HO}:upd (upd H a o) a u=upd H a u:=by
 funext b;unfold upd;split <;> rfl
theorem ZG{H:Hp}{a b:Addr}{o:HO}(h:H a=some o)(h':H b=none):a≠b:=by
 intro e;subst e;rw[h] at h';cases h'
section
variable(P:Program)(w:World)
noncomputable def Zq(H:Hp)(h:Heap)(a:Addr):HO->Prop
 |.lst xs=>xs.length<=sizeLine/\∃(its:List Value) (n:Nat),ZK xs its/\h.get? a=some { cls:=.type "list",data:=.seq its.toArray n }
 |.tup xs=>xs.length<=sizeLine/\∃its:List Value,ZK xs its/\IsTup h a its.toArray
 |.dK kvs=>kvs.length<=sizeLine/\(a == sysModules)=false/\∃vs,KV kvs vs/\h.DictOf (ZBJ P w) a vs
 |.dT kvs=>kvs.length<=sizeLine/\(a == sysModules)=false/\∃xs:List (List Key×Addr×Value),
   Paired (λ(p:List Key×V) (q:List Key×Addr×Value)=>p.1=q.1/\H q.2.1=some (.tup (p.1.map kV))/\ZU p.2 q.2.2) kvs xs /\
   ∃o es ep,h.get? a=some o/\o.ExactDict/\o.data=.dict es ep/\es.toList=xs.map (entryOfKey (tupleKind (ZBJ P w)))/\(xs.map (·.1)).Nodup
 |.set S n=>h.SetOf (intKind P w) a S n
 |.ins C dx fs=>H dx=some (.own a)/\fs.length<=1000/\dx≠a/\h.get? a=some (PySem.W.instObj C dx) /\
   ∃mA,h.Ns1 dx mA/\(∀f,ZSV (fs.lookup f) (mA f))/\PySem.Within mA (fs.map (·.1))
 |.own _=>∃o,h.get? a=some o
 |.xd fs=>∃mA,h.Ns1 a mA/\∀f,ZSV (fs.lookup f) (mA f)
 |.rng lo hi=>∃t u v,h.get? a=some { cls:=.type "range",data:=.fields #[.int lo t,.int hi u,.int 1 v] }
 |.frz o u=>h.get? a=some o/\Zq H h a u
 |.tbl ps=>h.get? a=some { cls:=.none,data:=.fields ps }
 |.met f x=>h.get? a=some (PySem.W.methodObj (.ref f) (.ref x))
 |.ext φ=>φ h/\(∃o,h.get? a=some o)/\∀h1 h2:Heap,φ h1->(∀o,h1.get? a=some o->h2.get? a=some o)->φ h2
noncomputable def HOk(H:Hp)(h:Heap):Prop:=∀a o,H a=some o->Zq P w H h a o
end
section
variable{P:Program}{w:World}{H H':Hp}{h h':Heap}{a:Addr}{o:HO}
theorem Zq.lt(x:Zq P w H h a o):a<h.objs.size:=by
 cases o with
 |lst xs=>obtain⟨_,_,_,_,e⟩:=x;exact lt_size e
 |tup xs=>obtain⟨_,_,_,p⟩:=x;exact p.lt
 |dK kvs=>obtain⟨_,_,_,_,o,_,_,e,_⟩:=x;exact lt_size e
 |dT kvs=>obtain⟨_,_,_,_,o,_,_,e,_⟩:=x;exact lt_size e
 |set S n=>obtain⟨o,_,_,_,e,_⟩:=x;exact lt_size e
 |ins C dx fs=>obtain⟨_,_,_,e,_⟩:=x;exact lt_size e
 |own y=>obtain⟨_,e⟩:=x;exact lt_size e
 |xd fs=>obtain⟨_,⟨_,_,_,e,_⟩,_⟩:=x;exact lt_size e
 |rng lo hi=>obtain⟨_,_,_,e⟩:=x;exact lt_size e
 |frz ob u=>obtain⟨e,_⟩:=x;exact lt_size e
 |tbl ps=>exact lt_size (show h.get? a=some _ from x)
 |met f y=>exact lt_size (show h.get? a=some _ from x)
 |ext φ=>obtain⟨_,⟨_,e⟩,_⟩:=x;exact lt_size e
theorem Paired.mapP{α β : Type}{F G : α->β->Prop}:∀{l₁ : List α} {l₂ : List β},Paired F l₁ l₂->(∀a b,F a b->G a b)->Paired G l₁ l₂
 |_,_,.nil,_=>.nil
 |_,_,.cons r t,f=>.cons (f _ _ r) (Paired.mapP t f)
theorem Zq.stay(x:Zq P w H h a o)(k:∀b u,(b=a∨H b=some (.own a))->h.get? b=some u->h'.get? b=some u)
  (ho:∀b,H b=some (.own a)->H' b=some (.own a))(ht:∀b xs,H b=some (.tup xs)->H' b=some (.tup xs)):Zq P w H' h' a o:=by
 induction o with
 |lst xs=>obtain⟨z,its,n,r,e⟩:=x;exact⟨z,its,n,r,k _ _ (.inl rfl) e⟩
 |tup xs=>obtain⟨z,its,r,ob,e,c⟩:=x;exact⟨z,its,r,ob,k _ _ (.inl rfl) e,c⟩
 |dK kvs=>obtain⟨z,y,vs,r,ob,es,ep,e,c⟩:=x;exact⟨z,y,vs,r,ob,es,ep,k _ _ (.inl rfl) e,c⟩
 |dT kvs =>
  obtain⟨z,y,xs,r,ob,es,ep,e,c⟩:=x;exact⟨z,y,xs,Paired.mapP r λp q z=>⟨z.1,ht _ _ z.2.1,z.2.2⟩,ob,es,ep,k _ _ (.inl rfl) e,c⟩
 |set S n=>obtain⟨ob,es,ep,t,e,c⟩:=x;exact⟨ob,es,ep,t,k _ _ (.inl rfl) e,c⟩
 |ins C dx fs =>
  obtain⟨d,z,ne,e,mA,⟨od,es,ep,e2,c⟩,r⟩:=x;exact⟨ho _ d,z,ne,k _ _ (.inl rfl) e,mA,⟨od,es,ep,k _ _ (.inr d) e2,c⟩,r⟩
 |own y=>obtain⟨ob,e⟩:=x;exact⟨ob,k _ _ (.inl rfl) e⟩
 |xd fs=>obtain⟨mA,⟨od,es,ep,e,c⟩,r⟩:=x;exact⟨mA,⟨od,es,ep,k _ _ (.inl rfl) e,c⟩,r⟩
 |rng lo hi=>obtain⟨t,u,v,e⟩:=x;exact⟨t,u,v,k _ _ (.inl rfl) e⟩
 |frz ob u ih=>obtain⟨e,q⟩:=x;exact⟨k _ _ (.inl rfl) e,ih q⟩
 |tbl ps =>
  have e:h.get? a=some { cls:=.none,data:=.fields ps }:=x;show h'.get? a=some { cls:=.none,data:=.fields ps };exact k a _ (.inl rfl) e
 |met f y =>
  have e:h.get? a=some (PySem.W.methodObj (.ref f) (.ref y)):=x;show h'.get? a=some (PySem.W.methodObj (.ref f) (.ref y));exact k a _ (.inl rfl) e
 |ext φ=>obtain⟨p,⟨o,e⟩,st⟩:=x;exact⟨st _ _ p λo q=>k _ _ (.inl rfl) q,⟨o,k _ _ (.inl rfl) e⟩,st⟩
theorem HOk.lt(x:HOk P w H h)(e:H a=some o):a<h.objs.size:=(x a o e).lt
theorem HOk.fresh(x:HOk P w H h)(e:h.objs.size<=a):H a=none:=by
 cases q:H a with
 |none=>rfl
 |some u=>exact absurd (lt_of_lt_of_le (x.lt q) e) (lt_irrefl _)
theorem HOk.kept(x:HOk P w H h)(k:∀b u,h.get? b=some u->h'.get? b=some u):HOk P w H h':=λa o e =>
 (x a o e).stay (λb u _ q=>k b u q) (λ_ q=>q) λ_ _ q=>q
theorem HOk.laid(x:HOk P w H h)(k:∀b u,h.get? b=some u->h'.get? b=some u)(hp:h.objs.size<=a)(new:Zq P w (upd H a o) h' a o):HOk P w (upd H a o) h':=λb u e=>by
 have hn:=x.fresh hp
 by_cases hb:b=a
 ·subst hb;rw[ZC] at e;cases e;exact new
 ·rw[ZD hb] at e
  exact(x b u e).stay (λc v _ q=>k c v q) (λc q=>by rw[ZD (ZG q hn)];exact q) λc xs q=>by rw[ZD (ZG q hn)];exact q
end
noncomputable def Rd(H:Hp)(a:Addr)(u:HO):Prop:=H a=some u∨∃o,H a=some (.frz o u)
theorem Rd.ok{P:Program}{w:World}{H:Hp}{h:Heap}{a:Addr}{u:HO}(r:Rd H a u)(x:HOk P w H h):Zq P w H h a u:=by
 rcases r with r|⟨o,r⟩
 ·exact x a u r
 ·obtain⟨_,q⟩:=x a _ r
  exact q
noncomputable def Mut:Option HO->Prop
 |some (.lst _)=>True
 |some (.dK _)=>True
 |some (.dT _)=>True
 |some (.set _ _)=>True
 |some (.ins _ _ _)=>True
 |some (.ext _)=>True
 |_=>False
section
variable{P:Program}{w:World}{H:Hp}{h h':Heap}{x e:Addr}{o':HO}
theorem HOk.write(ok:HOk P w H h)(mu:Mut (H x))(he:e=x∨H e=some (.own x))(k:∀b u,b≠e->h.get? b=some u->h'.get? b=some u)(heo:∃u,h'.get? e=some u)
  (new:Zq P w (upd H x o') h' x o'):HOk P w (upd H x o') h':=λb u q=>by
 have nown:∀c y,H c=some (.own y)->c≠x:=λc y r z=>by subst z;rw[r] at mu;exact mu
 have ntup:∀c xs,H c=some (.tup xs)->c≠x:=λc xs r z=>by subst z;rw[r] at mu;exact mu
 by_cases hb:b=x
 ·subst hb;rw[ZC] at q;cases q;exact new
 ·rw[ZD hb] at q
  by_cases hbe:b=e
  ·have q':H b=some (.own x):=by
    rcases he with z|z
    ·exact absurd (hbe.trans z) hb
    ·rw[hbe];exact z
   rw[q] at q';cases q';obtain⟨v,hv⟩:=heo;exact⟨v,by rw[hbe];exact hv⟩
  ·refine(ok b u q).stay (λc v hc r=>k c v ?_ r) (λc r=>by rw[ZD (nown c b r)];exact r) λc xs r=>by rw[ZD (ntup c xs r)];exact r
   rcases hc with rfl|hc
   ·exact hbe
   ·rintro rfl
    rcases he with z|z
    ·exact nown c b hc z
    ·rw[hc] at z;cases z;exact hb rfl
end
structure Un (fs ex:List Addr) (H H':Hp) (h h':Heap):Prop where
 keep:∀b o,h.get? b=some o->H b=none->b∉fs->b∉ex->h'.get? b=some o
 slot:∀b o,h.get? b=some o->H b=none->b∈fs->b∉ex->∃sl,h'.get? b=some { o with slots:=sl }
 free:∀b o,h.get? b=some o->H b=none->b∉ex->H' b=none
 there:∀b o,h.get? b=some o->b∉ex->∃o',h'.get? b=some o'
 tups:∀b xs,H b=some (.tup xs)->H' b=some (.tup xs)
 frzs:∀b o u,H b=some (.frz o u)->H' b=some (.frz o u)
 tbls:∀b ps,H b=some (.tbl ps)->∃more,H' b=some (.tbl (ps++more))
section
variable{fs fs' ex ex':List Addr}{H H1 H2:Hp}{h h1 h2 h':Heap}{a x e:Addr}{o:HO}
theorem Un.any(u:Un fs ex H H1 h h1){b:Addr}{ob:Obj}(q:h.get? b=some ob)(n:H b=none)(hx:b∉ex):∃sl,h1.get? b=some { ob with slots:=sl }:=by
 by_cases hb:b∈fs
 ·exact u.slot b ob q n hb hx
 ·exact⟨ob.slots,u.keep b ob q n hb hx⟩
theorem Un.kept(k:∀b u,h.get? b=some u->h'.get? b=some u):Un fs ex H H h h' :=
 ⟨λb ob q _ _ _=>k b ob q,λb ob q _ _ _=>⟨ob.slots,k b ob q⟩,λ_ _ _ n _=>n,λb ob q _=>⟨ob,k b ob q⟩,λ_ _ q=>q,λ_ _ _ q=>q,λ_ ps q=>⟨#[],by rw[q];simp⟩⟩
theorem Un.refl:Un fs ex H H h h:=Un.kept λ_ _ q=>q
theorem Un.laid(k:∀b u,h.get? b=some u->h'.get? b=some u)(hp:h.objs.size<=a)(hn:H a=none):Un fs ex H (upd H a o) h h' where
 keep:=λb u q _ _ _=>k b u q
 slot:=λb u q _ _ _=>⟨u.slots,k b u q⟩
 free:=λb u q n _=>by rw[ZD (ne_of_lt (lt_of_lt_of_le (lt_size q) hp))];exact n
 there:=λb u q _=>⟨u,k b u q⟩
 tups:=λb xs q=>by rw[ZD (ZG q hn)];exact q
 frzs:=λb u xs q=>by rw[ZD (ZG q hn)];exact q
 tbls:=λb ps q=>⟨#[],by rw[ZD (ZG q hn),q];simp⟩
theorem Un.write(mu:Mut (H x))(he:e=x∨H e=some (.own x))(k:∀b u,b≠e->h.get? b=some u->h'.get? b=some u)(heo:∃u,h'.get? e=some u):Un fs ex H (upd H x o) h h':=by
 have hx:∀b,H b=none->b≠x:=λb n z=>by subst z;rw[n] at mu;exact mu
 have hb:∀b,H b=none->b≠e:=λb n z=>by
  subst z;rcases he with r|r
  ·exact hx b n r
  ·rw[n] at r;cases r
 have hm:∀b u,H b=some u->¬Mut (some u)->b≠x:=λb u q nm z=>by subst z;rw[q] at mu;exact nm mu
 refine⟨λb u q n _ _=>k b u (hb b n) q,λb u q n _ _=>⟨u.slots,k b u (hb b n) q⟩,λb u q n _=>by rw[ZD (hx b n)];exact n,λb u q _=>?_,
  λb xs q=>by rw[ZD (hm b _ q λz=>z)];exact q,λb u xs q=>by rw[ZD (hm b _ q λz=>z)];exact q,λb ps q=>⟨#[],by rw[ZD (hm b _ q λz=>z),q];simp⟩⟩
 by_cases hbe:b=e
 ·subst hbe;exact heo
 ·exact⟨u,k b u hbe q⟩
end
noncomputable def trk(h:Heap)(H:Hp):List Addr:=(List.range h.objs.size).filter λa=>(H a).isSome
noncomputable def ZGo(h:Heap)(H:Hp):Heap:=PySem.W.hideAll h (trk h H)
theorem ZKq(h:Heap)(H:Hp):(ZGo h H).objs.size=h.objs.size:=PySem.W.hideAll_size _ _
theorem ZLK{h:Heap}{H:Hp}{b:Addr}{o:Obj}(e:h.get? b=some o)(n:H b=none):(ZGo h H).get? b=some o :=
 PySem.W.hideAll_get _ e λhm=>by
  have q:(H b).isSome=true:=(List.mem_filter.mp hm).2;rw[n] at q;simp at q
theorem ZNo{h:Heap}{H:Hp}{b:Addr}{o:Obj}(e:(ZGo h H).get? b=some o):h.get? b=some o/\H b=none:=by
 have e':h.get? b=some o:=PySem.W.of_hideAll (trk h H) e;refine⟨e',?_⟩;cases q:H b with
 |none=>rfl
 |some x =>
  have hm:b∈trk h H:=List.mem_filter.mpr ⟨List.mem_range.mpr (lt_size e'),by simp[q]⟩;have z:(ZGo h H).get? b=none:=PySem.W.hideAll_none (trk h H) hm;rw[z] at e;cases e
structure Mod (K:PySem.W.Frag) (mg:Str->Option Value) (base:Heap):Prop where
 kin:K.In base
 glob:base.Ns mainGlobals mg
 blt:∃mb,base.Ns builtinsNs mb/\∀x:Str,x≠"__name__"->mb x=bootBuiltins x
 nolimit:base.NoLimit
structure Cx where
 prog:Program
 w:World
 K:PySem.W.Frag
 mg:Str->Option Value
 base:Heap
 A:Around
 N:List Str
 s₀ : Shared
 H₀ : Hp
 env:Env
 outer:List Env
 stack:List Env
 ex:List Addr
 fn:Str->Bool
 calm:Bool
 pn:List (Addr×Obj)
 xe:Value->Shared->Prop
noncomputable def frs(l:List Env):List Addr:=l.filterMap (·.frame)
noncomputable abbrev Cx.fs(X:Cx):List Addr:=frs X.outer
noncomputable def Vis(sc:Scope)(x:Str):Prop:=sc.names.lookup x=some .local∨sc.names.lookup x=some .cell∨sc.names.lookup x=some .free
noncomputable def Loc(sc:Scope)(x:Str):Prop:=sc.names.lookup x=some .local∨sc.names.lookup x=some .cell
noncomputable def Look(env:Env)(h:Heap)(m:Str->Option Value)(x:Str)(u:Value):Prop :=
 (env.kindOf x=some .local/\m x=some u)∨((env.kindOf x=some .cell∨env.kindOf x=some .free)/\∃c,env.cells.lookup x=some c/\h.IsCell c (some u))
structure Cx.Ok (X:Cx):Prop where
 mod:Mod X.K X.mg X.base
 kind:X.env.scope.kind=.function
 glob:X.env.globals=mainGlobals
 blt:X.env.builtins=builtinsNs
 above:X.s₀.heap.objs.size<=X.env.locals
 inj:∀x y c,X.env.cells.lookup x=some c->X.env.cells.lookup y=some c->x=y
 has:∀x,(X.env.kindOf x=some .cell∨X.env.kindOf x=some .free)->∃c,X.env.cells.lookup x=some c
 cab:∀x c,X.fn x=true->X.env.cells.lookup x=some c->X.s₀.heap.objs.size<=c
 hd:X.calm=true->X.A.handled=none
 frames:X.A.frames=some X.stack
 stk:X.stack=X.outer∨(X.stack=X.env::X.outer/\X.env.frame=some X.env.locals)
 exf:∀b∈X.ex,b≠X.env.locals/\∀x c,X.env.cells.lookup x=some c->c≠b
 bs:∀b o,X.base.get? b=some o->X.s₀.heap.get? b=some o/\X.H₀ b=none
 bsz:X.base.objs.size<=X.s₀.heap.objs.size
 noex:∀b o,X.base.get? b=some o->b∉X.ex
 exfs:∀b∈X.ex,b∉X.fs
 funs:X.s₀.heap.FunFrames X.base X.outer
 frf:∀b∈X.fs,X.H₀ b=none
structure Inv (X:Cx) (pins:List (Addr×Obj)) (σ : List (Option V)) (H:Hp) (s:Shared):Prop where
 ok:X.Ok
 os:s.os=X.s₀.os
 bare:AllBare s.gens
 base:Un X.fs X.ex X.H₀ H X.s₀.heap s.heap
 loc:∃m,s.heap.Ns X.env.locals m/\∀(i:Nat) (x:Str) (v:V),X.N[i]? = some x->σ[i]? = some (some v)->Vis X.env.scope x->∃u,ZU v u/\Look X.env s.heap m x u
 cell:∀x c,X.env.cells.lookup x=some c->∃v,s.heap.IsCell c v
 free:H X.env.locals=none
 freeC:∀x c,X.env.cells.lookup x=some c->H c=none
 pin:∀p∈X.pn++pins,s.heap.get? p.1=some p.2/\H p.1=none/\p.1≠X.env.locals/\p.1∉X.fs/\∀v,p.2.data≠.cell v
 hok:HOk X.prog X.w H s.heap
 len : σ.length=X.N.length
section
variable{X:Cx}{pins:List (Addr×Obj)}{σ : List (Option V)}{H H':Hp}{s:Shared}{h':Heap}
theorem Cx.Ok.nofr(ok:X.Ok){b:Addr}{o:Obj}(e:X.base.get? b=some o):b∉X.fs:=λhb=>by
 have:=(ok.funs.mem hb).1;rw[e] at this;cases this
theorem Inv.bs(I:Inv X pins σ H s):∀b o,X.base.get? b=some o->s.heap.get? b=some o/\H b=none:=λb o e =>
 ⟨I.base.keep b o (I.ok.bs b o e).1 (I.ok.bs b o e).2 (I.ok.nofr e) (I.ok.noex b o e),I.base.free b o (I.ok.bs b o e).1 (I.ok.bs b o e).2 (I.ok.noex b o e)⟩
theorem Inv.bk(I:Inv X pins σ H s):∀b o,X.base.get? b=some o->s.heap.get? b=some o:=λb o e=>(I.bs b o e).1
theorem Inv.mod(I:Inv X pins σ H s):Mod X.K X.mg X.base:=I.ok.mod
theorem Inv.kIn(I:Inv X pins σ H s):X.K.In s.heap:=I.ok.mod.kin.keeps I.bk
theorem Inv.lt(I:Inv X pins σ H s):X.env.locals<s.heap.objs.size:=let ⟨_,hn,_⟩:=I.loc;hn.lt
theorem Inv.sz(I:Inv X pins σ H s):X.s₀.heap.objs.size<=s.heap.objs.size:=le_trans I.ok.above (le_of_lt I.lt)
theorem Inv.nofs(I:Inv X pins σ H s){a:Addr}(h:s.heap.objs.size<=a):a∉X.fs:=λhb=>by
 obtain⟨_,o,ho,_⟩:=I.ok.funs.mem hb;exact absurd (lt_of_lt_of_le (lt_size ho) (le_trans I.sz h)) (lt_irrefl _)
theorem Inv.cne(I:Inv X pins σ H s):∀x c,X.env.cells.lookup x=some c->c≠X.env.locals:=λx c e z=>by
 obtain⟨v,o,ho,hd⟩:=I.cell x c e;obtain⟨m,⟨o',es,ep,ho',hd',_⟩,_⟩:=I.loc;rw[z,ho'] at ho;cases ho;rw[hd'] at hd;cases hd
theorem Inv.funs(I:Inv X pins σ H s):s.heap.FunFrames X.base X.outer:=by
 have all:∀(l:List Env),(∀b∈frs l,b∈X.fs)->X.s₀.heap.FunFrames X.base l->s.heap.FunFrames X.base l:=by
  intro l
  induction l with
  |nil=>intro _ _;trivial
  |cons env r ih =>
   intro hs hl;obtain⟨hk,⟨L,o,hf,hn,ho,hd⟩,hr⟩:=hl;have hL:L∈X.fs:=hs L (by unfold frs;rw[List.filterMap_cons,hf];exact mem_cons_self);obtain⟨sl,e⟩:=I.base.slot L o ho (I.ok.frf L hL) hL λz=>I.ok.exfs L z hL
   exact⟨hk,⟨L,_,hf,hn,e,hd⟩,ih (λb hb=>hs b (by unfold frs;rw[List.filterMap_cons,hf];exact mem_cons_of_mem _ hb)) hr⟩
 exact all X.outer (λ_ hb=>hb) I.ok.funs
theorem Inv.stack(I:Inv X pins σ H s):s.heap.FunFrames X.base X.stack:=by
 rcases I.ok.stk with e|⟨e,hf⟩
 ·rw[e];exact I.funs
 ·rw[e]
  obtain⟨m,hn,_⟩:=I.loc;refine .cons (by rw[I.ok.kind];decide) hf hn ?_ I.funs;exact get?_none_of_le (le_trans I.ok.bsz I.ok.above)
theorem Inv.stkSub(I:Inv X pins σ H s):∀b∈frs X.stack,b∈X.env.locals::X.fs:=λb hb=>by
 rcases I.ok.stk with e|⟨e,hf⟩
 ·rw[e] at hb;exact mem_cons_of_mem _ hb
 ·rw[e] at hb
  unfold frs at hb;rw[List.filterMap_cons,hf] at hb;exact hb
theorem Inv.stkFree(I:Inv X pins σ H s):∀b∈frs X.stack,H b=none:=λb hb=>by
 rcases List.mem_cons.mp (I.stkSub b hb) with e|hb
 ·rw[e];exact I.free
 ·obtain⟨_,o,ho,_⟩:=I.ok.funs.mem hb
  exact I.base.free b o ho (I.ok.frf b hb) λz=>I.ok.exfs b z hb
theorem Inv.step{g':Array GenState}{t':Nat}{d':Drawn}{ch:List Addr}(I:Inv X pins σ H s)
  (hch:∀b∈ch,(b∈X.ex∨X.s₀.heap.objs.size<=b)/\b≠X.env.locals/\(∀x c,X.env.cells.lookup x=some c->c≠b)/\∀p∈X.pn++pins,p.1≠b)
  (keep:∀b o,b≠X.env.locals->b∉X.fs->b∉ch->s.heap.get? b=some o->H b=none->h'.get? b=some o)
  (slot:∀b o,b≠X.env.locals->b∈X.fs->b∉ch->s.heap.get? b=some o->H b=none->∃sl,h'.get? b=some { o with slots:=sl })(free:∀b o,b∉ch->s.heap.get? b=some o->H b=none->H' b=none)
  (there:∀b o,b∉ch->s.heap.get? b=some o->∃o',h'.get? b=some o')
  (tups:∀b xs,H b=some (.tup xs)->H' b=some (.tup xs))(frzs:∀b o u,H b=some (.frz o u)->H' b=some (.frz o u))(tbls:∀b ps,H b=some (.tbl ps)->∃more,H' b=some (.tbl (ps++more)))
  (ns:∀m,s.heap.Ns X.env.locals m->h'.Ns X.env.locals m)(hok:HOk X.prog X.w H' h')(hg:AllBare g') :
  Inv X pins σ H' { s with heap:=h',gens:=g',drawn:=d',toks:=t' }:=by
 have neL:∀b o,X.s₀.heap.get? b=some o->b≠X.env.locals:=λb o e=>ne_of_lt (lt_of_lt_of_le (lt_size e) I.ok.above)
 have neC:∀b o,X.s₀.heap.get? b=some o->b∉X.ex->b∉ch:=λb o e hx hb=>by
  rcases(hch b hb).1 with z|z
  ·exact hx z
  ·exact absurd (lt_of_lt_of_le (lt_size e) z) (lt_irrefl _)
 have cellK:∀x c,X.env.cells.lookup x=some c->∀v,s.heap.IsCell c v->h'.IsCell c v:=λx c e v ⟨o,ho,hd⟩=>by
  have nch:c∉ch:=λz=>(hch c z).2.2.1 x c e rfl
  by_cases hc:c∈X.fs
  ·obtain⟨sl,q⟩:=slot c o (I.cne x c e) hc nch ho (I.freeC x c e)
   exact⟨_,q,hd⟩
  ·exact⟨o,keep c o (I.cne x c e) hc nch ho (I.freeC x c e),hd⟩
 refine⟨I.ok,I.os,hg,⟨λb o e n hb hx=>?_,λb o e n hb hx=>?_,λb o e n hx=>?_,λb o e hx=>?_,λb xs e=>tups b xs (I.base.tups b xs e),λb o xs e=>frzs b o xs (I.base.frzs b o xs e),λb ps e=>?_⟩,?_,λx c e=>?_,?_,λx c e=>?_,λp hp=>?_,hok,I.len⟩
 ·exact keep b o (neL b o e) hb (neC b o e hx) (I.base.keep b o e n hb hx) (I.base.free b o e n hx)
 ·obtain⟨sl,e1⟩:=I.base.slot b o e n hb hx
  obtain⟨sl',e2⟩:=slot b _ (neL b o e) hb (neC b o e hx) e1 (I.base.free b o e n hx);exact⟨sl',e2⟩
 ·obtain⟨o',e1⟩:=I.base.there b o e hx
  exact free b o' (neC b o e hx) e1 (I.base.free b o e n hx)
 ·obtain⟨o',e1⟩:=I.base.there b o e hx
  exact there b o' (neC b o e hx) e1
 ·obtain⟨m1,e1⟩:=I.base.tbls b ps e
  obtain⟨m2,e2⟩:=tbls b _ e1;exact⟨m1++m2,by rw[e2,Array.append_assoc]⟩
 ·obtain⟨m,hn,hl⟩:=I.loc
  refine⟨m,ns m hn,λi x v e1 e2 e3=>?_⟩;obtain⟨u,r,l⟩:=hl i x v e1 e2 e3;refine⟨u,r,?_⟩;rcases l with l|⟨k,c,e,z⟩
  ·exact .inl l
  ·exact .inr ⟨k,c,e,cellK x c e _ z⟩
 ·obtain⟨v,z⟩:=I.cell x c e
  exact⟨v,cellK x c e v z⟩
 ·obtain⟨m,⟨o,_,_,ho,_⟩,_⟩:=I.loc
  exact free _ o (λz=>(hch _ z).2.1 rfl) ho I.free
 ·obtain⟨v,o,ho,hd⟩:=I.cell x c e
  exact free c o (λz=>(hch c z).2.2.1 x c e rfl) ho (I.freeC x c e)
 ·obtain⟨e,n,ne,nf,d⟩:=I.pin p hp
  have nch:p.1∉ch:=λz=>(hch p.1 z).2.2.2 p hp rfl
  exact⟨keep p.1 p.2 ne nf nch e n,free p.1 p.2 nch e n,ne,nf,d⟩
theorem Inv.un{t':Nat}(I:Inv X pins σ H s)(u:Un X.fs [] H H' s.heap h')(hok:HOk X.prog X.w H' h'):Inv X pins σ H' { s with heap:=h',toks:=t' }:=by
 obtain ⟨m,⟨o,es,ep,ho,r⟩,_⟩:=id I.loc;obtain ⟨sl,hL⟩:=u.any ho I.free (by simp);exact I.step (g':=s.gens) (d':=s.drawn) (ch:=[]) (λ _ z=>nomatch z) (λ b o _ hb _ e n=>u.keep b o e n hb (by simp)) (λ b o _ hb _ e n=>u.slot b o e n hb (by simp)) (λ b o _ e n=>u.free b o e n (by simp)) (λ b o _ e=>u.there b o e (by simp)) u.tups u.frzs u.tbls (λ m' hm=>by
  obtain⟨o',es',ep',ho',r'⟩:=hm;rw[ho] at ho';cases ho';exact⟨_,es',ep',hL,r'⟩) hok I.bare
theorem Inv.call{g':Array GenState}{t':Nat}{d':Drawn}{ch:List Addr}(I:Inv X pins σ H s)(u:Un (frs X.stack) ch H H' s.heap h')(hok:HOk X.prog X.w H' h')(hg:AllBare g')
  (hch:∀b∈ch,(b∈X.ex∨X.s₀.heap.objs.size<=b)/\b≠X.env.locals/\(∀x c,X.env.cells.lookup x=some c->c≠b)/\∀p∈X.pn++pins,p.1≠b) :
  Inv X pins σ H' { s with heap:=h',gens:=g',drawn:=d',toks:=t' }:=by
 obtain⟨m,⟨o,es,ep,ho,r⟩,_⟩:=id I.loc;obtain⟨sl,hL⟩:=u.any ho I.free λz=>(hch _ z).2.1 rfl
 exact I.step (ch:=ch) hch (λ b o hL hb hc e n=>u.keep b o e n (λ z=>(List.mem_cons.mp (I.stkSub b z)).elim hL hb) hc) (λ b o _ _ hc e n=>u.any e n hc) (λ b o hc e n=>u.free b o e n hc) (λ b o hc e=>u.there b o e hc) u.tups u.frzs u.tbls (λ m' hm=>by
  obtain⟨o',es',ep',ho',r'⟩:=hm;rw[ho] at ho';cases ho';exact⟨_,es',ep',hL,r'⟩) hok hg
theorem Inv.turned{t':Nat}{it:Addr}(I:Inv X pins σ H s)(k:∀b o,b≠it->s.heap.get? b=some o->h'.get? b=some o)(hn:H it=none)(hL:it≠X.env.locals)
  (h1:it∈X.ex∨X.s₀.heap.objs.size<=it)(h2:∀x c,X.env.cells.lookup x=some c->c≠it)(h3:∀p∈X.pn++pins,p.1≠it):Inv X pins σ H { s with heap:=h',toks:=t' }:=by
 have nit:∀b u,H b=some u->b≠it:=λb u e z=>by rw[z,hn] at e;cases e
 refine I.step (g':=s.gens) (d':=s.drawn) (ch:=[it]) (λb hb=>?_) (λb o _ _ hc e _=>k b o (λz=>hc (by simp[z])) e) (λb o _ _ hc e _=>⟨o.slots,k b o (λz=>hc (by simp[z])) e⟩) (λ_ _ _ _ n=>n)
  (λb o hc e=>⟨o,k b o (λz=>hc (by simp[z])) e⟩) (λ_ _ e=>e) (λ_ _ _ e=>e) (λb ps e=>⟨#[],by rw[e];simp⟩) (λm hm=>?_) (λb u e=>?_) I.bare
 ·have e:b=it:=by simpa using hb
  subst e;exact⟨h1,hL,h2,h3⟩
 ·obtain⟨o,es,ep,ho,r⟩:=hm
  exact⟨o,es,ep,k _ o (Ne.symm hL) ho,r⟩
 ·refine(I.hok b u e).stay (λc v hc q=>k c v ?_ q) (λ_ q=>q) λ_ _ q=>q
  rcases hc with z|z
  ·rw[z];exact nit b u e
  ·exact nit c _ z
theorem Inv.tok(I:Inv X pins σ H s)(t:Nat):Inv X pins σ H { s with toks:=t }:=I.un (h':=s.heap) (t':=t) Un.refl I.hok
theorem Inv.kept{t':Nat}(I:Inv X pins σ H s)(k:∀b u,s.heap.get? b=some u->h'.get? b=some u):Inv X pins σ H { s with heap:=h',toks:=t' }:=I.un (Un.kept k) (I.hok.kept k)
theorem Inv.laid{a:Addr}{o:HO}{t':Nat}(I:Inv X pins σ H s)(k:∀b u,s.heap.get? b=some u->h'.get? b=some u)(hp:s.heap.objs.size<=a)(new:Zq X.prog X.w (upd H a o) h' a o) :
  Inv X pins σ (upd H a o) { s with heap:=h',toks:=t' }:=I.un (Un.laid k hp (I.hok.fresh hp)) (I.hok.laid k hp new)
theorem Inv.write{x e:Addr}{o:HO}{t':Nat}(I:Inv X pins σ H s)(mu:Mut (H x))(he:e=x∨H e=some (.own x))(k:∀b u,b≠e->s.heap.get? b=some u->h'.get? b=some u)(heo:∃u,h'.get? e=some u)
  (new:Zq X.prog X.w (upd H x o) h' x o):Inv X pins σ (upd H x o) { s with heap:=h',toks:=t' }:=I.un (Un.write mu he k heo) (I.hok.write mu he k heo new)
theorem Inv.weak{σ':List (Option V)}(I:Inv X pins σ H s)(hl : σ'.length = σ.length)(w:∀(i:Nat) v,σ'[i]? = some (some v)->σ[i]? = some (some v)):Inv X pins σ' H s :=
 ⟨I.ok,I.os,I.bare,I.base,let ⟨m,hn,hl'⟩:=I.loc;⟨m,hn,λi x v e1 e2 e3=>hl' i x v e1 (w i v e2) e3⟩,I.cell,I.free,I.freeC,I.pin,I.hok,hl.trans I.len⟩
theorem Inv.pins_of{pins':List (Addr×Obj)}(I:Inv X pins σ H s)(h:∀p∈pins',s.heap.get? p.1=some p.2/\H p.1=none/\p.1≠X.env.locals/\p.1∉X.fs/\∀v,p.2.data≠.cell v):Inv X pins' σ H s :=
 ⟨I.ok,I.os,I.bare,I.base,I.loc,I.cell,I.free,I.freeC,λp hp=>(List.mem_append.mp hp).elim (λz=>I.pin p (mem_append_left _ z)) (h p),I.hok,I.len⟩
theorem ZFC{N:List Str}(hN:N.Nodup){i j:Nat}{x:Str}(a:N[i]? = some x)(b:N[j]? = some x):i=j:=by
 obtain⟨h1,e1⟩:=List.getElem?_eq_some_iff.mp a;obtain⟨h2,e2⟩:=List.getElem?_eq_some_iff.mp b;exact(List.getElem_inj hN).mp (e1.trans e2.symm)
theorem ZF3{M:Model}{A:Around}{E:Value->Shared->Prop}{i:Nat}{x:Str}{v:V}{u:Value}{Q:Unit->Shared->Prop}(I:Inv X pins σ H s)(hN:X.N.Nodup)(hi:X.N[i]? = some x)(hx:Loc X.env.scope x)(r:ZU v u)
  (h:∀s',Inv X pins (σ.set i (some v)) H s'->(∃a,Heap.SameBut a s.heap s'.heap/\(a=X.env.locals∨X.env.cells.lookup x=some a))->Q () s')(hf:X.fn x=true∨X.env.scope.names.lookup x=some .local:=by first|exact .inl rfl|exact .inr rfl|assumption):wpAny M A (storeName X.env x u) Q E s:=by
 obtain⟨m,hn,hl⟩:=id I.loc;have hcls:(X.env.scope.kind == .class || (X.env.scope.kind == .module && X.env.locals != X.env.globals))=false:=by rw[I.ok.kind];rfl
 have hiσ : i<σ.length:=by rw[I.len];exact(List.getElem?_eq_some_iff.mp hi).1
 have cne:=I.cne;have tracked:∀{a:Addr} {h':Heap},(∃o,s.heap.get? a=some o/\H a=none)->Heap.SameBut a s.heap h'->HOk X.prog X.w H h':=λ{a h'} ha hs b ob e=>by
  obtain⟨_,_,hfree⟩:=ha;refine(I.hok b ob e).stay (λc w' hc q=>(hs.2 c ?_).trans q) (λ_ q=>q) λ_ _ q=>q
  rintro rfl
  rcases hc with rfl|hc
  ·rw[hfree] at e;cases e
  ·rw[hfree] at hc;cases hc
 rcases hx with hk|hk
 ·refine wpAny_storeName_local hk hn (λh' hn' hs=>?_) hcls
  obtain⟨oL,_,_,hoL,_⟩:=id hn;refine h _ ⟨I.ok,I.os,I.bare,⟨λb o e n hb hx=>?_,λb o e n hb hx=>?_,I.base.free,λb o e hx=>?_,I.base.tups,I.base.frzs,I.base.tbls⟩,⟨_,hn',λj y v' e1 e2 e3=>?_⟩,λy c e=>?_,I.free,I.freeC,λp hp=>?_,tracked ⟨oL,hoL,I.free⟩ hs,by simpa using I.len⟩ ⟨_,hs,.inl rfl⟩
  ·exact(hs.2 b (ne_of_lt (lt_of_lt_of_le (lt_size e) I.ok.above))).trans (I.base.keep b o e n hb hx)
  ·obtain⟨sl,e1⟩:=I.base.slot b o e n hb hx
   exact⟨sl,(hs.2 b (ne_of_lt (lt_of_lt_of_le (lt_size e) I.ok.above))).trans e1⟩
  ·obtain⟨o',e1⟩:=I.base.there b o e hx
   exact⟨o',(hs.2 b (ne_of_lt (lt_of_lt_of_le (lt_size e) I.ok.above))).trans e1⟩
  ·by_cases hj:j=i
   ·subst hj
    rw[hi] at e1;cases e1;rw[getElem?_set_self hiσ] at e2;cases e2;exact⟨u,r,.inl ⟨hk,by simp⟩⟩
   ·rw[getElem?_set_ne (Ne.symm hj)] at e2
    obtain⟨u',r',q⟩:=hl j y v' e1 e2 e3;refine⟨u',r',?_⟩;rcases q with ⟨k,e⟩|⟨k,c,e,z⟩
    ·refine .inl ⟨k,?_⟩
     have:y≠x:=λe=>hj (ZFC hN e1 (e ▸ hi))
     simp[this,e]
    ·exact .inr ⟨k,c,e,z.sameBut hs (cne y c e)⟩
  ·obtain⟨w',z⟩:=I.cell y c e
   exact⟨w',z.sameBut hs (cne y c e)⟩
  ·obtain⟨e,n,ne,nf,d⟩:=I.pin p hp
   exact⟨(hs.2 p.1 ne).trans e,n,ne,nf,d⟩
 ·have hfn:X.fn x=true:=by
   rcases hf with z|z
   ·exact z
   ·rw[z] at hk;cases hk
  obtain⟨c,hc⟩:=I.ok.has x (.inl hk);obtain⟨w',z⟩:=I.cell x c hc;refine wpAny_storeName_cell I.ok.kind hk hc z (λh' hc' hs=>?_);obtain⟨oc,hoc,hocd⟩:=id z;refine h { s with heap:=h' } ⟨I.ok,I.os,I.bare,⟨λb o e n hb hx=>?_,λb o e n hb hx=>?_,I.base.free,λb o e hx=>?_,I.base.tups,I.base.frzs,I.base.tbls⟩,⟨m,hn.sameBut hs (Ne.symm (cne x c hc)),λj y v' e1 e2 e3=>?_⟩,λy c' e=>?_,I.free,I.freeC,λp hp=>?_,tracked ⟨oc,hoc,I.freeC x c hc⟩ hs,by simpa using I.len⟩ ⟨c,hs,.inr hc⟩
  ·exact(hs.2 b (ne_of_lt (lt_of_lt_of_le (lt_size e) (I.ok.cab x c hfn hc)))).trans (I.base.keep b o e n hb hx)
  ·obtain⟨sl,e1⟩:=I.base.slot b o e n hb hx
   exact⟨sl,(hs.2 b (ne_of_lt (lt_of_lt_of_le (lt_size e) (I.ok.cab x c hfn hc)))).trans e1⟩
  ·obtain⟨o',e1⟩:=I.base.there b o e hx
   exact⟨o',(hs.2 b (ne_of_lt (lt_of_lt_of_le (lt_size e) (I.ok.cab x c hfn hc)))).trans e1⟩
  ·by_cases hj:j=i
   ·subst hj
    rw[hi] at e1;cases e1;rw[getElem?_set_self hiσ] at e2;cases e2;exact⟨u,r,.inr ⟨.inl hk,c,hc,hc'⟩⟩
   ·rw[getElem?_set_ne (Ne.symm hj)] at e2
    obtain⟨u',r',q⟩:=hl j y v' e1 e2 e3;refine⟨u',r',?_⟩;rcases q with q|⟨k,c',e,z'⟩
    ·exact .inl q
    ·refine .inr ⟨k,c',e,z'.sameBut hs ?_⟩
     rintro rfl
     exact hj (ZFC hN e1 (I.ok.inj _ _ _ e hc ▸ hi))
  ·by_cases hcc:c'=c
   ·subst hcc;exact⟨_,hc'⟩
   ·obtain⟨w2,z2⟩:=I.cell y c' e
    exact⟨w2,z2.sameBut hs hcc⟩
  ·obtain⟨e,n,ne,nf,d⟩:=I.pin p hp
   refine⟨(hs.2 p.1 ?_).trans e,n,ne,nf,d⟩;intro q;rw[q,hoc] at e;have q':oc=p.2:=Option.some.inj e;exact d w' (by rw[←q'];exact hocd)
theorem Z8{M:Model}{A:Around}{E:Value->Shared->Prop}{i:Nat}{x:Str}{v:V}{u:Value}{Q:Unit->Shared->Prop}(I:Inv X pins σ H s)(hN:X.N.Nodup)(hi:X.N[i]? = some x)(hx:Loc X.env.scope x)(r:ZU v u)
  (h:∀s',Inv X pins (σ.set i (some v)) H s'->Q () s')(hf:X.fn x=true∨X.env.scope.names.lookup x=some .local:=by first|exact .inl rfl|exact .inr rfl|assumption):wpAny M A (storeName X.env x u) Q E s :=
 ZF3 I hN hi hx r (λs' I' _=>h s' I') hf
theorem Inv.call'{s':Shared}{ch:List Addr}(I:Inv X pins σ H s)(ho:s'.os=s.os)(u:Un (frs X.stack) ch H H' s.heap s'.heap)(hok:HOk X.prog X.w H' s'.heap)(hg:AllBare s'.gens)
  (hch:∀b∈ch,(b∈X.ex∨X.s₀.heap.objs.size<=b)/\b≠X.env.locals/\(∀x c,X.env.cells.lookup x=some c->c≠b)/\∀p∈X.pn++pins,p.1≠b):Inv X pins σ H' s':=by
 obtain⟨h',g',d',t',o'⟩:=s';have e:o'=s.os:=ho;subst e;exact I.call (g':=g') (t':=t') (d':=d') u hok hg hch
end
noncomputable abbrev XK:=Value->Option Addr->Hp->Prop
noncomputable abbrev St:=List (Option V)
noncomputable abbrev VK:=V->Hp->Prop
noncomputable abbrev TE:=St->Hp->VK->Prop
noncomputable abbrev TT:=St->Hp->(Bool->Hp->Prop)->Prop
noncomputable abbrev TA:=St->Hp->(List V->Hp->Prop)->Prop
structure Ends where
 nx:St->Hp->Prop
 rt:VK
 bk:St->Hp->Prop:=λ_ _=>False
 ct:St->Hp->Prop:=λ_ _=>False
noncomputable abbrev TS:=Ends->St->Hp->Prop
noncomputable def EP(X:Cx)(pins:List (Addr×Obj))(σ : St)(Q:VK)(u:Value)(s':Shared):Prop:=∃v H',Inv X pins σ H' s'/\ZU v u/\Q v H'
noncomputable def TP(X:Cx)(pins:List (Addr×Obj))(σ : St)(Q:Bool->Hp->Prop)(b:Bool)(s':Shared):Prop:=∃H',Inv X pins σ H' s'/\Q b H'
noncomputable def AP(X:Cx)(pins:List (Addr×Obj))(σ : St)(Q:List V->Hp->Prop)(us:List Value)(s':Shared):Prop:=∃vs H',Inv X pins σ H' s'/\ZK vs us/\Q vs H'
noncomputable def SP(X:Cx)(pins:List (Addr×Obj))(D:Ends)(f:Flow)(s':Shared):Prop :=
 match f with
 |.next=>∃σ' H',Inv X pins σ' H' s'/\D.nx σ' H'
 |.brk=>∃σ' H',Inv X pins σ' H' s'/\D.bk σ' H'
 |.cont=>∃σ' H',Inv X pins σ' H' s'/\D.ct σ' H'
 |.ret u=>∃v σ' H',Inv X pins σ' H' s'/\ZU v u/\D.rt v H'
noncomputable def PE(X:Cx)(e:Expr)(t:TE):Prop :=
 ∀(pins:List (Addr×Obj)) (s:Shared) (σ : St) (H:Hp) (Q:VK),Inv X pins σ H s->t σ H Q->wpAny (model X.prog X.w) X.A (eval e X.env) (EP X pins σ Q) X.xe s
noncomputable def PT(X:Cx)(e:Expr)(t:TT):Prop :=
 ∀(pins:List (Addr×Obj)) (s:Shared) (σ : St) (H:Hp) (Q:Bool->Hp->Prop),Inv X pins σ H s->t σ H Q->wpAny (model X.prog X.w) X.A (isTrue e X.env (eval e X.env)) (TP X pins σ Q) X.xe s
noncomputable def PW(X:Cx)(e:Expr)(t:TT):Prop :=
 ∀(whole:Sem Value) (pins:List (Addr×Obj)) (s:Shared) (σ : St) (H:Hp) (Q:Bool->Hp->Prop),Inv X pins σ H s->t σ H Q->wpAny (model X.prog X.w) X.A (isTrue e X.env whole) (TP X pins σ Q) X.xe s
theorem PW.pt{X:Cx}{e:Expr}{t:TT}(h:PW X e t):PT X e t:=h _
noncomputable def PA(X:Cx)(es:List Expr)(t:TA):Prop :=
 ∀(pos:Pos) (pins:List (Addr×Obj)) (s:Shared) (σ : St) (H:Hp) (Q:List V->Hp->Prop),Inv X pins σ H s->t σ H Q->wpAny (model X.prog X.w) X.A (spliced (backTo pos (starEach es X.env))) (AP X pins σ Q) X.xe s
noncomputable def PS(X:Cx)(st:Stmt)(t:TS):Prop :=
 ∀(pins:List (Addr×Obj)) (s:Shared) (σ : St) (H:Hp) (D:Ends),Inv X pins σ H s->t D σ H->wpAny (model X.prog X.w) X.A (exec st X.env) (SP X pins D) X.xe s
noncomputable def PSs(X:Cx)(st:List Stmt)(t:TS):Prop :=
 ∀(pins:List (Addr×Obj)) (s:Shared) (σ : St) (H:Hp) (D:Ends),Inv X pins σ H s->t D σ H->wpAny (model X.prog X.w) X.A (execs st X.env) (SP X pins D) X.xe s
theorem thn{α : Type}{t:Sem α}{Q Q' : α->Shared->Prop}{M:Model}{A:Around}{E:Value->Shared->Prop}{s:Shared}(h:wpAny M A t Q E s)(hQ:∀a s,Q a s->Q' a s):wpAny M A t Q' E s:=wpAny_mono h hQ λ_ _ x=>x
section
variable{X:Cx}
noncomputable def tVar(i:Nat):TE:=λσ H Q=>∃v,σ[i]? = some (some v)/\Q v H
noncomputable def tC(v:V):TE:=λ_ H Q=>Q v H
theorem ZQd{i:Nat}{x:Str}{pos:Pos}(hN:X.N[i]? = some x)(hv:Vis X.env.scope x)(hd:(x == ("__debug__" : Str))=false:=by decide)(hcd:(x == ("__classdict__" : Str))=false:=by decide):PE X (.Name x pos) (tVar i):=by
 intro pins s σ H Q I h;obtain⟨v,e,h⟩:=h;obtain⟨m,hn,hl⟩:=I.loc;obtain⟨u,r,l⟩:=hl i x v hN e hv;have fin:EP X pins σ Q u s:=⟨v,H,I,r,h⟩;rcases l with ⟨hk,hm⟩|⟨hk,c,hc,hcell⟩
 ·exact wpAny_Name (wpAny_loadName_local I.ok.kind hk hn hm fin) hd
 ·rcases hk with hk|hk
  ·exact wpAny_Name (wpAny_loadName_cell I.ok.kind hk hc hcell fin) hd
  ·exact wpAny_Name (wpAny_loadName_free I.ok.kind hk hc hcell fin hcd) hd
theorem ZIe{i j pos}:PE X (.Constant (.int i) j pos) (tC (.int i)):=λ_ _ _ H _ I h=>wpAny_Constant_int ⟨.int i,H,I.tok _,⟨_,rfl⟩,h⟩
theorem pe_bl{b j pos}:PE X (.Constant (.bool b) j pos) (tC (.bl b)):=λ_ _ _ H _ I h=>Constant_bool ⟨.bl b,H,I,rfl,h⟩
theorem ZQw{j pos}:PE X (.Constant .none j pos) (tC .non):=λ_ _ _ H _ I h=>Constant_none ⟨.non,H,I,rfl,h⟩
theorem ZQe{x j pos}:PE X (.Constant (.str x) j pos) (tC (.str x)):=λ_ _ _ H _ I h=>Calls.Constant_str ⟨.str x,H,I.tok _,⟨_,rfl⟩,h⟩
noncomputable def Gl(X:Cx)(x:Str):Prop:=X.env.kindOf x=some .globalImplicit
theorem ZBv{E:Value->Shared->Prop}{pins:List (Addr×Obj)}{s:Shared}{σ : St}{H:Hp}{x:Str}{u:Value}{pos:Pos}{Q:Value->Shared->Prop}(I:Inv X pins σ H s)(hg:Gl X x)(hm:X.mg x=some u)(h:Q u s)
  (hd:(x == ("__debug__" : Str))=false:=by decide):wpAny (model X.prog X.w) X.A (eval (.Name x pos) X.env) Q E s :=
 Calls.Name_function_global I.ok.kind hg (Calls.loadGlobal_global (by rw[I.ok.glob];exact I.mod.glob.keeps I.bk) hm h) hd
theorem ZAv{E:Value->Shared->Prop}{pins:List (Addr×Obj)}{s:Shared}{σ : St}{H:Hp}{x:Str}{u:Value}{pos:Pos}{Q:Value->Shared->Prop}(I:Inv X pins σ H s)(hg:Gl X x)(hm:X.mg x=none)(hv:bootBuiltins x=some u)(h:Q u s)
  (hn:x≠"__name__":=by decide)(hd:(x == ("__debug__" : Str))=false:=by decide):wpAny (model X.prog X.w) X.A (eval (.Name x pos) X.env) Q E s:=by
 obtain⟨mb,h1,h2⟩:=I.mod.blt;exact Calls.Name_function_global I.ok.kind hg (Calls.loadGlobal_builtin (by rw[I.ok.glob];exact I.mod.glob.keeps I.bk) hm (by rw[I.ok.blt];exact h1.keeps I.bk) ((h2 x hn).trans hv) h) hd
theorem ZI3{x:Str}{v:V}{u:Value}{pos:Pos}(hg:Gl X x)(hm:X.mg x=some u)(r:ZU v u)(hd:(x == ("__debug__" : Str))=false:=by decide):PE X (.Name x pos) (tC v) :=
 λ_ _ _ H _ I h=>ZBv I hg hm ⟨v,H,I,r,h⟩ hd
theorem ZN0{x:Str}{v:V}{u:Value}{pos:Pos}(hg:Gl X x)(hm:X.mg x=none)(hv:bootBuiltins x=some u)(r:ZU v u)(hn:x≠"__name__":=by decide)(hd:(x == ("__debug__" : Str))=false:=by decide):PE X (.Name x pos) (tC v) :=
 λ_ _ _ H _ I h=>ZAv I hg hm hv ⟨v,H,I,r,h⟩ hn hd
variable{a b:Expr}{ta tb:TE}{pos:Pos}
noncomputable def tB(t:TE):TT:=λσ H Q=>t σ H λx H1=>∃c,x=.bl c/\Q c H1
theorem ZQR{e:Expr}{t:TE}(h:PE X e t)(he:∀whole,isTrue e X.env whole=(do let v ←whole;standAt e.pos;holding [v] (truthy v)):=by intro _;rfl):PT X e (tB t):=by
 intro pins s σ H Q I hw;refine isTrue_plain (thn (h pins s σ H _ I hw) λv s1 ⟨x,H1,I1,r1,q1⟩=>?_) (he _);obtain⟨d,rfl,q⟩:=q1;cases r1;exact wpAny_truthy_bool ⟨H1,I1,q⟩
variable{tA tB':TT}{rest:List Expr}
noncomputable def tAnd(t u:TT):TT:=λσ H Q=>t σ H λc H1=>if c=true then u σ H1 Q else Q false H1
noncomputable def tOr(t u:TT):TT:=λσ H Q=>t σ H λc H1=>if c=true then Q true H1 else u σ H1 Q
noncomputable def tNot(t:TT):TT:=λσ H Q=>t σ H λc H1=>Q (!c) H1
theorem ZPB(ha:PT X a tA):PW X (.BoolOp .And [a] pos) tA:=by
 intro wh pins s σ H Q I h;refine isTrue_and (thn (ha pins s σ H Q I h) λc s1 e=>?_);cases c with
 |true=>exact isTrue_and_nil e
 |false=>exact e
theorem ZRh(ha:PT X a tA):PW X (.BoolOp .Or [a] pos) tA:=by
 intro wh pins s σ H Q I h;refine isTrue_or (thn (ha pins s σ H Q I h) λc s1 e=>?_);cases c with
 |false=>exact isTrue_or_nil e
 |true=>exact e
theorem ZQ4(ha:PT X a tA)(hb:PW X (.BoolOp .And (b::rest) pos) tB'):PW X (.BoolOp .And (a::b::rest) pos) (tAnd tA tB'):=by
 intro wh pins s σ H Q I h;refine isTrue_and (thn (ha pins s σ H _ I h) λc s1 ⟨H1,I1,q1⟩=>?_);cases c with
 |true=>exact hb wh pins s1 σ H1 Q I1 q1
 |false=>exact⟨H1,I1,q1⟩
theorem pw_or(ha:PT X a tA)(hb:PW X (.BoolOp .Or (b::rest) pos) tB'):PW X (.BoolOp .Or (a::b::rest) pos) (tOr tA tB'):=by
 intro wh pins s σ H Q I h;refine isTrue_or (thn (ha pins s σ H _ I h) λc s1 ⟨H1,I1,q1⟩=>?_);cases c with
 |true=>exact⟨H1,I1,q1⟩
 |false=>exact hb wh pins s1 σ H1 Q I1 q1
theorem ZR8(ha:PT X a tA):PT X (.UnaryOp .Not a pos) (tNot tA):=by
 intro pins s σ H Q I h;exact isTrue_not (ha pins s σ H (λc H1=>Q (!c) H1) I h)
noncomputable def tAndV(ta tb:TE):TE:=λσ H Q=>ta σ H λx H1=>∃c,x=.bl c/\if c=true then tb σ H1 Q else Q (.bl false) H1
noncomputable def tOrV(ta tb:TE):TE:=λσ H Q=>ta σ H λx H1=>∃c,x=.bl c/\if c=true then Q (.bl true) H1 else tb σ H1 Q
noncomputable def tNotV(ta:TE):TE:=λσ H Q=>ta σ H λx H1=>∃c,x=.bl c/\Q (.bl (!c)) H1
theorem ZRQ{op}{t:TE}(h:PE X a t):PE X (.BoolOp op [a] pos) t:=λpins s σ H Q I hw=>BoolOp_one (h pins s σ H Q I hw)
theorem ZRK(ha:PE X a ta)(hb:PE X (.BoolOp .And (b::rest) pos) tb):PE X (.BoolOp .And (a::b::rest) pos) (tAndV ta tb):=by
 intro pins s σ H Q I h;refine BoolOp_and (thn (ha pins s σ H _ I h) λv s1 ⟨x,H1,I1,r1,q1⟩=>?_);obtain⟨c,rfl,q1⟩:=q1;cases r1;refine wpAny_truthy_bool ?_;cases c with
 |true=>exact hb pins s1 σ H1 Q I1 q1
 |false=>exact⟨.bl false,H1,I1,rfl,q1⟩
theorem pe_or(ha:PE X a ta)(hb:PE X (.BoolOp .Or (b::rest) pos) tb):PE X (.BoolOp .Or (a::b::rest) pos) (tOrV ta tb):=by
 intro pins s σ H Q I h;refine BoolOp_or (thn (ha pins s σ H _ I h) λv s1 ⟨x,H1,I1,r1,q1⟩=>?_);obtain⟨c,rfl,q1⟩:=q1;cases r1;refine wpAny_truthy_bool ?_;cases c with
 |false=>exact hb pins s1 σ H1 Q I1 q1
 |true=>exact⟨.bl true,H1,I1,rfl,q1⟩
theorem ZR5(ha:PE X a ta):PE X (.UnaryOp .Not a pos) (tNotV ta):=by
 intro pins s σ H Q I h;refine UnaryOp_ (thn (ha pins s σ H _ I h) λv s1 ⟨x,H1,I1,r1,q1⟩=>?_);obtain⟨c,rfl,q1⟩:=q1;cases r1;exact not_of (wpAny_truthy_bool ⟨.bl (!c),H1,I1,rfl,q1⟩)
noncomputable def tIf(t:TT)(ta tb:TE):TE:=λσ H Q=>t σ H λc H1=>if c=true then ta σ H1 Q else tb σ H1 Q
theorem ZLx{c:Expr}(hc:PT X c tA)(ha:PE X a ta)(hb:PE X b tb):PE X (.IfExp c a b pos) (tIf tA ta tb):=by
 intro pins s σ H Q I h;refine wpAny_IfExp (thn (hc pins s σ H _ I h) λd s1 ⟨H1,I1,q1⟩=>?_);cases d with
 |true=>exact ha pins s1 σ H1 Q I1 q1
 |false=>exact hb pins s1 σ H1 Q I1 q1
end
noncomputable def SqL(K:PySem.W.Frag)(H:Hp)(a:Addr)(xs:List V):Prop :=
 Rd H a (.lst xs) ∨
  ∃(o:Obj) (its:Array Value) (n:Nat),K.lookup a=some o/\o.cls=.type "list"/\o.dict=none/\o.data=.seq its n/\its.size<=sizeLine/\ZK xs its.toList
noncomputable def SqT(K:PySem.W.Frag)(H:Hp)(a:Addr)(xs:List V):Prop :=
 Rd H a (.tup xs) ∨
  ∃(o:Obj) (its:Array Value) (n:Nat),K.lookup a=some o/\o.cls=.type "tuple"/\o.data=.seq its n/\its.size<=sizeLine/\ZK xs its.toList
noncomputable def absV:Value->Option V
 |.none=>some .non
 |.bool b=>some (.bl b)
 |.int i _=>some (.int i)
 |.str x _=>some (.str x)
 |.bytes b _=>some (.byt b)
 |.float b _=>some (.flt b)
 |.ref a=>some (.ref a)
 |.type n=>some (.ty n)
 |_=>none
theorem ZU.abs{x:V}{u:Value}(r:ZU x u):absV u=some x:=by
 cases x with
 |non=>cases r;rfl
 |bl _=>cases r;rfl
 |int _=>obtain⟨t,rfl⟩:=r;rfl
 |str _=>obtain⟨t,rfl⟩:=r;rfl
 |byt _=>obtain⟨t,rfl⟩:=r;rfl
 |flt _=>obtain⟨t,rfl⟩:=r;rfl
 |ref _=>cases r;rfl
 |ty _=>cases r;rfl
theorem ZU.inj{x y:V}{u:Value}(r:ZU x u)(q:ZU y u):x=y:=Option.some.inj (r.abs.symm.trans q.abs)
theorem ZK.inj:∀{xs ys:List V} {us:List Value},ZK xs us->ZK ys us->xs=ys
 |_,_,_,.nil,.nil=>rfl
 |_,_,_,.cons r t,.cons r' t'=>by rw[r.inj r',ZK.inj t t']
section
variable{X:Cx}{pins:List (Addr×Obj)}{σ : St}{H:Hp}{s:Shared}{a:Addr}{xs ys:List V}
theorem SqL.of{K:PySem.W.Frag}(h:H a=some (.lst xs)):SqL K H a xs:=.inl (.inl h)
theorem SqT.of{K:PySem.W.Frag}(h:H a=some (.tup xs)):SqT K H a xs:=.inl (.inl h)
theorem Inv.list(I:Inv X pins σ H s)(h:SqL X.K H a xs):∃its:List Value,ZK xs its/\PlainL s.heap a its.toArray/\xs.length<=sizeLine:=by
 rcases h with h|⟨o,its,n,hk,hc,hd,hs,hz,r⟩
 ·obtain⟨z,its,n,r,e⟩:=h.ok I.hok
  exact⟨its,r,⟨_,n,e,rfl,rfl,rfl⟩,z⟩
 ·refine⟨its.toList,r,⟨o,n,I.kIn a o hk,hc,hd,by simpa using hs⟩,?_⟩
  have e:=r.length;simp only[Array.length_toList] at e;omega
theorem Inv.tuple(I:Inv X pins σ H s)(h:SqT X.K H a xs):∃its:List Value,ZK xs its/\IsTup s.heap a its.toArray/\xs.length<=sizeLine:=by
 rcases h with h|⟨o,its,n,hk,hc,hs,hz,r⟩
 ·obtain⟨z,its,r,p⟩:=h.ok I.hok
  exact⟨its,r,p,z⟩
 ·refine⟨its.toList,r,⟨o,I.kIn a o hk,hc,n,by simpa using hs⟩,?_⟩
  have e:=r.length;simp only[Array.length_toList] at e;omega
theorem Inv.list_inj(I:Inv X pins σ H s)(h:SqL X.K H a xs)(h':SqL X.K H a ys):xs=ys:=by
 obtain⟨its,r,⟨o,n,e,_,_,d⟩,_⟩:=I.list h;obtain⟨its',r',⟨o',n',e',_,_,d'⟩,_⟩:=I.list h';rw[e] at e';cases e';rw[d] at d';injection d' with d1 _
 have:its=its':=by simpa using congrArg Array.toList d1
 subst this
 exact r.inj r'
theorem Inv.tuple_inj(I:Inv X pins σ H s)(h:SqT X.K H a xs)(h':SqT X.K H a ys):xs=ys:=by
 obtain⟨its,r,⟨o,e,_,n,d⟩,_⟩:=I.tuple h;obtain⟨its',r',⟨o',e',_,n',d'⟩,_⟩:=I.tuple h';rw[e] at e';cases e';rw[d] at d';injection d' with d1 _
 have:its=its':=by simpa using congrArg Array.toList d1
 subst this
 exact r.inj r'
end
noncomputable abbrev Cx.wish(X:Cx)(E:Value->Shared->Prop):Cx:={ X with xe:=E }
noncomputable abbrev Cx.nox(X:Cx):Cx:=X.wish λ_ _=>False
theorem Cx.Ok.wish{X:Cx}(ok:X.Ok)(E:Value->Shared->Prop):(X.wish E).Ok :=
 ⟨ok.mod,ok.kind,ok.glob,ok.blt,ok.above,ok.inj,ok.has,ok.cab,ok.hd,ok.frames,ok.stk,ok.exf,ok.bs,ok.bsz,ok.noex,ok.exfs,ok.funs,ok.frf⟩
theorem Cx.Ok.unwish{X:Cx}{E:Value->Shared->Prop}(ok:(X.wish E).Ok):X.Ok :=
 ⟨ok.mod,ok.kind,ok.glob,ok.blt,ok.above,ok.inj,ok.has,ok.cab,ok.hd,ok.frames,ok.stk,ok.exf,ok.bs,ok.bsz,ok.noex,ok.exfs,ok.funs,ok.frf⟩
section
variable{X:Cx}{pins:List (Addr×Obj)}{σ : St}{H:Hp}{s:Shared}{E:Value->Shared->Prop}
theorem Inv.wish(I:Inv X pins σ H s)(E:Value->Shared->Prop):Inv (X.wish E) pins σ H s:=⟨I.ok.wish E,I.os,I.bare,I.base,I.loc,I.cell,I.free,I.freeC,I.pin,I.hok,I.len⟩
theorem Inv.unwish(I:Inv (X.wish E) pins σ H s):Inv X pins σ H s:=⟨I.ok.unwish,I.os,I.bare,I.base,I.loc,I.cell,I.free,I.freeC,I.pin,I.hok,I.len⟩
theorem SP.unwish{D:Ends}{f:Flow}{s':Shared}(h:SP (X.wish E) pins D f s'):SP X pins D f s':=by
 cases f with
 |next=>obtain⟨σ',H',I,q⟩:=h;exact⟨σ',H',I.unwish,q⟩
 |brk=>obtain⟨σ',H',I,q⟩:=h;exact⟨σ',H',I.unwish,q⟩
 |cont=>obtain⟨σ',H',I,q⟩:=h;exact⟨σ',H',I.unwish,q⟩
 |ret u=>obtain⟨v,σ',H',I,r,q⟩:=h;exact⟨v,σ',H',I.unwish,r,q⟩
theorem PSs.nox{st:List Stmt}{t:TS}(h:PSs X.nox st t):PSs X st t:=λpins s σ H D I hw =>
 wpAny_mono (h pins s σ H D (I.wish _) hw) (λ_ _ q=>q.unwish) λ_ _ z=>False.elim z
end
section
variable{X:Cx}{st:Stmt}{rest:List Stmt}{t u:TS}{e:Expr}{te:TE}{pos:Pos}
noncomputable def tNext:TS:=λD σ H=>D.nx σ H
noncomputable def tSeq(t u:TS):TS:=λD σ H=>t { D with nx:=u D } σ H
theorem ZJd:PSs X [] tNext:=λ_ _ σ H _ I h=>wpAny_execs_nil ⟨σ,H,I,h⟩
theorem ZHK(h1:PS X st t)(h2:PSs X rest u):PSs X (st::rest) (tSeq t u):=by
 intro pins s σ H D I h;refine wpAny_execs_cons (thn (h1 pins s σ H { D with nx:=u D } I h) λf s1 q=>?_);cases f with
 |next =>
  obtain⟨σ',H',I',q⟩:=q;exact h2 pins s1 σ' H' D I' q
 |ret v=>exact q
 |brk=>exact q
 |cont=>exact q
theorem ZI7(h1:PS X st t):PSs X [st] t:=by
 intro pins s σ H D I h;refine wpAny_execs_cons (thn (h1 pins s σ H D I h) λf s1 q=>?_);cases f with
 |next=>exact wpAny_execs_nil q
 |ret v=>exact q
 |brk=>exact q
 |cont=>exact q
theorem Inv.quiet{pins:List (Addr×Obj)}{σ : St}{H:Hp}{s:Shared}(I:Inv X pins σ H s):interactive X.env=false:=by simp[interactive,I.ok.kind]
noncomputable def tDrop(te:TE):TS:=λD σ H=>te σ H λ_ H1=>D.nx σ H1
theorem ZOI(he:PE X e te)(hs:swapsWith e none pos.line X.env=pure false:=by rfl):PS X (.Expr e pos) (tDrop te):=by
 intro pins s σ H D I h;exact wpAny_Expr_any (thn (he pins s σ H _ I h) λv s1 ⟨x,H1,I1,r1,q1⟩=>⟨σ,H1,I1,q1⟩) I.quiet hs
noncomputable def tRet(te:TE):TS:=λD σ H=>te σ H D.rt
theorem ZNU(he:PE X e te):PS X (.Return (some e) pos) (tRet te):=by
 intro pins s σ H D I h;exact wpAny_Return_some (thn (he pins s σ H _ I h) λv s1 ⟨x,H1,I1,r1,q1⟩=>⟨x,σ,H1,I1,r1,q1⟩)
noncomputable def tIfS(c:TT)(t u:TS):TS:=λD σ H=>c σ H λb H1=>if b=true then t D σ H1 else u D σ H1
theorem ZPc{c:Expr}{a b:List Stmt}{tc:TT}(hc:PT X c tc)(ha:PSs X a t)(hb:PSs X b u):PS X (.If c a b pos) (tIfS tc t u):=by
 intro pins s σ H D I h;refine wpAny_If (thn (hc pins s σ H _ I h) λd s1 ⟨H1,I1,q1⟩=>?_);cases d with
 |true=>exact ha pins s1 σ H1 D I1 q1
 |false=>exact hb pins s1 σ H1 D I1 q1
end
noncomputable abbrev TG:=V->St->Hp->(St->Hp->Prop)->Prop
noncomputable abbrev TGs:=List V->St->Hp->(St->Hp->Prop)->Prop
noncomputable def PG(X:Cx)(target:Expr)(t:TG):Prop :=
 ∀(pins:List (Addr×Obj)) (s:Shared) (σ : St) (H:Hp) (v:V) (u:Value) (Q:St->Hp->Prop),Inv X pins σ H s->ZU v u->t v σ H Q ->
  wpAny (model X.prog X.w) X.A (assign target X.env u) (λ_ s'=>∃σ' H',Inv X pins σ' H' s'/\Q σ' H') X.xe s
noncomputable def PGs(X:Cx)(ts:List Expr)(t:TGs):Prop :=
 ∀(pins:List (Addr×Obj)) (s:Shared) (σ : St) (H:Hp) (vs:List V) (us:List Value) (Q:St->Hp->Prop),Inv X pins σ H s->ZK vs us->t vs σ H Q ->
  wpAny (model X.prog X.w) X.A (assignInOrder ((assignEach ts X.env).map (·.2)) us) (λ_ s'=>∃σ' H',Inv X pins σ' H' s'/\Q σ' H') X.xe s
noncomputable abbrev ZQn:=V->V->V->Hp->(Hp->Prop)->Prop
noncomputable def ZQy(X:Cx)(t:ZQn):Prop :=
 ∀(pins:List (Addr×Obj)) (s:Shared) (σ : St) (H:Hp) (o i v:V) (ov iv u:Value) (Q:Hp->Prop),Inv X pins σ H s->ZU o ov->ZU i iv->ZU v u->t o i v H Q ->
  wpAny (model X.prog X.w) X.A (setItem ov iv u) (λ_ s'=>∃H',Inv X pins σ H' s'/\Q H') X.xe s
section
variable{X:Cx}{pos:Pos}
noncomputable def ZHe(i:Nat):TG:=λv σ H Q=>Q (σ.set i (some v)) H
theorem ZPM{i:Nat}{x:Str}(hN:X.N.Nodup)(hi:X.N[i]? = some x)(hx:Loc X.env.scope x)(hf:X.fn x=true∨X.env.scope.names.lookup x=some .local:=by first|exact .inl rfl|exact .inr rfl|assumption):PG X (.Name x pos) (ZHe i):=by
 intro pins s σ H v u Q I r h;exact wpAny_assign_Name (Z8 I hN hi hx r (λs' I'=>⟨_,H,I',h⟩) hf)
noncomputable def ZSI:TGs:=λvs σ H Q=>vs=[]/\Q σ H
noncomputable def ZPf(t:TG)(u:TGs):TGs:=λvs σ H Q=>∃v r,vs=v::r/\t v σ H λσ' H'=>u r σ' H' Q
theorem ZJy:PGs X [] ZSI:=by
 intro pins s σ H vs us Q I r h;obtain⟨e,h⟩:=h;subst e;cases r;exact assignInOrder_nil ⟨σ,H,I,h⟩
theorem ZFG{e:Expr}{es:List Expr}{t:TG}{u:TGs}(h1:PG X e t)(h2:PGs X es u)
  (hs:(assignEach (e::es) X.env).map (·.2)=assign e X.env::(assignEach es X.env).map (·.2):=by rfl):PGs X (e::es) (ZPf t u):=by
 intro pins s σ H vs us Q I r h;obtain⟨v,vr,e1,h⟩:=h;subst e1;cases r with
 |cons r rr =>
  rw[hs];refine assignInOrder_cons (thn (h1 pins s σ H _ _ _ I r h) λ_ s1 ⟨σ1,H1,I1,q1⟩=>?_);exact h2 pins s1 σ1 H1 _ _ Q I1 rr q1
noncomputable def ZSW(K:PySem.W.Frag)(n:Nat)(t:TGs):TG:=λv σ H Q=>∃a xs,v=.ref a/\SqT K H a xs/\xs.length=n/\t xs σ H Q
theorem ZMb{es:List Expr}{k:Nat}{t:TGs}{n:Nat}(hc:X.calm=true)(h:PGs X es t)
  (hn:(assignEach es X.env).length=n:=by rfl)(hst:(assignEach es X.env).findIdx? (·.1)=none:=by rfl):PG X (.Tuple es k pos) (ZSW X.K n t):=by
 intro pins s σ H v u Q I r hw;obtain⟨a,xs,e1,hq,hl,hw⟩:=hw;subst e1;cases r;obtain⟨its,rv,ht,hz⟩:=I.tuple hq;refine assign_Tuple_tuple (I.ok.hd hc) ht (by simp[hn,←hl,rv.length]) hst λh' hx=>?_
 have I1:Inv X pins σ H { s with heap:=h' }:=I.kept (t':=s.toks) λb o e=>hx b o (ne_of_lt (lt_size e)) e
 exact h pins _ σ H xs _ Q I1 (by simpa using rv) hw
noncomputable def gSub(to ti:TE)(t:ZQn):TG:=λv σ H Q=>to σ H λo H1=>ti σ H1 λi H2=>t o i v H2 λH3=>Q σ H3
theorem ZGx{o i:Expr}{to ti:TE}{t:ZQn}(ho:PE X o to)(hi:PE X i ti)(hs:ZQy X t)
  (ha:∀ v,assign (.Subscript o i pos) X.env v=(do
   let ov ←holding [v] (eval o X.env)
   let iv ←holding [v,ov] (eval i X.env)
   standAt pos
   holding [v,ov,iv] (setItem ov iv v)
   release [v,ov,iv] []):=by intro _;rfl):PG X (.Subscript o i pos) (gSub to ti t):=by
 intro pins s σ H v u Q I r h;rw[ha];refine wpAny_bind (wpAny_holding (thn (ho pins s σ H _ I h) λov s1 ⟨x,H1,I1,r1,q1⟩=>?_));refine wpAny_bind (wpAny_holding (thn (hi pins s1 σ H1 _ I1 q1) λiv s2 ⟨y,H2,I2,r2,q2⟩=>?_));refine wpAny_bind (wpAny_standAt (wpAny_bind (wpAny_holding (thn (hs pins s2 σ H2 x y v ov iv u _ I2 r1 r2 r q2) λ_ s3 ⟨H3,I3,q3⟩=>?_))));exact wpAny_release ⟨σ,H3,I3,q3⟩
noncomputable def ZQg(te:TE)(g:TG):TS:=λD σ H=>te σ H λx H1=>g x σ H1 D.nx
theorem ZGP{tg e:Expr}{te:TE}{g:TG}(he:PE X e te)(hg:PG X tg g)(hs:swapsWithSole [tg] e pos.line X.env=pure false:=by rfl)(hw:swappedStores [tg] e X.env=pure none:=by rfl)
  (h1:(assignEach [tg] X.env).map (·.2)=[assign tg X.env]:=by rfl):PS X (.Assign [tg] e pos) (ZQg te g):=by
 intro pins s σ H D I h;refine wpAny_Assign_stores (thn (he pins s σ H _ I h) λv s1 ⟨x,H1,I1,r1,q1⟩=>?_) hs hw;rw[h1];exact thn (hg pins s1 σ H1 x v _ I1 r1 q1) λ_ s2 q=>q
theorem ZLp{i:Nat}{x:Str}{e:Expr}{te:TE}{pos':Pos}(hN:X.N.Nodup)(hi:X.N[i]? = some x)(hx:Loc X.env.scope x)(he:PE X e te)(hs:swapsWith e (some (.Name x pos')) pos.line X.env=pure false:=by rfl)(hf:X.fn x=true∨X.env.scope.names.lookup x=some .local:=by first|exact .inl rfl|exact .inr rfl|assumption) :
  PS X (.Assign [.Name x pos'] e pos) (ZQg te (ZHe i)):=by
 intro pins s σ H D I h;refine wpAny_Assign_Name (thn (he pins s σ H _ I h) λv s1 ⟨y,H1,I1,r1,q1⟩=>?_) hs;exact Z8 I1 hN hi hx r1 (λs2 I2=>⟨_,H1,I2,q1⟩) hf
noncomputable def ZST(i j:Nat)(ta:TA):TS:=λD σ H=>ta σ H λvs H1=>∃v w,vs=[v,w]/\D.nx ((σ.set i (some v)).set j (some w)) H1
theorem ZSF{i j:Nat}{x y:Str}{a b:Expr}{ta:TA}{px py pt:Pos}{kt k2 pt2}(hc:X.calm=true)(hN:X.N.Nodup)(hi:X.N[i]? = some x)(hj:X.N[j]? = some y)(hij:i≠j)
  (hx:X.env.scope.names.lookup x=some .local)(hy:X.env.scope.names.lookup y=some .local)(ha:PA X [a,b] ta)
  (hw:swappedStores [.Tuple [.Name x px,.Name y py] kt pt] (.Tuple [a,b] k2 pt2) X.env=pure (some [x,y]))
  (hs:swapsWithSole [.Tuple [.Name x px,.Name y py] kt pt] (.Tuple [a,b] k2 pt2) pos.line X.env=pure false:=by rfl) :
  PS X (.Assign [.Tuple [.Name x px,.Name y py] kt pt] (.Tuple [a,b] k2 pt2) pos) (ZST i j ta):=by
 intro pins s σ H D I h;rw[exec_Assign_arm];refine wpAny_bind (wpAny_standAt ?_);rw[hs];refine wpAny_bind (wpAny_pure ?_);rw[if_neg (by decide)];refine wpAny_bind (Tuple_ (thn (ha _ pins s σ H _ I h) λus s1 ⟨vs,H1,I1,r1,q1⟩=>?_));obtain⟨v,w,e1,q1⟩:=q1;subst e1;obtain⟨u1,u2,rfl,rv,rw'⟩:∃u1 u2,us=[u1,u2]/\ZU v u1/\ZU w u2:=by
  cases r1 with
  |cons p q =>
   cases q with
   |cons p' q' =>
    cases q';exact⟨_,_,rfl,p,p'⟩
 refine wpAny_newObj_type ?_ (by show 2<=sizeLine;decide);have I2:Inv X pins σ H1 { s1 with heap:=s1.heap.push { cls:=.type "tuple",data:=.seq [u1,u2].toArray } }:=I1.kept (t':=s1.toks) λb o e=>get?_push_of_some _ e
 rw[hw];refine wpAny_bind (wpAny_pure ?_);show wpAny (model X.prog X.w) X.A (do rule "assign.swapped-stores";let items ←unpackItems (.ref s1.heap.objs.size) 2 none;assignInOrder [λv=>bindName X.env y v,λv=>bindName X.env x v] items.reverse;pure Flow.next) _ _ _;refine wpAny_bind (wpAny_rule (wpAny_bind (unpackItems_tuple (items:=#[u1,u2]) (I.ok.hd hc) (IsTup.new s1.heap _) λh' hx'=>?_)));have I3:=I2.kept (h':=h') (t':=s1.toks) λb o e=>hx' b o (ne_of_lt (lt_size e)) e
 show wpAny _ _ (assignInOrder [λv=>bindName X.env y v,λv=>bindName X.env x v] [u2,u1] >>= λ_=>pure Flow.next) _ _ _;refine wpAny_bind (assignInOrder_cons (wpAny_bindName (Z8 I3 hN hj (.inl hy) rw' (λs2 I4=>?_) (.inr hy))));refine assignInOrder_cons (wpAny_bindName (Z8 I4 hN hi (.inl hx) rv (λs3 I5=>assignInOrder_nil (wpAny_pure ?_)) (.inr hx)));rw[List.set_comm _ _ (Ne.symm hij)] at I5;exact⟨_,H1,I5,q1⟩
end
structure It where
 go:Nat->Hp->Prop
 yld:Nat->Hp->V->Hp->Prop
 stop:Nat->Hp->Prop
noncomputable def ZCw(X:Cx)(pins:List (Addr×Obj))(H:Hp)(b:Addr):Prop :=
 H b=none/\b≠X.env.locals/\b∉X.fs/\(b∈X.ex∨X.s₀.heap.objs.size<=b)/\(∀x c,X.env.cells.lookup x=some c->c≠b)/\∀p∈X.pn++pins,p.1≠b
theorem Inv.fpOk{X:Cx}{pins:List (Addr×Obj)}{σ : St}{H H':Hp}{s:Shared}{b:Addr}(I:Inv X pins σ H s)(hb:s.heap.objs.size<=b)(hn:H' b=none):ZCw X pins H' b:=by
 refine⟨hn,ne_of_gt (lt_of_lt_of_le I.lt hb),I.nofs hb,.inr (le_trans I.sz hb),λx c e z=>?_,λp hp z=>?_⟩
 ·obtain⟨v,q⟩:=I.cell x c e
  exact absurd (lt_of_lt_of_le q.lt (by rw[z];exact hb)) (lt_irrefl _)
 ·exact absurd (lt_of_lt_of_le (lt_size (I.pin p hp).1) (by rw[z];exact hb)) (lt_irrefl _)
structure Turn (P:Program) (w:World) (K:PySem.W.Frag) (tg:Expr) (J:It) (fp:List Addr) (it:Addr) (tn:Nat->Heap->Prop):Prop where
  mem:it∈fp
  obj:∀i h,tn i h->∀b∈fp,∃o,h.get? b=some o/\∀v,o.data≠.cell v
  keep:∀i h h',tn i h->(∀b∈fp,∀o,h.get? b=some o->h'.get? b=some o)->tn i h'
  item:∀(X:Cx),X.prog=P->X.w=w->X.K=K->X.calm=true->∀(i:Nat) (pins:List (Addr×Obj)) (s:Shared) (σ : St) (H:Hp) (E:Value->Shared->Prop),Inv X pins σ H s->(∀b∈fp,ZCw X pins H b)->tn i s.heap->J.go i H ->
    wpAny (model P w) X.A (pyNext (.ref it)) (λ r s1=>∃ u,r=some u /\
      wpAny (model P w) X.A (letOwnedTupleGo tg (.ref it) u) (λ_ s2=>∃x H',Inv X pins σ H' s2/\ZU x u/\J.yld i H x H'/\tn (i+1) s2.heap/\∀b∈fp,H' b=none) E s1) E s
  done:∀(X:Cx),X.prog=P->X.w=w->X.K=K->X.calm=true->∀(i:Nat) (pins:List (Addr×Obj)) (s:Shared) (σ : St) (H:Hp) (E:Value->Shared->Prop),Inv X pins σ H s->(∀b∈fp,ZCw X pins H b)->tn i s.heap->J.stop i H ->
    wpAny (model P w) X.A (pyNext (.ref it)) (λr s1=>r=none/\Inv X pins σ H s1) E s
  self:∀(A:Around) (i:Nat) (s:Shared) (Q:Value->Shared->Prop) (E:Value->Shared->Prop),tn i s.heap->Q (.ref it) s->wpAny (model P w) A (pyIter (.ref it)) Q E s
noncomputable abbrev TI:=St->Hp->(It->Hp->Prop)->Prop
noncomputable def PIE(X:Cx)(pins:List (Addr×Obj))(σ : St)(tg:Expr)(R:It->Hp->Prop)(itv:Value)(s2:Shared):Prop :=
 ∃(it:Addr) (fp:List Addr) (tn:Nat->Heap->Prop) (J:It) (H':Hp),itv=.ref it/\Inv X pins σ H' s2/\Turn X.prog X.w X.K tg J fp it tn/\tn 0 s2.heap/\(∀b∈fp,ZCw X pins H' b)/\R J H'
noncomputable def PI(X:Cx)(tg iter:Expr)(wi:TI):Prop :=
 ∀(pins:List (Addr×Obj)) (s:Shared) (σ : St) (H:Hp) (R:It->Hp->Prop),Inv X pins σ H s->wi σ H R ->
  wpAny (model X.prog X.w) X.A (eval iter X.env) (λv s1=>wpAny (model X.prog X.w) X.A (pyIter v) (PIE X pins σ tg R) X.xe s1) X.xe s
theorem ZJO{M:Model}{A:Around}{E:Value->Shared->Prop}{s:Shared}{tg:Expr}{it:Addr}{u:Value}{o:Obj}{n:String}{vs:Array Value}{Q:Unit->Shared->Prop}(ho:s.heap.get? it=some o)(hc:o.cls=.type n)(hd:o.data=.fields vs)
    (hn:["enumerate","zip","dict_itemiterator","dict_reverseitemiterator","odict_iterator","itertools.zip_longest","itertools.pairwise"].contains n=false)(hQ:Q () s):wpAny M A (letOwnedTupleGo tg (.ref it) u) Q E s:=by
  unfold letOwnedTupleGo;cases tg <;> first
    |exact wpAny_pure hQ
    | (cases u <;> first
        |exact wpAny_pure hQ
        | (refine wpAny_bind (wpAny_load ho ?_)
           rw[hc,hd];show wpAny M A (if (["enumerate","zip","dict_itemiterator","dict_reverseitemiterator","odict_iterator","itertools.zip_longest","itertools.pairwise"].contains n && vs[0]? == some (rawInt _))=true then _ else _) Q E s;rw[if_neg (by intro h;rw[hn,Bool.false_and] at h;cases h)];exact wpAny_pure hQ))
noncomputable def Itl(K:PySem.W.Frag)(a:Addr):It :=
 ⟨λi H=>∃xs x,SqL K H a xs/\xs[i]? = some x,λi H x H'=>H'=H/\∀xs,SqL K H a xs->xs[i]? = some x,λi H=>∃xs,SqL K H a xs/\xs.length<=i⟩
noncomputable def Itt(K:PySem.W.Frag)(a:Addr):It :=
 ⟨λi H=>∃xs x,SqT K H a xs/\xs[i]? = some x,λi H x H'=>H'=H/\∀xs,SqT K H a xs->xs[i]? = some x,λi H=>∃xs,SqT K H a xs/\xs.length<=i⟩
noncomputable def Itr(lo:Int)(n:Nat):It:=⟨λi _=>i<n,λi H x H'=>H'=H/\x=.int (lo+i),λi _=>n<=i⟩
theorem ZKw{P:Program}{w:World}{K:PySem.W.Frag}{tg:Expr}(a it:Addr):Turn P w K tg (Itl K a) [it] it (λi h=>h.IsListIter it a i) where
 mem:=by simp
 obj:=λi h st b hb=>by
  have e:b=it:=by simpa using hb
  subst e;obtain⟨o,e,c,d⟩:=st;exact⟨o,e,λv z=>by rw[d] at z;cases z⟩
 keep:=λi h h' st k=>st.at λo e=>k it (by simp) o e
 item:=by
  intro X hP hw hK hc i pins s σ H E I hf st hg;subst hP hw hK;obtain⟨xs,x,hq,hx⟩:=hg;obtain⟨its,rv,p,hz⟩:=I.list hq;obtain⟨u,hu,ru⟩:=rv.get hx;obtain⟨f0,f1,f2,f3,f4,f5⟩:=hf it (by simp);refine wpAny_pyNext_list_item st p.isList (x:=u) (by simpa using hu) λh' st' sb=>?_
  have I1:Inv X pins σ H { s with heap:=h' }:=I.turned (t':=s.toks) (λb o hb e=>(sb.2 b hb).trans e) f0 f1 f3 f4 f5;obtain⟨o,e,c,d⟩:=id st';exact⟨u,rfl,ZJO (s:={ s with heap:=h' }) e c d (by decide) ⟨x,H,I1,ru,⟨rfl,λys hy=>by rw[I.list_inj hy hq];exact hx⟩,st',λb hb=>(hf b hb).1⟩⟩
 done:=by
  intro X hP hw hK hc i pins s σ H E I hf st hg;subst hP hw hK;obtain⟨xs,hq,hx⟩:=hg;obtain⟨its,rv,p,hz⟩:=I.list hq;obtain⟨f0,f1,f2,f3,f4,f5⟩:=hf it (by simp);have hl:=rv.length;exact wpAny_pyNext_list_end (I.ok.hd hc) st p.isList (by simp;omega) λh' eb=>⟨rfl,I.turned (t':=s.toks) (λb o hb e=>eb b o hb e) f0 f1 f3 f4 f5⟩
 self:=λ_ _ _ _ _ st h=>wpAny_pyIter_listiter st h
theorem ZIC{P:Program}{w:World}{K:PySem.W.Frag}{tg:Expr}(a it:Addr):Turn P w K tg (Itt K a) [it] it (λi h=>h.IsTupleIter it a i) where
 mem:=by simp
 obj:=λi h st b hb=>by
  have e:b=it:=by simpa using hb
  subst e;obtain⟨o,e,c,d⟩:=st;exact⟨o,e,λv z=>by rw[d] at z;cases z⟩
 keep:=λi h h' st k=>st.at λo e=>k it (by simp) o e
 item:=by
  intro X hP hw hK hc i pins s σ H E I hf st hg;subst hP hw hK;obtain⟨xs,x,hq,hx⟩:=hg;obtain⟨its,rv,p,hz⟩:=I.tuple hq;obtain⟨u,hu,ru⟩:=rv.get hx;obtain⟨f0,f1,f2,f3,f4,f5⟩:=hf it (by simp);refine wpAny_pyNext_tuple_item st (show s.heap.IsTuple a its.toArray from p) (x:=u) (by simpa using hu) λh' st' sb=>?_
  have I1:Inv X pins σ H { s with heap:=h' }:=I.turned (t':=s.toks) (λb o hb e=>(sb.2 b hb).trans e) f0 f1 f3 f4 f5;obtain⟨o,e,c,d⟩:=id st';exact⟨u,rfl,ZJO (s:={ s with heap:=h' }) e c d (by decide) ⟨x,H,I1,ru,⟨rfl,λys hy=>by rw[I.tuple_inj hy hq];exact hx⟩,st',λb hb=>(hf b hb).1⟩⟩
 done:=by
  intro X hP hw hK hc i pins s σ H E I hf st hg;subst hP hw hK;obtain⟨xs,hq,hx⟩:=hg;obtain⟨its,rv,p,hz⟩:=I.tuple hq;obtain⟨f0,f1,f2,f3,f4,f5⟩:=hf it (by simp);have hl:=rv.length;exact wpAny_pyNext_tuple_end (I.ok.hd hc) st (show s.heap.IsTuple a its.toArray from p) (by simp;omega) λh' eb=>⟨rfl,I.turned (t':=s.toks) (λb o hb e=>eb b o hb e) f0 f1 f3 f4 f5⟩
 self:=λ_ _ _ _ _ st h=>wpAny_pyIter_tupleiter st h
theorem ZIm{P:Program}{w:World}{K:PySem.W.Frag}{tg:Expr}(it:Addr)(lo:Int)(n:Nat):Turn P w K tg (Itr lo n) [it] it (λi h=>IsRangeIter h it (lo+(i:Nat)*1) ((n:Int)-(i:Nat)) 1) where
 mem:=by simp
 obj:=λi h st b hb=>by
  have e:b=it:=by simpa using hb
  subst e;exact⟨_,st,λv z=>by
   have z':Data.fields _=Data.cell v:=z;cases z'⟩
 keep:=λi h h' st k=>k it (by simp) _ st
 item:=by
  intro X hP hw hK hc i pins s σ H E I hf st hg;subst hP hw hK;obtain⟨f0,f1,f2,f3,f4,f5⟩:=hf it (by simp);have W:=Walks.range (prog:=X.prog) (w:=X.w) (I.ok.hd hc) it lo 1 n;refine W.item i s _ _ hg st λv h' tk hv st' kk=>?_
  obtain⟨t,rfl⟩:=hv;have I1:Inv X pins σ H { s with heap:=h',toks:=tk }:=I.turned (λb o hb e=>kk b o (by simpa using hb) e) f0 f1 f3 f4 f5;refine⟨_,rfl,ZJO (s:={ s with heap:=h',toks:=tk }) (n:="range_iterator") st' rfl rfl (by decide) ⟨.int (lo+i),H,I1,⟨t,?_⟩,⟨rfl,rfl⟩,st',λb hb=>(hf b hb).1⟩⟩;rw[Int.mul_one]
 done:=by
  intro X hP hw hK hc i pins s σ H E I hf st hg;subst hP hw hK;obtain⟨f0,f1,f2,f3,f4,f5⟩:=hf it (by simp);exact wpAny_pyNext_range_end (I.ok.hd hc) st (by have:n<=i:=hg;omega) λh' eb=>⟨rfl,I.turned (t':=s.toks) (λb o hb e=>eb b o hb e) f0 f1 f3 f4 f5⟩
 self:=λ_ _ _ _ _ st h=>wpAny_pyIter_rangeiter st h
section
variable{X:Cx}{tg:Expr}
theorem ZMZ{pins:List (Addr×Obj)}{σ : St}{H:Hp}{s:Shared}{R:It->Hp->Prop}{E:Value->Shared->Prop}{lo hi:Int}{t u v:Tok}{tk:Nat}(I:Inv X pins σ H s)(h1 : -(2 ^ 62)<=lo)(h2:lo<2 ^ 62)(h3 : -(2 ^ 62)<=hi)(h4:hi<2 ^ 62)
  (q:R (Itr lo (hi-lo).toNat) H):wpAny (model X.prog X.w) X.A (pyIter (.ref s.heap.objs.size)) (PIE X pins σ tg R) E { s with heap:=s.heap.push { cls:=.type "range",data:=.fields #[.int lo t,.int hi u,.int 1 v] },toks:=tk }:=by
 refine wpAny_pyIter_range (IsRange.new ..) (small_one h1 h2 h3 h4) ?_;have I1:Inv X pins σ H { s with heap:=s.heap.push { cls:=.type "range",data:=.fields #[.int lo t,.int hi u,.int 1 v] },toks:=tk }:=I.kept λb o e=>get?_push_of_some _ e
 refine⟨(s.heap.push { cls:=.type "range",data:=.fields #[.int lo t,.int hi u,.int 1 v] }).objs.size,[(s.heap.push { cls:=.type "range",data:=.fields #[.int lo t,.int hi u,.int 1 v] }).objs.size],_,_,H,rfl,
  I1.kept (t':=tk) λb o e=>get?_push_of_some _ e,ZIm _ lo (hi-lo).toNat,?_,λb hb=>?_,q⟩
 ·have e1:lo+((0:Nat):Int)*1=lo:=by simp
  have e2:(((hi-lo).toNat:Nat):Int)-((0:Nat):Int)=Builtin.Range.rangeSize lo hi 1:=by rw[rangeSize_one];split <;> omega
  show IsRangeIter _ _ (lo+((0:Nat):Int)*1) ((((hi-lo).toNat:Nat):Int)-((0:Nat):Int)) 1;rw[e1,e2];exact get?_push_size _ rfl
 ·have e:b=(s.heap.push { cls:=.type "range",data:=.fields #[.int lo t,.int hi u,.int 1 v] }).objs.size:=by simpa using hb
  subst e;exact I1.fpOk (le_refl _) (I1.hok.fresh (le_refl _))
noncomputable def iRng1(ta:TA):TI:=λσ H R=>ta σ H λvs H1=>∃j:Int,vs=[.int j]/\-(2 ^ 62)<=j/\j<2 ^ 62/\R (Itr 0 j.toNat) H1
theorem ZKr{a:Expr}{ta:TA}{p pos:Pos}(hg:Gl X "range")(hm:X.mg "range" = none)(ha:PA X [a] ta)(hs:starEach [a] X.env=[(false,eval a X.env)]:=by rfl):PI X tg (.Call (.Name "range" p) [a] [] pos) (iRng1 ta):=by
 intro pins s σ H R I h;refine Call_ (ZAv I hg hm boot_range (PyProof.Rows.callWith_type1 (thn (ha pos pins s σ H _ I h) λus s1 ⟨vs,H1,I1,r1,q1⟩=>?_) hs rfl));obtain⟨j,e,q1,q2,q⟩:=q1;subst e;cases r1 with
 |cons r rr =>
  cases rr;obtain⟨t,rfl⟩:=r;exact call_range_1 (ZMZ I1 (by omega) (by omega) q1 q2 (by simpa using q))
noncomputable def tFor(wi:TI)(g:TG)(tb:TS):TS:=λD σ H=>wi σ H λJ H1=>∃W:Nat->Nat->St->Hp->Prop,(∃m,W 0 m σ H1)/\∀i m σ H,W i m σ H ->
 (J.stop i H/\D.nx σ H)∨(J.go i H/\∃N:St->Hp->Prop,(∀σ' H',N σ' H'->∃m',m'<m/\W (i+1) m' σ' H')/\∀x H',J.yld i H x H'->g x σ H' λσ2 H2=>tb { D with nx:=N,ct:=N,bk:=D.nx } σ2 H2)
noncomputable def ZCE(fp:List Addr)(h:Heap):List (Addr×Obj):=fp.filterMap λb=>(h.get? b).map λo=>(b,o)
theorem ZAQ{fp:List Addr}{h:Heap}{b:Addr}{o:Obj}(hb:b∈fp)(e:h.get? b=some o):(b,o)∈ZCE fp h:=List.mem_filterMap.mpr ⟨b,hb,by rw[e];rfl⟩
theorem ZKY{fp:List Addr}{h:Heap}{p:Addr×Obj}(hp:p∈ZCE fp h):p.1∈fp/\h.get? p.1=some p.2:=by
 obtain⟨b,hb,e⟩:=List.mem_filterMap.mp hp;cases q:h.get? b with
 |none=>rw[q] at e;cases e
 |some o =>
  rw[q] at e;have e':(b,o)=p:=Option.some.inj e;subst e';exact⟨hb,q⟩
theorem Inv.pinned{pins:List (Addr×Obj)}{σ : St}{H:Hp}{s:Shared}{fp:List Addr}(I:Inv X pins σ H s)(hf:∀b∈fp,ZCw X pins H b)(ho:∀b∈fp,∃o,s.heap.get? b=some o/\∀v,o.data≠.cell v):Inv X (pins++ZCE fp s.heap) σ H s :=
 I.pins_of λp hp=>(List.mem_append.mp hp).elim (λz=>I.pin p (mem_append_right _ z)) λz=>by
  obtain⟨hb,e⟩:=ZKY z;obtain⟨f0,f1,f2,_⟩:=hf p.1 hb;obtain⟨o,e',d⟩:=ho p.1 hb;rw[e] at e';cases e';exact⟨e,f0,f1,f2,d⟩
theorem Inv.unpinned{pins pl:List (Addr×Obj)}{σ : St}{H:Hp}{s:Shared}(I:Inv X (pins++pl) σ H s):Inv X pins σ H s:=I.pins_of λp hp=>I.pin p (mem_append_right _ (mem_append_left _ hp))
theorem ZSA{iter:Expr}{body:List Stmt}{wi:TI}{g:TG}{tb:TS}{pos:Pos}(hp:PassesOwn (model X.prog X.w) X.A X.env X.xe)(hc:X.calm=true)(hi:PI X tg iter wi)(hg:PG X tg g)(hb:PSs X body tb)
  (hs:∀x,foldedSetIterable iter X.env x=pure x:=by intro _;rfl):PS X (.For tg iter body [] pos) (tFor wi g tb):=by
 intro pins s σ H D I h;refine wpAny_For (thn (hi pins s σ H _ I h) λv s1 h1=>thn h1 λitv s2 h2=>?_) hs;obtain⟨it,fp,tn,J,H2,e,I2,T,st2,f2,W,⟨m0,w0⟩,turn⟩:=h2;subst e
 -- what stays true of the iterator's objects through the loop
 have stat:∀{H':Hp},(∀b∈fp,H' b=none)->∀b∈fp,ZCw X pins H' b:=λhn b hb=>⟨hn b hb,(f2 b hb).2⟩
 refine codeAny_forLoop_any (λn s'=>∃i σ' H',Inv X pins σ' H' s'/\tn i s'.heap/\(∀b∈fp,H' b=none)/\W i n σ' H') ?_ m0 ⟨0,σ,H2,I2,st2,λb hb=>(f2 b hb).1,w0⟩
 rintro n s3 ⟨i,σ3,H3,I3,st3,fr3,w3⟩
 rcases turn i n σ3 H3 w3 with ⟨stop,qn⟩|⟨go,N,hN,step⟩
 ·refine wpAny_passesOwn hp (thn (T.done X rfl rfl rfl hc i pins s3 σ3 H3 X.xe I3 (stat fr3) st3 stop) λr s4 ⟨hr,I4⟩=>?_)
  subst hr;exact wpAny_execs_nil ⟨σ3,H3,I4,qn⟩
 ·refine wpAny_passesOwn hp (thn (T.item X rfl rfl rfl hc i pins s3 σ3 H3 X.xe I3 (stat fr3) st3 go) λr s4 ⟨u,hr,h4⟩=>?_)
  subst hr;refine wpAny_passesOwn hp (thn h4 λ_ s5 ⟨x,H5,I5,r5,y5,st5,fr5⟩=>?_);have I5':=I5.pinned (stat fr5) (T.obj _ _ st5);refine wpAny_passesOwn hp (thn (hg _ s5 σ3 H5 x u _ I5' r5 (step x H5 y5)) λ_ s6 ⟨σ6,H6,I6,q6⟩=>?_);refine wpAny_passesOwn hp (thn (hb _ s6 σ6 H6 _ I6 q6) λf s7 q7=>?_);have again:∀{σ7:St} {H7:Hp},Inv X (pins++ZCE fp s5.heap) σ7 H7 s7->N σ7 H7->∃m,m<n/\∃i σ' H',Inv X pins σ' H' s7/\tn i s7.heap/\(∀b∈fp,H' b=none)/\W i m σ' H':=λ{σ7 H7} I7 n7=>by
   obtain⟨m',hm,w7⟩:=hN σ7 H7 n7;refine⟨m',hm,i+1,σ7,H7,I7.unpinned,T.keep _ _ _ st5 λb hb o e=>(I7.pin (b,o) (mem_append_right _ (mem_append_right _ (ZAQ hb e)))).1,λb hb=>?_,w7⟩;obtain⟨o,e,d⟩:=T.obj _ _ st5 b hb;exact(I7.pin (b,o) (mem_append_right _ (mem_append_right _ (ZAQ hb e)))).2.1
  cases f with
  |next=>obtain⟨σ7,H7,I7,n7⟩:=q7;exact again I7 n7
  |cont=>obtain⟨σ7,H7,I7,n7⟩:=q7;exact again I7 n7
  |brk=>obtain⟨σ7,H7,I7,q7⟩:=q7;exact⟨σ7,H7,I7.unpinned,q7⟩
  |ret v=>obtain⟨x7,σ7,H7,I7,r7,q7⟩:=q7;exact⟨x7,σ7,H7,I7.unpinned,r7,q7⟩
end
noncomputable abbrev R2:=V->V->Hp->VK->Prop
noncomputable def OpR(X:Cx)(f:Value->Value->Sem Value)(r:R2):Prop :=
 ∀(pins:List (Addr×Obj)) (s:Shared) (σ : St) (H:Hp) (x y:V) (v u:Value) (Q:VK),Inv X pins σ H s->ZU x v->ZU y u->r x y H Q ->
  wpAny (model X.prog X.w) X.A (f v u) (EP X pins σ Q) X.xe s
noncomputable def UnR(X:Cx)(f:Value->Sem Value)(r:V->Hp->VK->Prop):Prop :=
 ∀(pins:List (Addr×Obj)) (s:Shared) (σ : St) (H:Hp) (x:V) (v:Value) (Q:VK),Inv X pins σ H s->ZU x v->r x H Q ->
  wpAny (model X.prog X.w) X.A (f v) (EP X pins σ Q) X.xe s
noncomputable def ZN(X:Cx)(f:Value)(r:List V->Hp->VK->Prop):Prop :=
 ∀(pins:List (Addr×Obj)) (s:Shared) (σ : St) (H:Hp) (xs:List V) (us:List Value) (Q:VK),Inv X pins σ H s->ZK xs us->r xs H Q ->
  wpAny (model X.prog X.w) X.A (call f us) (EP X pins σ Q) X.xe s
noncomputable def tOp(r:R2)(ta tb:TE):TE:=λσ H Q=>ta σ H λx H1=>tb σ H1 λy H2=>r x y H2 Q
noncomputable def tUn(r:V->Hp->VK->Prop)(ta:TE):TE:=λσ H Q=>ta σ H λx H1=>r x H1 Q
noncomputable def rI(C:Int->Int->Prop)(g:Int->Int->V):R2:=λx y H Q=>∃i j,x=.int i/\y=.int j/\C i j/\Q (g i j) H
noncomputable def rI0(g:Int->Int->V):R2:=λx y H Q=>∃i j,x=.int i/\y=.int j/\Q (g i j) H
noncomputable def rU(g:Int->V):V->Hp->VK->Prop:=λx H Q=>∃i,x=.int i/\Q (g i) H
section
variable{X:Cx}{a b c:Expr}{ta tb tc:TE}{pos:Pos}
theorem ZQb(ha:PE X a ta)(hb:PE X b tb){pins:List (Addr×Obj)}{s:Shared}{σ : St}{H:Hp}{R:V->V->Hp->Prop}(I:Inv X pins σ H s)
  (h:ta σ H λx H1=>tb σ H1 λy H2=>R x y H2){Q:Value->Shared->Prop}{f:Value->Value->Sem Value}
  (hf:∀v u s2 x y H2,Inv X pins σ H2 s2->ZU x v->ZU y u->R x y H2->wpAny (model X.prog X.w) X.A (f v u) Q X.xe s2) :
  wpAny (model X.prog X.w) X.A (eval a X.env) (λv s₁=>wpAny (model X.prog X.w) X.A (eval b X.env) (λu s₂=>wpAny (model X.prog X.w) X.A (f v u) Q X.xe s₂) X.xe s₁) X.xe s:=by
 refine thn (ha pins s σ H _ I h) λv s1 ⟨x,H1,I1,r1,q1⟩=>?_
 refine thn (hb pins s1 σ H1 _ I1 q1) λu s2 ⟨y,H2,I2,r2,q2⟩=>?_
 exact hf v u s2 x y H2 I2 r1 r2 q2
theorem ZPq{op:Operator}{r:R2}(ho:OpR X (binaryOp op) r)(ha:PE X a ta)(hb:PE X b tb):PE X (.BinOp a op b pos) (tOp r ta tb):=by
 intro pins s σ H Q I h;exact wpAny_BinOp (ZQb ha hb I h λv u s2 x y H2 I2 rx ry q=>ho pins s2 σ H2 x y v u Q I2 rx ry q)
theorem pe_un{op:UnaryOp}{r:V->Hp->VK->Prop}(ho:UnR X (unaryOp op) r)(ha:PE X a ta):PE X (.UnaryOp op a pos) (tUn r ta):=by
 intro pins s σ H Q I h;exact UnaryOp_ (thn (ha pins s σ H _ I h) λv s1 ⟨x,H1,I1,r1,q1⟩=>ho pins s1 σ H1 x v Q I1 r1 q1)
theorem opI{f:Value->Value->Sem Value}{C:Int->Int->Prop}{g:Int->Int->Int}
  (rule:∀(i j:Int) (t u:Tok) (s:Shared) (Q:Value->Shared->Prop) (E:Value->Shared->Prop),C i j->Q (.int (g i j) s.toks) { s with toks:=s.toks+1 }->wpAny (model X.prog X.w) X.A (f (.int i t) (.int j u)) Q E s) :
  OpR X f (rI C λi j=>.int (g i j)):=by
 intro pins s σ H x y v u Q I rx ry h;obtain⟨i,j,rfl,rfl,hc,q⟩:=h;obtain⟨t,rfl⟩:=rx;obtain⟨t',rfl⟩:=ry;exact rule i j t t' s _ _ hc ⟨.int (g i j),H,I.tok _,⟨_,rfl⟩,q⟩
theorem opI0{f:Value->Value->Sem Value}{g:Int->Int->Int}
  (rule:∀(i j:Int) (t u:Tok) (s:Shared) (Q:Value->Shared->Prop) (E:Value->Shared->Prop),Q (.int (g i j) s.toks) { s with toks:=s.toks+1 }->wpAny (model X.prog X.w) X.A (f (.int i t) (.int j u)) Q E s) :
  OpR X f (rI0 λi j=>.int (g i j)):=by
 intro pins s σ H x y v u Q I rx ry h;obtain⟨i,j,rfl,rfl,q⟩:=h;obtain⟨t,rfl⟩:=rx;obtain⟨t',rfl⟩:=ry;exact rule i j t t' s _ _ ⟨.int (g i j),H,I.tok _,⟨_,rfl⟩,q⟩
theorem ZNt{f:Value->Value->Sem Value}{g:Int->Int->Bool}
  (rule:∀(i j:Int) (t u:Tok) (s:Shared) (Q:Value->Shared->Prop) (E:Value->Shared->Prop),Q (.bool (g i j)) s->wpAny (model X.prog X.w) X.A (f (.int i t) (.int j u)) Q E s) :
  OpR X f (rI0 λi j=>.bl (g i j)):=by
 intro pins s σ H x y v u Q I rx ry h;obtain⟨i,j,rfl,rfl,q⟩:=h;obtain⟨t,rfl⟩:=rx;obtain⟨t',rfl⟩:=ry;exact rule i j t t' s _ _ ⟨.bl (g i j),H,I,rfl,q⟩
noncomputable def ZSM(i j:Int):Prop:=0<=j/\j<=1000000/\i.natAbs<2 ^ 64
noncomputable def ZNz(i j:Int):Prop:=(-(2 ^ 64)<i/\i<2 ^ 64)∨(-(2 ^ 64)<j/\j<2 ^ 64)
theorem ZNz.ok{i j:Int}(h:ZNz i j):IntMulOk i j:=by
 rcases h with ⟨h1,h2⟩|⟨h1,h2⟩
 ·exact .of_left (intBits_le_64 h1 h2)
 ·exact .of_right (intBits_le_64 h1 h2)
theorem ZQ2:OpR X (binaryOp .Add) (rI0 λi j=>.int (i+j)):=opI0 λ_ _ _ _ _ _ _ q=>add_int q
theorem ZQO:OpR X (binaryOp .Mult) (rI ZNz λi j=>.int (i*j)):=opI λ_ _ _ _ _ _ _ hc q=>mul_int q hc.ok
theorem ZQG:OpR X (binaryOp .Mod) (rI (λ_ j=>0<j) λi j=>.int (i % j)):=opI λi j _ _ _ _ _ hc q=>by
 have h1:(0:Int)<j:=hc;exact mod_int' (by omega) (by rw[Int.fmod_eq_emod_of_nonneg i (by omega)];exact q)
theorem ZRl:OpR X (binaryOp .Pow) (rI ZSM λi j=>.int (i ^ j.toNat)):=opI λ_ _ _ _ _ _ _ hc q=>pow_int_small hc.1 hc.2.1 hc.2.2 q
theorem unI{f:Value->Sem Value}{g:Int->Int}
  (rule:∀(i:Int) (t:Tok) (s:Shared) (Q:Value->Shared->Prop) (E:Value->Shared->Prop),Q (.int (g i) s.toks) { s with toks:=s.toks+1 }->wpAny (model X.prog X.w) X.A (f (.int i t)) Q E s) :
  UnR X f (rU λi=>.int (g i)):=by
 intro pins s σ H x v Q I rx h;obtain⟨i,rfl,q⟩:=h;obtain⟨t,rfl⟩:=rx;exact rule i t s _ _ ⟨.int (g i),H,I.tok _,⟨_,rfl⟩,q⟩
theorem ZRB:UnR X (unaryOp .USub) (rU λi=>.int (-i)):=unI λ_ _ _ _ _ q=>neg_int q
end
noncomputable def scal:V->V->Bool
 |.non,.non=>true|.non,.int _=>true|.int _,.non=>true|.non,.bl _=>true|.bl _,.non=>true|.non,.str _=>true|.str _,.non=>true
 |.int _,.int _=>true|.bl _,.bl _=>true|.str _,.str _=>true|.byt _,.byt _=>true
 |.int _,.str _=>true|.str _,.int _=>true|.bl _,.str _=>true|.str _,.bl _=>true
 |_,_=>false
noncomputable def rEq:R2:=λx y H Q=>scal x y=true/\Q (.bl (decide (x=y))) H
theorem ZOd{i j:Int}:decide (V.int i=V.int j)=(i == j):=by
 rw[Bool.eq_iff_iff];simp
theorem ZRc{i j:Bool}:decide (V.bl i=V.bl j)=(i == j):=by
 rw[Bool.eq_iff_iff];simp
theorem ZOG{i j:Str}:decide (V.str i=V.str j)=(i == j):=by
 rw[Bool.eq_iff_iff];simp
theorem ZNs{i j:Array UInt8}:decide (V.byt i=V.byt j)=(i.toList == j.toList):=by
 rw[Bool.eq_iff_iff];cases i;cases j;simp
section
variable{X:Cx}{a b c:Expr}{ta tb tc:TE}{pos:Pos}
theorem Zp{pins:List (Addr×Obj)}{σ : St}{H:Hp}{s:Shared}{Q:VK}{k k':Bool}(I:Inv X pins σ H s)(q:Q (.bl k) H)(e:k=k'):EP X pins σ Q (.bool k') s:=by
 subst e;exact⟨.bl k,H,I,rfl,q⟩
theorem op_eq:OpR X (compareOp .Eq) rEq:=by
 intro pins s σ H x y v u Q I rx ry h;obtain⟨hs,q⟩:=h;cases x with
 |non =>
  cases rx;cases y with
  |non=>cases ry;exact PySem.EqNone.eq_none_none (Zp I q (by simp))
  |bl j=>cases ry;exact PySem.EqNone.eq_none_bool (Zp I q (by simp))
  |int j=>obtain⟨t',rfl⟩:=ry;exact PySem.EqNone.eq_none_int (Zp I q (by simp))
  |str j=>obtain⟨t',rfl⟩:=ry;exact PySem.EqNone.eq_none_str (Zp I q (by simp))
  |_=>exact absurd (show false=true from hs) Bool.false_ne_true
 |bl i =>
  cases rx;cases y with
  |non=>cases ry;exact PySem.EqNone.eq_bool_none (Zp I q (by simp))
  |bl j=>cases ry;exact eq_bool (Zp I q ZRc)
  |str j=>obtain⟨t',rfl⟩:=ry;exact PySem.EqMixed.eq_bool_str (Zp I q (by simp))
  |_=>exact absurd (show false=true from hs) Bool.false_ne_true
 |int i =>
  obtain⟨t,rfl⟩:=rx;cases y with
  |non=>cases ry;exact PySem.EqNone.eq_int_none (Zp I q (by simp))
  |int j=>obtain⟨t',rfl⟩:=ry;exact eq_int (Zp I q ZOd)
  |str j=>obtain⟨t',rfl⟩:=ry;exact PySem.EqMixed.eq_int_str (Zp I q (by simp))
  |_=>exact absurd (show false=true from hs) Bool.false_ne_true
 |str i =>
  obtain⟨t,rfl⟩:=rx;cases y with
  |non=>cases ry;exact PySem.EqNone.eq_str_none (Zp I q (by simp))
  |bl j=>cases ry;exact PySem.EqMixed.eq_str_bool (Zp I q (by simp))
  |int j=>obtain⟨t',rfl⟩:=ry;exact PySem.EqMixed.eq_str_int (Zp I q (by simp))
  |str j=>obtain⟨t',rfl⟩:=ry;exact eq_str (Zp I q ZOG)
  |_=>exact absurd (show false=true from hs) Bool.false_ne_true
 |byt i =>
  obtain⟨t,rfl⟩:=rx;cases y with
  |byt j=>obtain⟨t',rfl⟩:=ry;exact PySem.W.eq_bytes (Zp I q ZNs)
  |_=>exact absurd (show false=true from hs) Bool.false_ne_true
 |_=>cases y <;> exact absurd (show false=true from hs) Bool.false_ne_true
theorem op_lt:OpR X (compareOp .Lt) (rI0 λi j=>.bl (decide (i<j))):=ZNt λ_ _ _ _ _ _ _ q=>lt_int q
theorem op_le:OpR X (compareOp .LtE) (rI0 λi j=>.bl (decide (i<=j))):=ZNt λ_ _ _ _ _ _ _ q=>le_int q
theorem op_gt:OpR X (compareOp .Gt) (rI0 λi j=>.bl (decide (j<i))):=ZNt λ_ _ _ _ _ _ _ q=>gt_int q
theorem op_ge:OpR X (compareOp .GtE) (rI0 λi j=>.bl (decide (j<=i))):=ZNt λ_ _ _ _ _ _ _ q=>ge_int q
theorem ZK0:OpR X (compareOp .Lt) (λx y H Q=>∃i j,x=.str i/\y=.str j/\Q (.bl (decide (i.cps.toList<j.cps.toList))) H):=by
 intro pins s σ H x y v u Q I rx ry h;obtain⟨i,j,rfl,rfl,q⟩:=h;obtain⟨t,rfl⟩:=rx;obtain⟨t',rfl⟩:=ry;exact lt_str (Zp I q rfl)
theorem ZKy:OpR X (compareOp .In) (λx y H Q=>∃i j,x=.str i/\y=.str j/\Q (.bl (!(Builtin.Str.occurrences j i 0 j.length 1).isEmpty)) H):=by
 intro pins s σ H x y v u Q I rx ry h;obtain⟨i,j,rfl,rfl,q⟩:=h;obtain⟨t,rfl⟩:=rx;obtain⟨t',rfl⟩:=ry;exact in_str (Zp I q rfl)
theorem ZGj:OpR X (compareOp .NotIn) (λx y H Q=>∃i j,x=.str i/\y=.str j/\Q (.bl (!(!(Builtin.Str.occurrences j i 0 j.length 1).isEmpty))) H):=by
 intro pins s σ H x y v u Q I rx ry h;obtain⟨i,j,rfl,rfl,q⟩:=h;obtain⟨t,rfl⟩:=rx;obtain⟨t',rfl⟩:=ry;exact notIn_str (Zp I q rfl)
theorem ZCB(b:Expr){op:CmpOp}(h:op≠.In:=by decide)(h2:op≠.NotIn:=by decide):behindInMarks op b=false:=by
 have e1:(op == CmpOp.In)=false:=by cases op <;> first|rfl|exact absurd rfl h
 have e2:(op == CmpOp.NotIn)=false:=by cases op <;> first|rfl|exact absurd rfl h2
 cases b <;> simp[behindInMarks,e1,e2]
theorem ZOE{op:CmpOp}{r:R2}(ho:OpR X (compareOp op) r)(ha:PE X a ta)(hb:PE X b tb)(hm:behindInMarks op b=false):PE X (.Compare a [op] [b] pos) (tOp r ta tb):=by
 intro pins s σ H Q I h;exact wpAny_Compare1 (ZQb ha hb I h λv u s2 x y H2 I2 rx ry q=>ho pins s2 σ H2 x y v u Q I2 rx ry q) hm
noncomputable def ZLO(t:TE):TT:=λσ H Q=>t σ H λx H'=>∃k,x=.bl k/\Q k H'
theorem ZOf{op:CmpOp}{r:R2}(ho:OpR X (compareOp op) r)(ha:PE X a ta)(hb:PE X b tb)(hm:behindInMarks op b=false):PT X (.Compare a [op] [b] pos) (ZLO (tOp r ta tb)):=by
 intro pins s σ H Q I h;refine wpAny_isTrue_Compare1 (thn (ha pins s σ H _ I h) λ v s1 ⟨x,H1,I1,r1,q1⟩=>thn (hb pins s1 σ H1 _ I1 q1) λ u s2 ⟨y,H2,I2,r2,q2⟩ =>
  thn (ho pins s2 σ H2 x y v u _ I2 r1 r2 q2) λc s3 ⟨z,H3,I3,r3,k,e,q3⟩=>?_) hm
 subst e;cases r3;exact wpAny_truthy_bool ⟨H3,I3,q3⟩
noncomputable def ZNQ(r r':R2)(ta tb tc:TE):TE:=λσ H Q=>ta σ H λx H1=>tb σ H1 λy H2=>r x y H2 λz H3=>∃k,z=.bl k /\
 (if k=true then tc σ H3 λw' H4=>r' y w' H4 Q else Q (.bl false) H3)
theorem ZNg{op op':CmpOp}{r r':R2}(ho:OpR X (compareOp op) r)(ho':OpR X (compareOp op') r')(ha:PE X a ta)(hb:PE X b tb)(hc:PE X c tc)
  (hm:lastMarks [op,op'] [b,c]=false:=by with_unfolding_all rfl):PT X (.Compare a [op,op'] [b,c] pos) (ZLO (ZNQ r r' ta tb tc)):=by
 intro pins s σ H Q I h;refine isTrue_chain (thn (ha pins s σ H _ I h) λ v s1 ⟨x,H1,I1,r1,q1⟩=>test_link (thn (hb pins s1 σ H1 _ I1 q1) λ u s2 ⟨y,H2,I2,r2,q2⟩ =>
  thn (ho pins s2 σ H2 x y v u _ I2 r1 r2 q2) λd s3 ⟨z,H3,I3,r3,k,e,q3⟩=>?_)) hm
 subst e;cases r3;refine wpAny_truthy_bool ?_;cases k with
 |false =>
  obtain⟨k',e',q'⟩:=q3;cases e';exact ite_ff ⟨H3,I3,q'⟩
 |true =>
  refine ite_tt (test_last (thn (hc pins s3 σ H3 _ I3 q3) λw' s4 ⟨z',H4,I4,r4,q4⟩=>thn (ho' pins s4 σ H4 y z' u w' _ I4 r2 r4 q4) λd' s5 ⟨z2,H5,I5,r5,k2,e2,q5⟩=>?_));subst e2;cases r5;exact wpAny_truthy_bool ⟨H5,I5,q5⟩
theorem ZDd:(sizeLine:Nat)<2 ^ 63:=by rw[sizeLine_eq];decide
theorem ZIP:OpR X (binaryOp .Add) (λx y H Q=>∃i j,x=.str i/\y=.str j/\i.length+j.length<=sizeLine/\Q (.str (i++j)) H):=by
 intro pins s σ H x y v u Q I rx ry h;obtain⟨i,j,rfl,rfl,hz,q⟩:=h;obtain⟨t,rfl⟩:=rx;obtain⟨t',rfl⟩:=ry;exact add_str (λt' tk=>⟨.str (i++j),H,I.tok _,⟨_,rfl⟩,q⟩) hz
theorem ZAk{x:V}{us:List Value}(r:ZK [x] us):∃u,us=[u]/\ZU x u:=by
 cases r with
 |cons r1 r2=>cases r2;exact⟨_,rfl,r1⟩
theorem ZJ0{x y:V}{us:List Value}(r:ZK [x,y] us):∃u w',us=[u,w']/\ZU x u/\ZU y w':=by
 cases r with
 |cons r1 r2 =>
  cases r2 with
  |cons r3 r4=>cases r4;exact⟨_,_,rfl,r1,r3⟩
theorem ZMt:ZN X (.builtin "abs") (λxs H Q=>∃i,xs=[.int i]/\Q (.int (if i<0 then -i else i)) H):=by
 intro pins s σ H xs us Q I r h;obtain⟨i,rfl,q⟩:=h;obtain⟨u,rfl,t,rfl⟩:=ZAk r;exact call_abs_int λu tk=>⟨.int (if i<0 then -i else i),H,I.tok _,⟨_,rfl⟩,q⟩
theorem ZKS(hc:X.calm=true):ZN X (.builtin "min") (λxs H Q=>∃i j,xs=[.int i,.int j]/\Q (.int (if j<i then j else i)) H):=by
 intro pins s σ H xs us Q I r h;obtain⟨i,j,rfl,q⟩:=h;obtain⟨u,w',rfl,⟨t,rfl⟩,⟨t',rfl⟩⟩:=ZJ0 r;refine min_two_ints (I.ok.hd hc) λh' tk k=>⟨_,H,I.kept k,?_,q⟩
 by_cases hj:j<i
 ·rw[if_pos hj,if_pos hj];exact⟨_,rfl⟩
 ·rw[if_neg hj,if_neg hj];exact⟨_,rfl⟩
theorem ZKH:ZN X (.type "int") (λxs H Q=>(∃i,xs=[.int i]/\Q (.int i) H)∨∃k,xs=[.bl k]/\Q (.int (if k then 1 else 0)) H):=by
 intro pins s σ H xs us Q I r h;rcases h with ⟨i,rfl,q⟩|⟨k,rfl,q⟩
 ·obtain⟨u,rfl,t,rfl⟩:=ZAk r
  exact call_int_int ⟨.int i,H,I,⟨_,rfl⟩,q⟩
 ·obtain⟨u,rfl,r1⟩:=ZAk r
  cases r1;exact call_int_bool ⟨.int (if k then 1 else 0),H,I.tok _,⟨_,rfl⟩,q⟩
theorem ZGE:ZN X (.type "str") (λxs H Q=>∃i,xs=[.int i]/\i.natAbs.log2<1920/\Q (.str (toString i)) H):=by
 intro pins s σ H xs us Q I r h;obtain⟨i,rfl,hz,q⟩:=h;obtain⟨u,rfl,t,rfl⟩:=ZAk r;exact PySem.P.str_of_int hz ⟨.str _,H,I.tok _,⟨_,rfl⟩,q⟩
end
structure Room (k:Nat) (A:Around):Prop where
 hd:A.handled=none
 dp:A.depth+3*k+5<recursionLimit
 un:A.units+16*k+200<cLine
 gd:A.guards=some []
theorem Room.mono{j k:Nat}{A:Around}(r:Room k A)(h:j<=k):Room j A:=⟨r.hd,by have:=r.dp;omega,by have:=r.un;omega,r.gd⟩
theorem Room.deeper{k:Nat}{A:Around}(r:Room (k+1) A)(env:Env):Room k (A.deeper env) :=
 ⟨r.hd,by have:=r.dp;show A.depth+1+3*k+5<_;omega,by have:=r.un;show A.units+3+16*k+200<_;omega,r.gd⟩
theorem Room.depth{k:Nat}{A:Around}(r:Room k A):A.depth<recursionLimit:=by have:=r.dp;omega
theorem Room.units{k:Nat}{A:Around}(r:Room k A):A.units+64<cLine:=by have:=r.un;omega
noncomputable def tNil:TA:=λ_ H Q=>Q [] H
noncomputable def tCons(ta:TE)(tr:TA):TA:=λσ H Q=>ta σ H λx H1=>tr σ H1 λxs H2=>Q (x::xs) H2
section
variable{X:Cx}{e:Expr}{es:List Expr}{te:TE}{t:TA}{pos:Pos}
theorem ZGy:PA X [] tNil:=λ_ _ _ _ H Q I h=>Calls.spliced_nil ⟨[],H,I,.nil,h⟩
theorem ZCL(ha:PE X e te)(hr:PA X es t)(hs:starEach (e::es) X.env=(false,eval e X.env)::starEach es X.env:=by rfl):PA X (e::es) (tCons te t):=by
 intro pos pins s σ H Q I h;rw[hs];show wpAny _ _ (spliced ((false,eval e X.env)::backTo pos (starEach es X.env))) _ _ s;refine Calls.spliced_cons (thn (ha pins s σ H _ I h) λu s1 ⟨x,H1,I1,r1,q1⟩=>?_);exact thn (hr pos pins s1 σ H1 _ I1 q1) λus s2 ⟨xs,H2,I2,r2,q2⟩=>⟨x::xs,H2,I2,.cons r1 r2,q2⟩
noncomputable def tTup(t:TA):TE:=λσ H Q=>t σ H λxs H1=>xs.length<=sizeLine/\∀p,H1 p=none->Q (.ref p) (upd H1 p (.tup xs))
noncomputable def tLst(t:TA):TE:=λσ H Q=>t σ H λxs H1=>xs.length<=sizeLine/\∀p,H1 p=none->Q (.ref p) (upd H1 p (.lst xs))
theorem ZIH{x1}(h:PA X es t):PE X (.Tuple es x1 pos) (tTup t):=by
 intro pins s σ H Q I hq;refine wpAny_Tuple_spliced (thn (h pos pins s σ H _ I hq) λus s1 ⟨xs,H1,I1,r,z,q⟩=>⟨by rw[←r.length];exact z,?_⟩);have hf:H1 s1.heap.objs.size=none:=I1.hok.fresh (le_refl _);refine⟨.ref s1.heap.objs.size,upd H1 s1.heap.objs.size (.tup xs),I1.laid (t':=s1.toks) (λb u e=>get?_push_of_some _ e) (le_refl _) ?_,rfl,q _ hf⟩;exact⟨z,us,r,⟨_,get?_push_size _ rfl,rfl,_,rfl⟩⟩
theorem ZIL(h:PA X es t):PE X (.List es pos) (tLst t):=by
 intro pins s σ H Q I hq;refine wpAny_List_spliced (thn (h pos pins s σ H _ I hq) λus s1 ⟨xs,H1,I1,r,z,q⟩=>⟨by rw[←r.length];exact z,?_⟩);have hf:H1 s1.heap.objs.size=none:=I1.hok.fresh (le_refl _);refine⟨.ref s1.heap.objs.size,upd H1 s1.heap.objs.size (.lst xs),I1.laid (t':=s1.toks) (λb u e=>get?_push_of_some _ e) (le_refl _) ?_,rfl,q _ hf⟩;exact⟨z,us,0,r,get?_push_size _ rfl⟩
end
noncomputable abbrev Sp:=List V->Hp->VK->XK->Prop
noncomputable abbrev CXT:=List Env->Hp->Shared->XK->Value->Shared->Prop
structure Env0 (P:Program) (w:World) (K:PySem.W.Frag) (mg:Str->Option Value) (base:Heap) (A:Around) (outer:List Env) (s:Shared) (H:Hp):Prop where
 frames:A.frames=some outer
 mod:Mod K mg base
 bs:∀b o,base.get? b=some o->s.heap.get? b=some o/\H b=none
 bsz:base.objs.size<=s.heap.objs.size
 funs:s.heap.FunFrames base outer
 frf:∀b∈frs outer,H b=none
 hok:HOk P w H s.heap
 bare:AllBare s.gens
noncomputable def CE(outer:List Env)(P:Program)(w:World)(H:Hp)(s:Shared)(Q:VK)(u:Value)(s':Shared):Prop :=
 ∃v H',s'.os=s.os/\AllBare s'.gens/\Un (frs outer) [] H H' s.heap s'.heap/\HOk P w H' s'.heap/\ZU v u/\Q v H'
noncomputable def CR(CX:CXT)(outer:List Env)(P:Program)(w:World)(H:Hp)(s:Shared)(Q:VK)(E:XK)(r:Result)(s':Shared):Prop :=
 match r with
 |.ok (.ret u)=>CE outer P w H s Q u s'
 |.ok _=>False
 |.error e=>CX outer H s E e s'
structure FnOk (P:Program) (w:World) (K:PySem.W.Frag) (mg:Str->Option Value) (base:Heap) (CX:CXT) (k:Nat) (f:Addr) (fd:FuncData) (ps:List Str) (sp:Sp):Prop where
 len:∀vs H Q E,sp vs H Q E->vs.length=ps.length
 run:∀(A:Around) (outer:List Env) (s:Shared) (H:Hp) (args:Args) (us:List Value) (vs:List V) (Q:VK) (E:XK),Room k A->Env0 P w K mg base A outer s H->BindsTo s fd args (ps.zip us)->ZK vs us->sp vs H Q E ->
  codeAny (model P w) A (.call (.ref f) args) (CR CX outer P w H s Q E) s
theorem FnOk.imp{P:Program}{w:World}{K:PySem.W.Frag}{mg:Str->Option Value}{base:Heap}{CX:CXT}{k:Nat}{f:Addr}{fd:FuncData}{ps:List Str}{sp sp':Sp}(F:FnOk P w K mg base CX k f fd ps sp)
  (h:∀vs H Q E,sp' vs H Q E->sp vs H Q E):FnOk P w K mg base CX k f fd ps sp' :=
 ⟨λvs H Q E q=>F.len vs H Q E (h _ _ _ _ q),λA outer s H args us vs Q E hr he hb hv hs=>F.run A outer s H args us vs Q E hr he hb hv (h _ _ _ _ hs)⟩
section
variable{X:Cx}{pins:List (Addr×Obj)}{σ : St}{H:Hp}{s s':Shared}
theorem Inv.env0(I:Inv X pins σ H s):Env0 X.prog X.w X.K X.mg X.base X.A X.stack s H :=
 ⟨I.ok.frames,I.ok.mod,I.bs,le_trans I.ok.bsz I.sz,I.stack,I.stkFree,I.hok,I.bare⟩
theorem Inv.after{Q:VK}{u:Value}(I:Inv X pins σ H s)(h:CE X.stack X.prog X.w H s Q u s'):EP X pins σ Q u s':=by
 obtain⟨v,H',os,bare,un,hok,r,q⟩:=h;obtain⟨hh,g,d,t,os'⟩:=s';obtain rfl:os'=s.os:=os;exact⟨v,H',I.call (h':=hh) (g':=g) (d':=d) (t':=t) (ch:=[]) un hok bare (λb z=>absurd z (by simp)),r,q⟩
end
noncomputable def ZPj(sp:Sp)(dvs:List V)(E:XK)(t:TA):TE:=λσ H Q=>t σ H λvs H1=>sp (vs++dvs) H1 Q E
noncomputable def ZDv(K:PySem.W.Frag)(fd:FuncData)(ps:List Str)(ds:List Value):Prop :=
 ∀(s:Shared) (us:List Value),K.In s.heap->(us++ds).length=ps.length->BindsTo s fd ⟨us,[]⟩ (ps.zip (us++ds))
theorem ZDv.all{K:PySem.W.Frag}{fd:FuncData}{ps:List Str}(h:∀us:List Value,us.length=ps.length->bindArgs fd ⟨us,[]⟩=pure (ps.zip us)):ZDv K fd ps []:=λs us _ hl=>by
 rw[append_nil] at hl ⊢;exact .of_eq (h us hl)
noncomputable def ZIo(CX:CXT)(X:Cx)(E:XK):Prop:=∀(pins:List (Addr×Obj)) (σ : St) (H:Hp) (s:Shared) (e:Value) (s':Shared),Inv X pins σ H s->CX X.stack H s E e s'->X.xe e s'
section
variable{X:Cx}{CX:CXT}{k:Nat}{f C:Addr}{fd:FuncData}{ps:List Str}{sp:Sp}{dvs:List V}{ds:List Value}{E:XK}{x m:Str}{p pos apos:Pos}{e o:Expr}{es:List Expr}{ta:TE}{t:TA}
theorem ZQU{pins:List (Addr×Obj)}{σ : St}{H:Hp}{s:Shared}{Q:VK}{us:List Value}{vs:List V}(F:FnOk X.prog X.w X.K X.mg X.base CX k f fd ps sp)(hr:Room k X.A)(hb:ZDv X.K fd ps ds)(hd:ZK dvs ds)(hx:ZIo CX X E)
  (I:Inv X pins σ H s)(r:ZK vs us)(h:sp (vs++dvs) H Q E):wpAny (model X.prog X.w) X.A (call (.ref f) us) (EP X pins σ Q) X.xe s:=by
 have r2:ZK (vs++dvs) (us++ds):=r.append hd;have hl:(us++ds).length=ps.length:=by rw[←r2.length];exact F.len _ _ _ _ h
 refine wpAny_call (codeAny_mono (F.run X.A X.stack s H ⟨us,[]⟩ (us++ds) (vs++dvs) Q E hr I.env0 (hb s us I.kIn hl) r2 h) λr s' hq=>?_);cases r with
 |error e=>exact hx pins σ H s e s' I hq
 |ok fl =>
  cases fl with
  |ret u=>exact I.after hq
  |next=>exact False.elim hq
  |brk=>exact False.elim hq
  |cont=>exact False.elim hq
theorem ZOQ(F:FnOk X.prog X.w X.K X.mg X.base CX k f fd ps sp)(hr:Room k X.A)(hg:Gl X x)(hm:X.mg x=some (.ref f))(hk:PySem.W.keepIn X.K (.ref f)=true)(hb:ZDv X.K fd ps ds)(hd:ZK dvs ds)(hx:ZIo CX X E)
  (ha:PA X (e::es) t)(hdb:(x == ("__debug__" : Str))=false:=by decide)(he:starEach (e::es) X.env=(false,eval e X.env)::starEach es X.env:=by rfl)(hpl:(backTo pos (starEach es X.env)).any (·.1)=false:=by rfl) :
  PE X (.Call (.Name x p) (e::es) [] pos) (ZPj sp dvs E t):=by
 intro pins s σ H Q I h;refine wpAny_Call_Name_kw (ZBv I hg hm ?_ hdb);refine PySem.W.callWith_K (h₀:=X.base) I.ok.mod.kin hk (thn (ha pos pins s σ H _ I h) λus s1 ⟨vs,H1,I1,r,q⟩=>⟨I1.kIn,?_⟩) he hpl;exact ZQU F hr hb hd hx I1 r q
end
structure FnScope (N P:List Str) (sc:Scope):Prop where
 kind:sc.kind=.function
 co:sc.isCoroutine=false
 gen:sc.isGenerator=false
 nd:N.Nodup
 pre:N.take P.length=P
 par:∀x∈P,sc.names.lookup x=some .local∨sc.names.lookup x=some .cell
 nofree:∀y∈sc.names,y.2≠.free
theorem ZFn{kindOf:Str->Option NameKind}{x:Str}:∀{binds:List (Str×Value)} {m:Str->Option Value},(∀v,(x,v)∉binds)->bindL kindOf binds m x=m x
 |[],_,_=>rfl
 |(n,v)::r,m,h=>by
  unfold bindL;rw[ZFn λw hw=>h w (mem_cons_of_mem _ hw)]
  split
  ·have:x≠n:=by rintro rfl;exact h v mem_cons_self
   simp[this]
  ·rfl
theorem ZF5{kindOf:Str->Option NameKind}{x:Str}:∀{binds:List (Str×Value)} {m:Str->Option Value},(∀v,(x,v)∉binds)->bindC kindOf binds m x=m x
 |[],_,_=>rfl
 |(n,v)::r,m,h=>by
  unfold bindC;rw[ZF5 λw hw=>h w (mem_cons_of_mem _ hw)]
  split
  ·rfl
  ·have:x≠n:=by rintro rfl;exact h v mem_cons_self
   simp[this]
theorem ZF4{kindOf:Str->Option NameKind}{x:Str}{v:Value}:∀{P:List Str} {vs:List Value} {i:Nat} {m:Str->Option Value},P.Nodup->P[i]? = some x->vs[i]? = some v->kindOf x=some .local ->
  bindL kindOf (P.zip vs) m x=some v
 |[],_,_,_,_,h,_,_=>by simp at h
 |_::_,[],_,_,_,_,h,_=>by simp at h
 |p::P,w::vs,0,m,nd,h1,h2,hk=>by
  simp at h1 h2;subst h1;subst h2;show bindL kindOf ((p,w)::P.zip vs) m p=_;unfold bindL;rw[ZFn λv hv=>(List.nodup_cons.mp nd).1 (of_mem_zip hv).1,if_pos hk];simp
 |p::P,w::vs,i+1,m,nd,h1,h2,hk=>by
  show bindL kindOf ((p,w)::P.zip vs) m x=_;unfold bindL;exact ZF4 (i:=i) (List.nodup_cons.mp nd).2 (by simpa using h1) (by simpa using h2) hk
theorem ZFi{kindOf:Str->Option NameKind}{x:Str}{v:Value}:∀{P:List Str} {vs:List Value} {i:Nat} {m:Str->Option Value},P.Nodup->P[i]? = some x->vs[i]? = some v->kindOf x≠some .local ->
  bindC kindOf (P.zip vs) m x=some v
 |[],_,_,_,_,h,_,_=>by simp at h
 |_::_,[],_,_,_,_,h,_=>by simp at h
 |p::P,w::vs,0,m,nd,h1,h2,hk=>by
  simp at h1 h2;subst h1;subst h2;show bindC kindOf ((p,w)::P.zip vs) m p=_;unfold bindC;rw[ZF5 λv hv=>(List.nodup_cons.mp nd).1 (of_mem_zip hv).1,if_neg hk];simp
 |p::P,w::vs,i+1,m,nd,h1,h2,hk=>by
  show bindC kindOf ((p,w)::P.zip vs) m x=_;unfold bindC;exact ZFi (i:=i) (List.nodup_cons.mp nd).2 (by simpa using h1) (by simpa using h2) hk
noncomputable def ZCY(N:List Str)(vs:List V):St:=vs.map some++List.replicate (N.length-vs.length) none
noncomputable def ZCs(CX:CXT)(P:Program)(w:World)(K:PySem.W.Frag)(mg:Str->Option Value)(base:Heap)(N:List Str)(qual:Str)(scope:Scope)(f:Addr)(cd:Value)(A:Around)(outer:List Env)(s:Shared)(H:Hp)(E:XK):Cx where
 prog:=P
 w:=w
 K:=K
 mg:=mg
 base:=base
 A:=A.deeper (envOfC qual scope s.heap.objs.size f cd)
 N:=N
 s₀:=s
 H₀:=H
 env:=envOfC qual scope s.heap.objs.size f cd
 outer:=outer
 stack:=envOfC qual scope s.heap.objs.size f cd::outer
 ex:=[]
 calm:=true
 fn:=λ_=>true
 pn:=[]
 xe:=λe s'=>wpAny (model P w) (A.deeper (envOfC qual scope s.heap.objs.size f cd)) (leaving (envOfC qual scope s.heap.objs.size f cd) e) (λ_ s''=>CX outer H s E e s'') (λe' s''=>CX outer H s E e' s'') s'
theorem ZHT{sc:Scope}{n:Nat}{x:Str}(h:sc.names.lookup x=some .cell):∃c,(cellsFrom n sc.names []).lookup x=some c:=by
 have q:=PySem.W.cellsFrom_some sc.names n [] (.inl h);exact Option.isSome_iff_exists.mp q
theorem ZK3{CX:CXT}{P:Program}{w:World}{K:PySem.W.Frag}{mg:Str->Option Value}{base:Heap}{N ps:List Str}{qual:Str}{scope:Scope}{f:Addr}{cd:Value}{A:Around}{outer:List Env}{s s1:Shared}{H:Hp}{E:XK}{us:List Value}{vs:List V}
  (S:FnScope N ps scope)(hd:A.handled=none)(e0:Env0 P w K mg base A outer s H)(hl:vs.length=ps.length)(r:ZK vs us)
  (x:InCallC s s.heap.objs.size (bindL (envOfC qual scope s.heap.objs.size f cd).kindOf (ps.zip us) λ_=>none) (cellsFrom (s.heap.objs.size+1) scope.names []) (bindC (envOfC qual scope s.heap.objs.size f cd).kindOf (ps.zip us) λ_=>none) s1) :
  Inv (ZCs CX P w K mg base N qual scope f cd A outer s H E) [] (ZCY N vs) H s1:=by
 have hpl:ps.length<=N.length:=by have:=congrArg List.length S.pre;rw[length_take] at this;omega
 obtain⟨h1,tk,rfl,hk⟩:=x.done;have noA:∀b:Addr,b∉(ZCs CX P w K mg base N qual scope f cd A outer s H E).ex:=λb z=>absurd (show b∈([]:List Addr) from z) (by simp)
 refine⟨⟨e0.mod,S.kind,rfl,rfl,le_refl _,λy z c h1 h2=>?_,λy hy=>?_,λy c _ h=>?_,λ_=>hd,Around.frames_deeper e0.frames,.inr ⟨rfl,rfl⟩,λb z=>absurd z (noA b),e0.bs,e0.bsz,λb _ _=>noA b,λb z=>absurd z (noA b),e0.funs,e0.frf⟩,
  rfl,e0.bare,Un.kept hk,⟨_,x.toInCall.ns,λi y v h1 h2 h3=>?_⟩,λy c h=>⟨_,x.cell y c h⟩,e0.hok.fresh (le_refl _),λy c h=>?_,λp hp=>absurd (show p∈([]:List (Addr×Obj)) from hp) (by simp),e0.hok.kept hk,?_⟩
 ·exact name_of_addr x.apart (PySem.mem_of_lookup h1) (PySem.mem_of_lookup h2)
 ·have hy:scope.names.lookup y=some .cell∨scope.names.lookup y=some .free:=hy
  rcases hy with hy|hy
  ·exact ZHT hy
  ·exact absurd rfl (S.nofree _ (PySem.mem_of_lookup hy))
 ·exact le_of_lt (x.above y c (PySem.mem_of_lookup h))
 ·have hi:i<vs.length:=by
   unfold ZCY at h2
   by_cases hi:i<vs.length
   ·exact hi
   ·rw[getElem?_append_right (by simpa using hi)] at h2
    rw[getElem?_replicate] at h2
    split at h2 <;> cases h2
  have ha:vs[i]? = some v:=by
   unfold ZCY at h2;rw[getElem?_append_left (by simpa using hi),getElem?_map] at h2;cases e:vs[i]? with
   |none=>rw[e] at h2;cases h2
   |some a=>rw[e] at h2;cases h2;rfl
  obtain⟨u,hu,rv⟩:=r.get ha;have hp:ps[i]? = some y:=by
   rw[←S.pre,List.getElem?_take_of_lt (by omega)];exact h1
  have ndP:ps.Nodup:=by rw[←S.pre];exact S.nd.sublist (take_sublist _ _)
  refine⟨u,rv,?_⟩;rcases S.par y (mem_of_getElem? hp) with k|k
  ·exact .inl ⟨k,ZF4 ndP hp hu k⟩
  ·obtain⟨c,e⟩:=ZHT (n:=s.heap.objs.size+1) k
   refine .inr ⟨.inl k,c,e,?_⟩;have q:=x.cell y c e;rw[ZFi ndP hp hu (by show scope.names.lookup y≠_;rw[k];decide)] at q;exact q
 ·exact e0.hok.fresh (le_of_lt (x.above y c (PySem.mem_of_lookup h)))
 ·unfold ZCY
  show _=N.length;rw[length_append,length_map,length_replicate];omega
theorem ZPv{CX:CXT}{P:Program}{w:World}{K:PySem.W.Frag}{mg:Str->Option Value}{base:Heap}{k:Nat}{f:Addr}{name qual:Str}{params:Arguments}{body:List Stmt}{scope:Scope}{dV kV doc pm cdv ct oc:Value}{an od:Option Addr}
  {osl:Array (Option Value)}{N ps:List Str}{sp:Sp}(lk:K.lookup f=some ⟨oc,od,.func (PySem.W.fnOf name qual params body scope dV kV doc pm an cdv ct),osl⟩)(hcd:PySem.W.codeIn K cdv qual=true)(S:FnScope N ps scope)
  (len:∀vs H Q E,sp vs H Q E->vs.length=ps.length)
  (hbody:∀ (A:Around) (outer:List Env) (s:Shared) (H:Hp) (vs:List V) (Q:VK) (E:XK),Room k (A.deeper (envOfC qual scope s.heap.objs.size f cdv))->sp vs H Q E ->
   ∃t,PSs (ZCs CX P w K mg base N qual scope f cdv A outer s H E) body t/\t { nx:=λ_ H'=>Q .non H',rt:=Q } (ZCY N vs) H) :
  FnOk P w K mg base CX (k+1) f (PySem.W.fnOf name qual params body scope dV kV doc pm an cdv ct) ps sp:=by
 refine⟨len,λA outer s H args us vs Q E hr e0 hb r hsp=>?_⟩;have hl:=len _ _ _ _ hsp;have KX:K.In s.heap:=e0.mod.kin.keeps λb o e=>(e0.bs b o e).1
 have lim:s.heap.NoLimit:=e0.mod.nolimit.keeps λb o e=>(e0.bs b o e).1
 have hkind:∀y∈ps.zip us,scope.names.lookup y.1=some .local∨(scope.names.lookup y.1=some .cell/\((cellsFrom (s.heap.objs.size+1) scope.names []).lookup y.1).isSome=true):=λ⟨n,v⟩ hy=>by
  rcases S.par n (of_mem_zip hy).1 with q|q
  ·exact .inl q
  ·exact .inr ⟨q,PySem.W.cellsFrom_some _ _ _ (.inl q)⟩
 refine codeAny_call_function hr.depth (KX _ _ lk) rfl S.co S.gen rfl (PySem.W.codeRec_of KX hcd) (hb _ _ _ _ ?_);refine wpAny_newFunctionEnv_cells S.kind hkind λenv he s1 x=>?_
 subst he;refine⟨lim.keeps x.toInCall.keep,codeAny_func ?_⟩;obtain⟨t,ht,hq⟩:=hbody A outer s H vs Q E (hr.deeper _) hsp;have I:Inv (ZCs CX P w K mg base N qual scope f cdv A outer s H E) [] (ZCY N vs) H s1:=ZK3 S hr.hd e0 hl r x;refine wpAny_mono (ht [] s1 (ZCY N vs) H _ I hq) (λfl s' hs=>?_) λe s' hs=>hs
 have fin:∀{σ':St} {H':Hp} {v:V} {u:Value},Inv (ZCs CX P w K mg base N qual scope f cdv A outer s H E) [] σ' H' s'->ZU v u->Q v H'->CE outer P w H s Q u s' :=
  λ{σ' H' v u} J rv q=>⟨v,H',J.os,J.bare,J.base,J.hok,rv,q⟩
 cases fl with
 |ret u =>
  obtain⟨v,σ',H',J,rv,q⟩:=hs;exact fin J rv q
 |next =>
  obtain⟨σ',H',J,q⟩:=hs;exact fin (v:=V.non) (u:=Value.none) J rfl q
 |brk =>
  obtain⟨_,_,_,q⟩:=hs;exact False.elim q
 |cont =>
  obtain⟨_,_,_,q⟩:=hs;exact False.elim q
section
variable{X:Cx}{x:Str}{p pos:Pos}{e:Expr}{es:List Expr}{t:TA}{id T:String}{r:List V->Hp->VK->Prop}
noncomputable def tCB(r:List V->Hp->VK->Prop)(t:TA):TE:=λσ H Q=>t σ H λvs H1=>r vs H1 Q
theorem ZNR(hc:ZN X (.builtin id) r)(hg:Gl X x)(hm:X.mg x=none)(hv:bootBuiltins x=some (.builtin id))(ha:PA X (e::es) t)(hn:x≠"__name__":=by decide)(hdb:(x == ("__debug__" : Str))=false:=by decide)
  (he:starEach (e::es) X.env=(false,eval e X.env)::starEach es X.env:=by rfl)(hpl:(backTo pos (starEach es X.env)).any (·.1)=false:=by rfl):PE X (.Call (.Name x p) (e::es) [] pos) (tCB r t):=by
 intro pins s σ H Q I h;refine wpAny_Call_Name_kw (ZAv I hg hm hv ?_ hn hdb);exact PyProof.Rows.callWith_builtin1 (thn (ha pos pins s σ H _ I h) λus s1 ⟨vs,H1,I1,r1,q1⟩=>hc pins s1 σ H1 vs us Q I1 r1 q1) he hpl
theorem ZF7(hc:ZN X (.type T) r)(hg:Gl X x)(hm:X.mg x=none)(hv:bootBuiltins x=some (.type T))(ha:PA X (e::es) t)(hn:x≠"__name__":=by decide)(hdb:(x == ("__debug__" : Str))=false:=by decide)
  (he:starEach (e::es) X.env=(false,eval e X.env)::starEach es X.env:=by rfl)(hpl:(backTo pos (starEach es X.env)).any (·.1)=false:=by rfl):PE X (.Call (.Name x p) (e::es) [] pos) (tCB r t):=by
 intro pins s σ H Q I h;refine wpAny_Call_Name_kw (ZAv I hg hm hv ?_ hn hdb);exact PyProof.Rows.callWith_type1 (thn (ha pos pins s σ H _ I h) λus s1 ⟨vs,H1,I1,r1,q1⟩=>hc pins s1 σ H1 vs us Q I1 r1 q1) he hpl
end
end L2
namespace HT
open PySem PyProof.Rows
noncomputable def lexLt:List Int->List Int->Bool
 |[],[]=>false
 |[],_::_=>true
 |_::_,[]=>false
 |x::xs,y::ys=>if x=y then lexLt xs ys else decide (x<y)
theorem ZIQ(x y:Int)(xs ys:List Int):lexLt (x::xs) (y::ys)=if x=y then lexLt xs ys else decide (x<y):=rfl
theorem ZFJ:lexLt [] []=false:=rfl
theorem ZEh(y:Int)(ys:List Int):lexLt [] (y::ys)=true:=rfl
theorem ZEi(x:Int)(xs:List Int):lexLt (x::xs) []=false:=rfl
theorem ZEr(A:Around)(s:Shared)(a:Int)(t:Tok)(c:Int)(u:Tok):∃e,SeqAt.EqAt A s (.int a t) (.int c u) e/\(e=true ↔ a=c) :=
 ⟨(a == c),SeqAt.EqAt.int_int a t c u,by simp⟩
theorem ZLv(A:Around)(s:Shared)(a:Int)(t:Tok)(c:Int)(u:Tok)(prog:Program)(w:World)(E:Value->Shared->Prop)(Q:Value->Shared->Prop)(h:Q (.bool (decide (a<c))) s) :
  wpAny (model prog w) A (richCompare .Lt (.int a t) (.int c u)) Q E s :=
 (PyProof.Rows.lt_int h:wpAny (model prog w) A (compareOp .Lt (.int a t) (.int c u)) Q E s)
section
open PySem.SeqAt
open PySem.AutoSeq1 (wpAny_loadPart')
open PySem.MeetsSeq PySem.MeetsSeq2 PySem.MeetsSeq3
theorem ZFV(l b:Addr)(items items2:Array Value)(n n2:Nat)(dd dd2:Option Addr)(sl sl2:Array (Option Value))(ns ms:List Int)(hi:IntsAre items.toList ns)(hj:IntsAre items2.toList ms) :
  Meets (Builtin.«tuple.__lt__» ⟨[.ref l,.ref b],[]⟩)
   (λ _ R s=>s.heap.get? l=some { cls:=.type "tuple",dict:=dd,data:=.seq items n,slots:=sl }/\s.heap.get? b=some { cls:=.type "tuple",dict:=dd2,data:=.seq items2 n2,slots:=sl2 } /\
    R (.ok (.ret (.bool (lexLt ns ms)))) s) :=
 .of_wp λprog w A R s h=>by
  obtain⟨hp,g,d,tk,os⟩:=s;obtain⟨hl,hb,h⟩:=h;have f2:=AutoSeq1.sub_tuple_tuple;have z1:items.size=ns.length:=by rw[←hi.length];simp
  have z2:items2.size=ms.length:=by rw[←hj.length];simp
  wp_walk using wpAny_loadPart' hl,wpAny_loadPart' hb,wpAny_forIn_list _ (λ rest b s'=>b.1=none/\s'=⟨hp,g,d,tk,os⟩/\∃ (vs ws:List Value) (ns' ms':List Int),rest=vs.zip ws /\
   IntsAre vs ns'/\IntsAre ws ms'/\ns'.length+items2.size=ms'.length+items.size/\R (.ok (.ret (.bool (lexLt ns' ms')))) ⟨hp,g,d,tk,os⟩) _
  case turn =>
   rintro ⟨y,x⟩ rest b s' ⟨hb',rfl,vs,ws,ns',ms',hz,hvi,hwi,hlen,hR⟩
   cases hvi with
   |nil=>rw[zip_nil_left] at hz;cases hz
   |cons a t hvi' =>
    cases hwi with
    |nil=>rw[List.zip_nil_right] at hz;cases hz
    |cons c u hwi' =>
     rw[zip_cons_cons] at hz;injection hz with hyx hrest
     injection hyx with hy hx
     subst hy hx;rw[ZIQ] at hR;simp only[length_cons] at hlen;obtain⟨e,he,hiff⟩:=ZEr A.in1 ⟨hp,g,d,tk,os⟩ a t c u;refine wpAny_bind (he prog w _ _ ?_);cases e with
     |true =>
      rw[if_pos (hiff.mp rfl)] at hR
      wp_walk
      exact⟨rfl,rfl,_,_,_,_,hrest,hvi',hwi',by omega,hR⟩
     |false =>
      rw[if_neg (λq=>absurd (hiff.mpr q) Bool.false_ne_true)] at hR;have hri:=ZLv A.in1 ⟨hp,g,d,tk,os⟩ a t c u prog w
      wp_walk using hri
      exact⟨_,rfl,by simpa using hR⟩
  case fin =>
   rintro ⟨b1,b2⟩ s' ⟨hb',rfl,vs,ws,ns',ms',hz,hvi,hwi,hlen,hR⟩
   simp only at hb';subst hb';have hv:lexLt ns' ms'=decide (items.size<items2.size):=by
    cases hvi with
    |nil =>
     cases hwi with
     |nil =>
      simp only[length_nil] at hlen;rw[ZFJ];exact(decide_eq_false (by omega)).symm
     |cons c u hw =>
      simp only[length_nil,length_cons] at hlen;rw[ZEh];exact(decide_eq_true (by omega)).symm
    |cons a t hv =>
     cases hwi with
     |nil =>
      simp only[length_nil,length_cons] at hlen;rw[ZEi];exact(decide_eq_false (by omega)).symm
     |cons c u hw =>
      rw[zip_cons_cons] at hz;cases hz
   rw[hv] at hR
   wp_walk
   exact⟨_,rfl,by simpa [Builtin.Tuple.tupleCompareSizes] using hR⟩
  case h =>
   exact⟨rfl,rfl,items.toList,items2.toList,ns,ms,rfl,hi,hj,by omega,h⟩
end
section
variable{prog:Program}{w:World}{A:Around}{E:Value->Shared->Prop}{s:Shared}
theorem lt_tupInts{l b:Addr}{items items2:Array Value}{ns ms:List Int}{Q:Value->Shared->Prop}(hl:IsTup s.heap l items)(hb:IsTup s.heap b items2)(hi:IntsAre items.toList ns)(hj:IntsAre items2.toList ms)
  (hu:A.units<cLine)(h:Q (.bool (lexLt ns ms)) s):wpAny (model prog w) A (compareOp .Lt (.ref l) (.ref b)) Q E s:=by
 obtain⟨⟨cls,dd,data,sl⟩,ho,hc,n,hd⟩:=id hl;obtain⟨⟨cls2,dd2,data2,sl2⟩,ho2,hc2,n2,hd2⟩:=id hb;simp only at hc hd hc2 hd2;subst hc hd hc2 hd2;exact richCompare_meets_room (op:=.Lt) ⟨_,ho,rfl⟩ ⟨_,ho2,rfl⟩ PySem.F.slot_tuple_lt PySem.F.entry_tuple_lt (PySem.F.args_tuple_lt_2 _ _) (ZFV l b items items2 n n2 dd dd2 sl sl2 ns ms hi hj)
  ⟨ho,ho2,show Value.bool (lexLt ns ms)≠Value.notImplemented/\Q (.bool (lexLt ns ms)) s from ⟨(λx=>nomatch x),h⟩⟩ hu
theorem ZOY{t b:Addr}{vs ws:List Value}{Q:Value->Shared->Prop}(ht:IsTup s.heap t vs.toArray)(hb:IsTup s.heap b ws.toArray)(hv:vs≠[])
  (h1:ws=[]->Q (.ref t) s)(h2:ws≠[]->Q (.ref s.heap.objs.size) { s with heap:=s.heap.push { cls:=.type "tuple",data:=.seq (vs++ws).toArray } })
  (hsz:vs.length+ws.length<=sizeLine):wpAny (model prog w) A (binaryOp .Add (.ref t) (.ref b)) Q E s:=by
 obtain⟨⟨cls,dd,data,sl⟩,ho,hc,n,hd⟩:=id ht;obtain⟨⟨cls2,dd2,data2,sl2⟩,ho2,hc2,n2,hd2⟩:=id hb;simp only at hc hd hc2 hd2;subst hc hd hc2 hd2;have e:vs.toArray++ws.toArray=(vs++ws).toArray:=by simp
 by_cases hw:ws=[]
 ·exact concat_meets ⟨_,ho,rfl⟩ ⟨_,ho2,rfl⟩ noFill_tuple_add seq_tuple_add PySem.F.slot_tuple_add PySem.F.entry_tuple_add (PySem.F.args_tuple_add_2 _ _)
   (tuple_addW1 t b vs.toArray ws.toArray n n2 dd dd2 sl sl2 (by simpa using hv) (by simp[hw])) ⟨ho,ho2,h1 hw⟩
 ·refine concat_meets ⟨_,ho,rfl⟩ ⟨_,ho2,rfl⟩ noFill_tuple_add seq_tuple_add PySem.F.slot_tuple_add PySem.F.entry_tuple_add (PySem.F.args_tuple_add_2 _ _)
   (tuple_addW2 t b vs.toArray ws.toArray n n2 dd dd2 sl sl2 (by simpa using hv) (by simpa using hw) (by rw[size_toArray,size_toArray];exact hsz)) ⟨ho,ho2,?_⟩
  rw[e];exact h2 hw
noncomputable def sIx(n d:Nat):Option Int->Nat
 |none=>d
 |some v=>if v<0 then (v+(n:Int)).toNat else min v.toNat n
theorem sIx_none(n d:Nat):sIx n d none=d:=rfl
theorem sIx_nat(n d k:Nat):sIx n d (some (k:Int))=min k n:=by
 show(if (k:Int)<0 then ((k:Int)+(n:Int)).toNat else min (k:Int).toNat n)=min k n;rw[if_neg (by omega),toNat_natCast]
theorem ZRx(n d:Nat)(hd:d<=n)(o:Option Int):sIx n d o<=n:=by
 cases o with
 |none=>exact hd
 |some v =>
  show(if v<0 then (v+(n:Int)).toNat else min v.toNat n)<=n
  by_cases hv:v<0
  ·rw[if_pos hv];omega
  ·rw[if_neg hv];exact Nat.min_le_right _ _
theorem ZJM(v:Int)(n d:Nat):(if v<0 then max (v+(n:Int)) 0 else min v (n:Int))=((sIx n d (some v):Nat):Int):=by
 show(if v<0 then max (v+(n:Int)) 0 else min v (n:Int))=(((if v<0 then (v+(n:Int)).toNat else min v.toNat n):Nat):Int)
 by_cases hv:v<0
 ·simp only[if_pos hv];omega
 ·simp only[if_neg hv];omega
theorem ZIk(lo hi:Option Int)(n:Nat):Builtin.Slice.sliceAdjust lo hi 1 (n:Int)=(((sIx n 0 lo:Nat):Int),((sIx n n hi:Nat):Int)):=by
 have h1 : ¬((1:Int)<0):=by omega
 unfold Builtin.Slice.sliceAdjust;simp only[h1,if_false];refine Prod.ext ?_ ?_
 ·cases lo with
  |none=>rfl
  |some v=>exact ZJM v n 0
 ·cases hi with
  |none=>rfl
  |some v=>exact ZJM v n n
theorem ZIN(i j:Nat):Builtin.Slice.slicePlaces (i:Int) (j:Int) 1=j-i:=by
 unfold Builtin.Slice.slicePlaces;have h1:(1:Int) > 0:=by omega
 simp only[h1,if_true,Int.ediv_one]
 split <;> omega
theorem ZE9{v:Value}{o:Option Int}{Q:Option Int->Shared->Prop}(p:IsPart v o)(h:Q o s):wpAny (model prog w) A (Builtin.Slice.slicePartIndex v) Q E s:=by
 cases p with
 |none=>exact slicePart_none h
 |int i t=>exact slicePart_int h
theorem ZBg{sl:Addr}{vl vu:Value}{lo hi:Option Int}{n:Nat}{Q:Int×Int×Nat->Shared->Prop}(hs:s.heap.IsSliceOf sl vl vu .none)(pl:IsPart vl lo)(pu:IsPart vu hi)
  (h:Q (((sIx n 0 lo:Nat):Int),1,sIx n n hi-sIx n 0 lo) s):wpAny (model prog w) A (Builtin.Slice.sliceApplied (.ref sl) (pure (n:Int))) Q E s:=by
 obtain⟨os,hos,hcs,hds⟩:=id hs;unfold Builtin.Slice.sliceApplied Builtin.Slice.sliceFields;refine wpAny_bind (wpAny_bind (wpAny_field hos hds (x:=vl) rfl (wpAny_bind (wpAny_field hos hds (x:=vu) rfl (wpAny_bind (wpAny_field hos hds (x:=.none) rfl (wpAny_pure ?_)))))));refine wpAny_bind (slicePart_none ?_);show wpAny _ _ (if ((1:Int) == 0)=true then _ else _) _ _ s;rw[if_neg (by decide)];refine wpAny_bind (ZE9 pl (wpAny_bind (ZE9 pu (wpAny_bind (wpAny_pure ?_)))));show wpAny _ _ (match Builtin.Slice.sliceAdjust lo hi 1 (n:Int) with|(lo,hi)=>pure (lo,(1:Int),Builtin.Slice.slicePlaces lo hi 1)) _ _ s;rw[ZIk lo hi n];show wpAny _ _ (pure (((sIx n 0 lo:Nat):Int),(1:Int),Builtin.Slice.slicePlaces ((sIx n 0 lo:Nat):Int) ((sIx n n hi:Nat):Int) 1)) _ _ s;rw[ZIN];exact wpAny_pure h
theorem ZM8(xs:Array Value)(i k:Nat):((List.range k).filterMap λ(m:Nat)=>xs[((i:Int)+(m:Int)*1).toNat]?).toArray=((xs.toList.drop i).take k).toArray:=by
 have e:(λ(m:Nat)=>xs[((i:Int)+(m:Int)*1).toNat]?) = λm=>xs[i+m]?:=by
  funext m
  have:((i:Int)+(m:Int)*1).toNat=i+m:=by omega
  rw[this]
 rw[e];have:=pick_run xs i k;rw[List.filterMap_map] at this
 have e2:((λx=>xs[x]?) ∘ λx=>i+x) = λm=>xs[i+m]?:=rfl
 rw[e2] at this
 rw[this]
theorem getItem_tuple_cut{t sl:Addr}{items:Array Value}{vl vu:Value}{lo hi:Option Int}{Q:Value->Shared->Prop}(ht:IsTup s.heap t items)(hs:s.heap.IsSliceOf sl vl vu .none)(pl:IsPart vl lo)(pu:IsPart vu hi)
  (hw : ¬(sIx items.size 0 lo=0/\sIx items.size items.size hi=items.size))
  (h:Q (.ref s.heap.objs.size) { s with heap:=s.heap.push { cls:=.type "tuple",data:=.seq ((items.toList.drop (sIx items.size 0 lo)).take (sIx items.size items.size hi-sIx items.size 0 lo)).toArray } })
  (hsz:items.size<=sizeLine):wpAny (model prog w) A (getItem (.ref t) (.ref sl)) Q E s:=by
 have htake:sizeOk (.seq ((items.toList.drop (sIx items.size 0 lo)).take (sIx items.size items.size hi-sIx items.size 0 lo)).toArray):=by
  show((items.toList.drop (sIx items.size 0 lo)).take (sIx items.size items.size hi-sIx items.size 0 lo)).toArray.size<=sizeLine;rw[size_toArray,length_take,length_drop,Array.length_toList];omega
 have hj:sIx items.size items.size hi<=items.size:=ZRx _ _ (le_refl _) hi;obtain⟨os,hos,hcs,hds⟩:=id hs;have hTs:s.TypeIs (.ref sl) "slice":=⟨os,hos,hcs⟩;unfold getItem
 try with_reducible refine wpAny_holding ?_
 first|refine wpAny_bind (wpAny_pure ?_)|skip
 refine wpAny_bind (wpAny_sequenceKey ht.typeIs (by decide) ?_);refine wpAny_bind (wpAny_callSpecial?_slot (name:=Str.ofString "__getitem__") ht.typeIs PyProof.Rows.slot_tuple_getitem
  (wpAny_call_entry PyProof.Rows.slot_tuple_getitem ht.typeIs entry_tuple_getitem ?_ (args_tuple_getitem _ _)))
 show wpAny _ _ (Builtin.Tuple.tupleItemsOf (.ref t) >>= _) _ _ s;refine wpAny_bind (tupleItemsOf_ ht ?_);refine wpAny_bind (wpAny_typeOf hTs ?_);rw[if_pos (by decide)];refine wpAny_bind (ZBg hs pl pu ?_);have hno : ¬((((sIx items.size 0 lo:Nat):Int) == 0 && (1:Int) == 1 && (sIx items.size items.size hi-sIx items.size 0 lo) == items.size)=true):=by
  intro q;rw[Bool.and_eq_true,Bool.and_eq_true] at q;have q1:((sIx items.size 0 lo:Nat):Int)=0:=eq_of_beq q.1.1;have q2:sIx items.size items.size hi-sIx items.size 0 lo=items.size:=eq_of_beq q.2;exact hw ⟨by omega,by omega⟩
 show wpAny _ _ (if (((sIx items.size 0 lo:Nat):Int) == 0 && (1:Int) == 1 && (sIx items.size items.size hi-sIx items.size 0 lo) == items.size)=true then _ else _) _ _ s;rw[if_neg hno,ZM8]
 first
  |exact wpAny_bind (m:=Builtin.Tuple.tupleExact _) (wpAny_newObj_type (wpAny_pure ⟨_,rfl,wpAny_pure h⟩) htake)
  |exact wpAny_bind (m:=Builtin.Tuple.tupleExact _) (wpAny_newObj_type (wpAny_bind (wpAny_pure (wpAny_pure ⟨_,rfl,wpAny_pure h⟩))) htake)
  |exact wpAny_bind (wpAny_bind (m:=Builtin.Tuple.tupleExact _) (wpAny_newObj_type (wpAny_pure (wpAny_pure ⟨_,rfl,wpAny_pure h⟩)) htake))
  |exact wpAny_bind (wpAny_bind (m:=Builtin.Tuple.tupleExact _) (wpAny_newObj_type (wpAny_pure ⟨_,rfl,wpAny_pure h⟩) htake))
end
end HT
namespace L2
open PySem PySem.Spec PyProof.Rows
noncomputable abbrev TO:=St->Hp->(Option Int->Hp->Prop)->Prop
noncomputable def PO(X:Cx)(e:Option Expr)(t:TO):Prop :=
 ∀(pins:List (Addr×Obj)) (s:Shared) (σ : St) (H:Hp) (Q:Option Int->Hp->Prop),Inv X pins σ H s->t σ H Q ->
  wpAny (model X.prog X.w) X.A (evalPart e X.env) (λu s'=>∃o H',Inv X pins σ H' s'/\IsPart u o/\Q o H') X.xe s
noncomputable def ZO3:TO:=λ_ H Q=>Q none H
noncomputable def tPart(t:TE):TO:=λσ H Q=>t σ H λx H1=>∃i,x=.int i/\Q (some i) H1
theorem ZAI{ns:List Int}:∀{us:List Value},ZK (ns.map V.int) us->IntsAre us ns:=by
 induction ns with
 |nil=>intro us r;rw[map_nil] at r;cases r;exact .nil
 |cons n ns ih =>
  intro us r;rw[map_cons] at r;cases r with
  |cons r1 r2 =>
   obtain⟨t,e⟩:=r1;subst e;exact .cons n t (ih r2)
section
variable{X:Cx}{e:Expr}{te:TE}{lo hi:Option Expr}{tl th:TO}{pos p2:Pos}
theorem ZO5:PO X none ZO3:=by
 intro pins s σ H Q I h;rw[evalPart_none];exact wpAny_pure ⟨none,H,I,.none,h⟩
theorem ZO4(h:PE X e te):PO X (some e) (tPart te):=by
 intro pins s σ H Q I hw;rw[evalPart_some];refine thn (h pins s σ H _ I hw) λu s1 ⟨x,H1,I1,r1,q1⟩=>?_
 obtain⟨i,rfl,q⟩:=q1;obtain⟨t,rfl⟩:=r1;exact⟨some i,H1,I1,.int i t,q⟩
noncomputable def SlR(X:Cx)(r:V->Option Int->Option Int->Hp->VK->Prop):Prop :=
 ∀(pins:List (Addr×Obj)) (s:Shared) (σ : St) (H:Hp) (x:V) (v vl vu:Value) (lo hi:Option Int) (sl:Addr) (Q:VK),Inv X pins σ H s->ZU x v->s.heap.IsSliceOf sl vl vu .none->IsPart vl lo->IsPart vu hi->r x lo hi H Q ->
  ∃T id,typeLookup (.type T) "__getitem__" = pure (some (.builtin id))/\s.TypeIs v T/\wpAny (model X.prog X.w) X.A (getItem v (.ref sl)) (EP X pins σ Q) X.xe s
noncomputable def tSl(r:V->Option Int->Option Int->Hp->VK->Prop)(te:TE)(tl th:TO):TE:=λσ H Q=>te σ H λx H1=>tl σ H1 λl H2=>th σ H2 λu H3=>r x l u H3 Q
theorem ZMv{r:V->Option Int->Option Int->Hp->VK->Prop}(hr:SlR X r)(he:PE X e te)(hl:PO X lo tl)(hu:PO X hi th):PE X (.Subscript e (.Slice lo hi none p2) pos) (tSl r te tl th):=by
 intro pins s σ H Q I h;refine Subscript_ (thn (he pins s σ H _ I h) λv s1 ⟨x,H1,I1,r1,q1⟩=>?_);refine wpAny_Slice (thn (hl pins s1 σ H1 _ I1 q1) λvl s2 ⟨l,H2,I2,pl,q2⟩=>thn (hu pins s2 σ H2 _ I2 q2) λvu s3 ⟨u,H3,I3,pu,q3⟩=>?_);rw[evalPart_none];refine wpAny_pure ?_;have I4:Inv X pins σ H3 { s3 with heap:=s3.heap.push { cls:=.type "slice",data:=.fields #[vl,vu,.none] } }:=I3.kept (t':=s3.toks) λb ob q=>get?_push_of_some _ q
 obtain⟨T,id,hT,ht,hg⟩:=hr pins { s3 with heap:=s3.heap.push { cls:=.type "slice",data:=.fields #[vl,vu,.none] } } σ H3 x v vl vu l u s3.heap.objs.size Q I4 r1 (Heap.IsSliceOf.new ..) pl pu q3;show wpAny (model X.prog X.w) X.A (subscriptTail e (.Slice lo hi none p2) v (.ref s3.heap.objs.size)) (EP X pins σ Q) X.xe { s3 with heap:=s3.heap.push { cls:=.type "slice",data:=.fields #[vl,vu,.none] } };exact tail_any (ops:=[.ref s3.heap.objs.size,v]) ht hT hg (by with_unfolding_all rfl)
noncomputable def ZGN(xs:List V)(lo hi:Option Int):List V:=(xs.drop (HT.sIx xs.length 0 lo)).take (HT.sIx xs.length xs.length hi-HT.sIx xs.length 0 lo)
theorem ZDq(xs:List V)(lo hi:Option Int):(ZGN xs lo hi).length<=xs.length:=by
 unfold ZGN;rw[length_take,length_drop];omega
noncomputable def rSlT(K:PySem.W.Frag):V->Option Int->Option Int->Hp->VK->Prop:=λx lo hi H Q=>∃a xs,x=.ref a/\SqT K H a xs /\
 ¬(HT.sIx xs.length 0 lo=0/\HT.sIx xs.length xs.length hi=xs.length)/\∀p,H p=none->Q (.ref p) (upd H p (.tup (ZGN xs lo hi)))
theorem ZSH:SlR X (rSlT X.K):=by
 intro pins s σ H x v vl vu lo hi sl Q I rx hs pl pu h;obtain⟨a,xs,rfl,hx,hw,q⟩:=h;cases rx;obtain⟨its,r,ht,hz⟩:=I.tuple hx;have hlen:its.toArray.size=xs.length:=by rw[size_toArray];exact r.length.symm
 refine⟨"tuple",_,PyProof.Rows.slot_tuple_getitem.lookup,ht.typeIs,?_⟩;refine HT.getItem_tuple_cut ht hs pl pu (by rw[hlen];exact hw) ?_ (by rw[hlen];exact hz);rw[hlen];refine⟨.ref s.heap.objs.size,_,I.laid (t':=s.toks) (o:=.tup (ZGN xs lo hi)) (λb ob q=>get?_push_of_some _ q) (le_refl _) ?_,rfl,q _ (I.hok.fresh (le_refl _))⟩;exact⟨le_trans (ZDq xs lo hi) hz,_,(r.drop (HT.sIx xs.length 0 lo)).take (HT.sIx xs.length xs.length hi-HT.sIx xs.length 0 lo),IsTup.new _ _⟩
noncomputable def rLtT(K:PySem.W.Frag):R2:=λx y H Q=>∃a b ns ms,x=.ref a/\y=.ref b/\SqT K H a (ns.map V.int)/\SqT K H b (ms.map V.int)/\Q (.bl (HT.lexLt ns ms)) H
theorem ZRC(hu:X.A.units<cLine):OpR X (compareOp .Lt) (rLtT X.K):=by
 intro pins s σ H x y v u Q I rx ry h;obtain⟨a,b,ns,ms,rfl,rfl,ha,hb,q⟩:=h;cases rx;cases ry;obtain⟨its,r1,p1,_⟩:=I.tuple ha;obtain⟨its2,r2,p2,_⟩:=I.tuple hb;have i1:IntsAre its.toArray.toList ns:=ZAI r1;have i2:IntsAre its2.toArray.toList ms:=ZAI r2;exact HT.lt_tupInts p1 p2 i1 i2 hu ⟨.bl (HT.lexLt ns ms),H,I,rfl,q⟩
theorem ZK.nil_iff{xs:List V}{us:List Value}(r:ZK xs us):us=[] ↔ xs=[]:=by
 cases r with
 |nil=>simp
 |cons _ _=>simp
end
noncomputable def ixN(n:Nat)(i:Int):Option Nat:=if 0<=i then (if i<n then some i.toNat else none) else if -(n:Int)<=i then some (i+n).toNat else none
noncomputable def atI{α : Type}(xs:List α)(i:Int):Option α:=(ixN xs.length i).bind λj=>xs[j]?
theorem ZJV{n:Nat}{i:Int}{j:Nat}(h:ixN n i=some j):seqIndex? i n=some j/\j<n/\-(n:Int)<=i/\i<n:=by
 unfold ixN at h
 by_cases h0 : 0<=i
 ·rw[if_pos h0] at h
  by_cases h1:i<n
  ·rw[if_pos h1] at h
   have e:i.toNat=j:=Option.some.inj h;exact⟨by rw[seqIndex_of h0 h1,e],by omega,by omega,h1⟩
  ·rw[if_neg h1] at h;cases h
 ·rw[if_neg h0] at h
  by_cases h1 : -(n:Int)<=i
  ·rw[if_pos h1] at h
   have e:(i+n).toNat=j:=Option.some.inj h;exact⟨by rw[seqIndex_neg (by omega) h1,e],by omega,h1,by omega⟩
  ·rw[if_neg h1] at h;cases h
theorem ZGC{α : Type}{xs:List α}{i:Int}{v : α}(h:atI xs i=some v):∃j,seqIndex? i xs.length=some j/\xs[j]? = some v/\j<xs.length/\-(xs.length:Int)<=i/\i<xs.length:=by
 unfold atI at h;cases e:ixN xs.length i with
 |none=>rw[e] at h;cases h
 |some j =>
  rw[e] at h;obtain⟨h1,h2,h3,h4⟩:=ZJV e;exact⟨j,h1,h,h2,h3,h4⟩
theorem ZBp{α : Type}{xs:List α}{j:Nat}{v : α}(h:xs[j]? = some v):atI xs (j:Int)=some v:=by
 have hj:j<xs.length:=(List.getElem?_eq_some_iff.mp h).1;have e:ixN xs.length (j:Int)=some j:=by
  unfold ixN;rw[if_pos (by omega),if_pos (by omega)];simp
 unfold atI;rw[e];exact h
noncomputable def ZGf(b:Expr):Prop:=∀o i,subscripted b false o i=operate [o,i] (getItem o i)
noncomputable def IxR(X:Cx)(r:R2):Prop :=
 ∀(value slice:Expr) (pins:List (Addr×Obj)) (s:Shared) (σ : St) (H:Hp) (x y:V) (v u:Value) (Q:VK),Inv X pins σ H s->ZU x v->ZU y u->r x y H Q ->
  subscripted slice false v u=operate [v,u] (getItem v u)->wpAny (model X.prog X.w) X.A (subscriptTail value slice v u) (EP X pins σ Q) X.xe s
noncomputable def MtR(X:Cx)(id:String)(r:V->List V->Hp->VK->Prop):Prop :=
 ∀(pins:List (Addr×Obj)) (s:Shared) (σ : St) (H:Hp) (x:V) (xs:List V) (v:Value) (us:List Value) (Q:VK),Inv X pins σ H s->ZU x v->ZK xs us->r x xs H Q ->
  wpAny (model X.prog X.w) X.A (call (.builtin id) (v::us)) (EP X pins σ Q) X.xe s
section
variable{X:Cx}{a b:Expr}{ta tb:TE}{pos:Pos}
theorem pe_ix{r:R2}(hr:IxR X r)(ha:PE X a ta)(hb:PE X b tb)(hs:ZGf b):PE X (.Subscript a b pos) (tOp r ta tb):=by
 intro pins s σ H Q I h;exact Subscript_ (ZQb ha hb I h λv u s2 x y H2 I2 rx ry q=>hr a b pins s2 σ H2 x y v u Q I2 rx ry q (hs _ _))
noncomputable def rIxL(K:PySem.W.Frag):R2:=λx y H Q=>∃p xs i v,x=.ref p/\y=.int i/\SqL K H p xs/\atI xs i=some v/\Q v H
noncomputable def rIxT(K:PySem.W.Frag):R2:=λx y H Q=>∃p xs i v,x=.ref p/\y=.int i/\SqT K H p xs/\atI xs i=some v/\Q v H
noncomputable def rIxS:R2:=λx y H Q=>∃z i c,x=.str z/\y=.int i/\z.length<=sizeLine/\atI z.cps.toList i=some c/\Q (.str ⟨#[c]⟩) H
theorem ZEE:IxR X (rIxL X.K):=by
 intro value slice pins s σ H x y v u Q I rx ry h hs;obtain⟨p,xs,i,z,rfl,rfl,hq,he,q⟩:=h;cases rx;obtain⟨t,rfl⟩:=ry;obtain⟨its,r,pl,hz⟩:=I.list hq;obtain⟨j,h1,h2,h3,h4,h5⟩:=ZGC he;obtain⟨w,ew,rw'⟩:=r.get h2;have hl:=r.length;have hn:=ZDd;have fin:EP X pins σ Q w s:=⟨z,H,I,rw',q⟩
 by_cases h0 : 0<=i
 ·have hj:i.toNat=j:=by
   rw[seqIndex_of h0 h5] at h1;exact Option.some.inj h1
  exact item_listR pl.isList h0 (by omega) (by rw[hj];simpa using ew) fin hs
 ·have hj:(i+(its.toArray.size:Int)).toNat=j:=by
   rw[seqIndex_neg (by omega) h4] at h1;rw[size_toArray,←hl];exact Option.some.inj h1
  exact subscriptTail_builtinR (x:=w) pl.isList.typeIs slot_list_getitem.lookup
   (wpAny_getItem_list_neg (Q:=λr s'=>r=w/\EP X pins σ Q r s') pl.isList (by omega) (by rw[size_toArray] <;> omega) (by omega) (by rw[hj];simpa using ew) ⟨rfl,fin⟩) hs
theorem ZNY:IxR X (rIxT X.K):=by
 intro value slice pins s σ H x y v u Q I rx ry h hs;obtain⟨p,xs,i,z,rfl,rfl,hq,he,q⟩:=h;cases rx;obtain⟨t,rfl⟩:=ry;obtain⟨its,r,pl,hz⟩:=I.tuple hq;obtain⟨j,h1,h2,h3,h4,h5⟩:=ZGC he;obtain⟨w,ew,rw'⟩:=r.get h2;have hl:=r.length;have hn:=ZDd;have fin:EP X pins σ Q w s:=⟨z,H,I,rw',q⟩;exact subscriptTail_builtinR (x:=w) pl.typeIs slot_tuple_getitem.lookup
  (getItem_tuple (j:=j) (Q:=λr s'=>r=w/\EP X pins σ Q r s') pl (by omega) (by omega) (by rw[size_toArray,←hl];exact h1) (by simpa using ew) ⟨rfl,fin⟩) hs
theorem ZQ0:IxR X rIxS:=by
 intro value slice pins s σ H x y v u Q I rx ry h hs;obtain⟨z,i,c,rfl,rfl,hz,he,q⟩:=h;obtain⟨t,rfl⟩:=rx;obtain⟨t',rfl⟩:=ry;obtain⟨j,h1,h2,h3,h4,h5⟩:=ZGC he;have hl:z.cps.toList.length=z.length:=by simp[Str.length]
 rw [hl] at h1 h4 h5;have hn:=ZDd;exact tail_any (typeIs_str s z t) slot_str_getitem.lookup (getItem_str (c:=c) (by
  have e1:decide (i < -(2 ^ 63:Int))=false:=decide_eq_false (by omega);have e2:decide (i ≥ 2 ^ 63)=false:=decide_eq_false (by omega);rw[e1,e2,Bool.or_false]) (by rw[h1];simpa using h2) ⟨.str ⟨#[c]⟩,H,I.tok _,⟨_,rfl⟩,q⟩) hs
theorem ZIq(its:List Value)(n j:Nat)(u:Value):Obj.mapSeq (·.setIfInBounds j u) { cls:=.type "list",data:=.seq its.toArray n }={ cls:=.type "list",data:=.seq (its.set j u).toArray n }:=by
 simp[Obj.mapSeq]
theorem Inv.lst{pins:List (Addr×Obj)}{σ : St}{H:Hp}{s:Shared}{p:Addr}{xs:List V}(I:Inv X pins σ H s)(h:H p=some (.lst xs)) :
  ∃(its:List Value) (n:Nat),ZK xs its/\s.heap.get? p=some { cls:=.type "list",data:=.seq its.toArray n }/\xs.length<=sizeLine:=by
 obtain⟨z,its,n,r,e⟩:=I.hok p _ h;exact⟨its,n,r,e,z⟩
theorem Inv.lstUpd{pins:List (Addr×Obj)}{σ : St}{H:Hp}{s:Shared}{p:Addr}{xs ys:List V}{its its':List Value}{n n':Nat}{f:Obj->Obj}(I:Inv X pins σ H s)(h:H p=some (.lst xs))
  (ho:s.heap.get? p=some { cls:=.type "list",data:=.seq its.toArray n })(hf:f { cls:=.type "list",data:=.seq its.toArray n }={ cls:=.type "list",data:=.seq its'.toArray n' })(r:ZK ys its')(hz:ys.length<=sizeLine)(t:Nat) :
  Inv X pins σ (upd H p (.lst ys)) { s with heap:=s.heap.update p f,toks:=t }:=by
 have e:(s.heap.update p f).get? p=some { cls:=.type "list",data:=.seq its'.toArray n' }:=by
  rw[get?_update_self f ho (by rw[hf] <;> rfl),hf]
 refine I.write (x:=p) (e:=p) (by rw[h];trivial) (.inl rfl) (λb u hb q=>(get?_update_other _ _ (Ne.symm hb)).trans q) ⟨_,e⟩ ?_;exact⟨hz,its',n',r,e⟩
noncomputable def rSetL:V->V->V->Hp->(Hp->Prop)->Prop:=λo i v H Q=>∃p xs k j,o=.ref p/\i=.int k/\H p=some (.lst xs)/\ixN xs.length k=some j/\Q (upd H p (.lst (xs.set j v)))
theorem ZEZ:ZQy X rSetL:=by
 intro pins s σ H o i v ov iv u Q I ro ri rv h;obtain⟨p,xs,k,j,rfl,rfl,hp,hj,q⟩:=h;cases ro;obtain⟨t,rfl⟩:=ri;obtain⟨its,n,r,ho,hz⟩:=I.lst hp;obtain⟨h1,h2,h3,h4⟩:=ZJV hj;have hl:=r.length;have hn:=ZDd;have I':Inv X pins σ (upd H p (.lst (xs.set j v))) { s with heap:=s.heap.update p (Obj.mapSeq (·.setIfInBounds j u)) } :=
  I.lstUpd hp ho (ZIq its n j u) (r.set rv j) (by rw[length_set];exact hz) s.toks
 by_cases h0 : 0<=k
 ·have hk:k.toNat=j:=by
   rw[seqIndex_of h0 h4] at h1;exact Option.some.inj h1
  exact PySem.W.ki_setAt ho h0 (by omega) (by rw[size_toArray,←hl];exact h4) (by rw[hk];exact⟨_,I',q⟩)
 ·have hk:(k+(its.toArray.size:Int)).toNat=j:=by
   rw[seqIndex_neg (by omega) h3] at h1;rw[size_toArray,←hl];exact Option.some.inj h1
  exact PySem.W.ki_setBack ho (by omega) (by rw[size_toArray,←hl];exact h3) (by omega) (by rw[hk];exact⟨_,I',q⟩)
theorem ZGk(lo hi:Option Int)(n:Nat):(sliceBounds lo hi none n).1=((HT.sIx n 0 lo:Nat):Int)/\(sliceBounds lo hi none n).2.1=((HT.sIx n n hi:Nat):Int)/\(sliceBounds lo hi none n).2.2=1:=by
 refine⟨?_,?_,rfl⟩
 ·cases lo with
  |none=>simp[sliceBounds,HT.sIx]
  |some i =>
   simp only[sliceBounds,HT.sIx,Option.getD_none,show(1:Int) > 0 by decide,if_true]
   by_cases h:i<0
   ·simp only[h,if_true] <;> omega
   ·simp only[h,if_false] <;> omega
 ·cases hi with
  |none=>simp[sliceBounds,HT.sIx]
  |some i =>
   simp only[sliceBounds,HT.sIx,Option.getD_none,show(1:Int) > 0 by decide,if_true]
   by_cases h:i<0
   ·simp only[h,if_true] <;> omega
   ·simp only[h,if_false] <;> omega
theorem ZFP(its:List Value)(lo hi:Option Int):slicePick its.toArray lo hi none=((its.drop (HT.sIx its.length 0 lo)).take (HT.sIx its.length its.length hi-HT.sIx its.length 0 lo)).toArray:=by
 obtain⟨h1,h2,h3⟩:=ZGk lo hi its.toArray.size;unfold slicePick;rw[h1,h2,h3];simp only[sliceRange_one,pick_run,size_toArray] <;> rfl
noncomputable def rSlL(K:PySem.W.Frag):V->Option Int->Option Int->Hp->VK->Prop:=λx lo hi H Q=>∃a xs,x=.ref a/\SqL K H a xs/\∀p,H p=none->Q (.ref p) (upd H p (.lst (ZGN xs lo hi)))
theorem ZJt:SlR X (rSlL X.K):=by
 intro pins s σ H x v vl vu lo hi sl Q I rx hs pl pu h;obtain⟨a,xs,rfl,hx,q⟩:=h;cases rx;obtain⟨its,r,ht,hz⟩:=I.list hx;have hlen:=r.length;refine⟨"list",_,slot_list_getitem.lookup,ht.isList.typeIs,?_⟩;refine wpAny_getItem_list_slice ht.isList hs pl pu .none (by simp) ?_ (by rw[size_toArray] <;> omega);rw[ZFP,←hlen];refine⟨.ref s.heap.objs.size,_,I.laid (t':=s.toks) (o:=.lst (ZGN xs lo hi)) (λb ob q=>get?_push_of_some _ q) (le_refl _) ?_,rfl,q _ (I.hok.fresh (le_refl _))⟩;exact⟨le_trans (ZDq xs lo hi) hz,_,0,(r.drop (HT.sIx xs.length 0 lo)).take (HT.sIx xs.length xs.length hi-HT.sIx xs.length 0 lo),get?_push_size _ rfl⟩
theorem ZG2:ZN X (.builtin "len") (λxs H Q=>∃p ys,xs=[.ref p]/\(SqL X.K H p ys∨SqT X.K H p ys)/\Q (.int ys.length) H):=by
 intro pins s σ H xs us Q I r h;obtain⟨p,ys,rfl,hq,q⟩:=h;obtain⟨u,rfl,rx⟩:=ZAk r;cases rx;have hn:=ZDd;rcases hq with hq|hq
 ·obtain⟨its,r',pl,hz⟩:=I.list hq
  have hlen:=r'.length;exact Calls.call_len_list pl.isList (by simp only[size_toArray] <;> omega) ⟨.int ys.length,H,I.tok _,⟨s.toks+1,by rw[size_toArray,hlen]⟩,q⟩
 ·obtain⟨its,r',pl,hz⟩:=I.tuple hq
  have hlen:=r'.length;exact len_tuple pl (by simp only[size_toArray] <;> omega) ⟨.int ys.length,H,I.tok _,⟨s.toks+1,by rw[size_toArray,hlen]⟩,q⟩
theorem ZG4:ZN X (.builtin "len") (λxs H Q=>∃z,xs=[.str z]/\z.length<=sizeLine/\Q (.int z.length) H):=by
 intro pins s σ H xs us Q I r h;obtain⟨z,rfl,hz,q⟩:=h;obtain⟨u,rfl,t,rfl⟩:=ZAk r;have hn:=ZDd;exact len_str (by omega) ⟨.int z.length,H,I.tok _,⟨_,rfl⟩,q⟩
theorem ZN.or{f:Value}{r r':List V->Hp->VK->Prop}(h:ZN X f r)(h':ZN X f r'):ZN X f (λxs H Q=>r xs H Q∨r' xs H Q):=by
 intro pins s σ H xs us Q I rs q;rcases q with q|q
 ·exact h pins s σ H xs us Q I rs q
 ·exact h' pins s σ H xs us Q I rs q
theorem ZGI:ZN X (.type "list") (λxs H Q=>∃p ys,xs=[.ref p]/\(SqL X.K H p ys∨SqT X.K H p ys)/\∀l,H l=none->Q (.ref l) (upd H l (.lst ys))):=by
 intro pins s σ H xs us Q I r h;obtain⟨p,ys,rfl,hq,q⟩:=h;obtain⟨u,rfl,rx⟩:=ZAk r;cases rx;have fin:∀(its:List Value),ZK ys its->ys.length<=sizeLine->∀(h':Heap) (c':Nat),(∀b o',s.heap.get? b=some o'->h'.get? b=some o') ->
   h'.get? s.heap.objs.size=some { cls:=.type "list",dict:=none,data:=.seq its.toArray c',slots:=#[] }->EP X pins σ Q (.ref s.heap.objs.size) { s with heap:=h' }:=λits r' hz h' c' kp e =>
  ⟨.ref s.heap.objs.size,_,I.laid (t':=s.toks) kp (le_refl _) (show Zq X.prog X.w _ h' _ (.lst ys) from ⟨hz,its,c',r',e⟩),rfl,q _ (I.hok.fresh (le_refl _))⟩
 rcases hq with hq|hq
 ·obtain⟨its,r',pl,hz⟩:=I.list hq
  have hlen:=r'.length;obtain⟨o,ho,hc,n,hd⟩:=pl.isList;exact call_list_seq p (.inl rfl) ho hc hd (λh' c' kp e=>fin its r' hz h' c' kp e) (by simp only[size_toArray] <;> omega)
 ·obtain⟨its,r',pl,hz⟩:=I.tuple hq
  have hlen:=r'.length;obtain⟨o,ho,hc,n,hd⟩:=pl;exact call_list_seq p (.inr rfl) ho hc hd (λh' c' kp e=>fin its r' hz h' c' kp e) (by simp only[size_toArray] <;> omega)
theorem ZFU:ZN X (.type "tuple") (λxs H Q=>∃p ys,xs=[.ref p]/\((SqL X.K H p ys/\∀l,H l=none->Q (.ref l) (upd H l (.tup ys)))∨(SqT X.K H p ys/\Q (.ref p) H))):=by
 intro pins s σ H xs us Q I r h;obtain⟨p,ys,rfl,h⟩:=h;obtain⟨u,rfl,rx⟩:=ZAk r;cases rx;rcases h with ⟨hq,q⟩|⟨hq,q⟩
 ·obtain⟨its,r',pl,hz⟩:=I.list hq
  have hlen:=r'.length;refine call_tuple_list pl.isList (λh' kp=>?_) (by simp only[size_toArray] <;> omega);have I1:Inv X pins σ H { s with heap:=h' }:=I.kept (t':=s.toks) kp;have I2:Inv X pins σ (upd H h'.objs.size (.tup ys)) { s with heap:=h'.push { cls:=.type "tuple",data:=.seq its.toArray } } :=
   I1.laid (t':=s.toks) (λb o e=>get?_push_of_some _ e) (le_refl _) (show Zq X.prog X.w _ _ _ (.tup ys) from ⟨hz,its,r',IsTup.new _ _⟩)
  exact⟨.ref h'.objs.size,_,I2,rfl,q _ (I1.hok.fresh (le_refl _))⟩
 ·obtain⟨its,r',pl,hz⟩:=I.tuple hq
  exact call_tuple_same pl ⟨.ref p,H,I,rfl,q⟩
noncomputable def tyV(K:PySem.W.Frag)(T:String)(x:V)(H:Hp):Prop:=match x with
 |.str _=>T = "str"
 |.int _=>T = "int"
 |.ref p=>(T = "list"/\∃xs,SqL K H p xs)∨(T = "tuple"/\∃o,K.lookup p=some o/\o.cls=.type "tuple"/\o.dict=none) ∨
   (T = "dict"/\((∃kvs,H p=some (.dK kvs))∨∃kvs,H p=some (.dT kvs)))∨(T = "set"/\∃S n,H p=some (.set S n))
 |_=>False
theorem ZK8{pins:List (Addr×Obj)}{σ : St}{H:Hp}{s:Shared}{T:String}{x:V}{v:Value}(I:Inv X pins σ H s)(r:ZU x v)(ty:tyV X.K T x H) :
  s.TypeIs v T/\∀a,v=.ref a->∃ob,s.heap.get? a=some ob/\ob.dict=none:=by
 cases x with
 |str z =>
  obtain⟨t,rfl⟩:=r;cases (show T = "str" from ty);exact⟨typeIs_str s z t,λ_ e=>nomatch e⟩
 |int i =>
  obtain⟨t,rfl⟩:=r;cases (show T = "int" from ty);exact⟨typeIs_int s i t,λ_ e=>nomatch e⟩
 |ref p =>
  cases r;rcases ty with ⟨rfl,xs,hq⟩|⟨rfl,o,hk,hc,hd⟩|⟨rfl,hk⟩|⟨rfl,S,n,hk⟩
  ·obtain⟨its,_,pl,_⟩:=I.list hq
   refine⟨pl.isList.typeIs,λa e=>?_⟩;cases e;obtain⟨o,n,e,c,hd,_⟩:=pl;exact⟨o,e,hd⟩
  ·refine⟨⟨o,I.kIn p o hk,hc⟩,λa e=>?_⟩
   cases e;exact⟨o,I.kIn _ o hk,hd⟩
  ·have z:∃o,s.heap.get? p=some o/\o.ExactDict:=by
    rcases hk with ⟨kvs,hk⟩|⟨kvs,hk⟩
    ·obtain⟨_,_,_,_,o,_,_,e,ex,_⟩:=I.hok p _ hk
     exact⟨o,e,ex⟩
    ·obtain⟨_,_,_,_,o,_,_,e,ex,_⟩:=I.hok p _ hk
     exact⟨o,e,ex⟩
   obtain⟨o,e,ex⟩:=z;refine⟨⟨o,e,ex.1⟩,λa e2=>?_⟩;cases e2;exact⟨o,e,ex.2.1⟩
  ·obtain⟨o,_,_,_,e,ex,_⟩:=I.hok p _ hk
   refine⟨⟨o,e,ex.1⟩,λa e2=>?_⟩;cases e2;exact⟨o,e,ex.2.1⟩
 |_=>exact False.elim ty
noncomputable def tBM(K:PySem.W.Frag)(T:String)(r:V->List V->Hp->VK->Prop)(to:TE)(t:TA):TE:=λσ H Q=>to σ H λx H1=>tyV K T x H1/\t σ H1 λxs H2=>r x xs H2 Q
variable{o e:Expr}{es:List Expr}{to:TE}{t:TA}{name:Str}{apos cpos:Pos}{T id:String}{r:V->List V->Hp->VK->Prop}
theorem ZHX(pa:PlainAttrs T)(slot:Slot T name id)(hty:typeOf (.builtin id)=pure (.type "method_descriptor"))(hm:MtR X id r)(ho:PE X o to)(ha:PA X (e::es) t)
  (hbase:attributeBase o name X.env (eval o X.env)=eval o X.env:=by rfl)
  (hfew:((backTo cpos (starEach (e :: es) X.env)).all (λ x=>!x.1) && (backToKw cpos (keywordEach [] X.env)).all (λ x=>x.1.isSome)
   && decide ((e::es).length+([]:List Keyword).length+(if ([]:List Keyword).isEmpty then 0 else 1)<30))=true:=by rfl)
  (hline:(apos.endLine == cpos.line)=true:=by rfl)(hs:starEach (e::es) X.env=(false,eval e X.env)::starEach es X.env:=by rfl)(hplain:(backTo cpos (starEach es X.env)).any (·.1)=false:=by rfl) :
  PE X (.Call (.Attribute o name apos) (e::es) [] cpos) (tBM X.K T r to t):=by
 intro pins s σ H Q I h;refine wpAny_Call_method_late hbase hfew hline rfl (thn (ho pins s σ H _ I h) λv s1 ⟨x,H1,I1,r1,ty,q1⟩=>?_);obtain⟨h1,h2⟩:=ZK8 I1 r1 ty;refine⟨T,id,pa,slot,hty,h1,h2,?_⟩;have hA:=ha cpos pins s1 σ H1 _ I1 q1;rw[hs] at hA ⊢;refine Calls.callWith_builtin (by show(false || (backTo cpos (starEach es X.env)).any (·.1))=false;rw[hplain] <;> rfl) (Calls.evalArgs_plain ?_);exact thn hA λus s2 ⟨vs,H2,I2,r2,q2⟩=>hm pins s2 σ H2 x vs v us Q I2 r1 r2 q2
end
noncomputable def MtM(X:Cx)(id:String)(r:V->List V->Hp->VK->Prop):Prop :=
 ∀(pins:List (Addr×Obj)) (s:Shared) (σ : St) (H:Hp) (x:V) (xs:List V) (v:Value) (us:List Value) (Q:VK),Inv X pins σ H s->ZU x v->ZK xs us->r x xs H Q ->
  wpAny (model X.prog X.w) X.A (call (.builtin id) (v::us)) (EP X pins σ Q) X.xe s
theorem ZK.one:∀{x:V} {us:List Value},ZK [x] us->∃u,us=[u]/\ZU x u
 |_,_,.cons r .nil=>⟨_,rfl,r⟩
theorem ZK.two:∀{x y:V} {us:List Value},ZK [x,y] us->∃u v,us=[u,v]/\ZU x u/\ZU y v
 |_,_,_,.cons r (.cons q .nil)=>⟨_,_,rfl,r,q⟩
theorem ZK.eraseIdx:∀{xs:List V} {us:List Value} (i:Nat),ZK xs us->ZK (xs.eraseIdx i) (us.eraseIdx i)
 |_,_,_,.nil=>.nil
 |_,_,0,.cons _ t=>t
 |_,_,i+1,.cons r t=>.cons r (ZK.eraseIdx i t)
theorem ZK.rep{xs:List V}{us:List Value}(h:ZK xs us):∀k:Nat,ZK (List.replicate k xs).flatten (List.replicate k us).flatten
 |0=>.nil
 |k+1=>by
  rw[replicate_succ,replicate_succ,flatten_cons,flatten_cons];exact ZK.append h (ZK.rep h k)
theorem ZFu{α : Type}:∀(l:List α) (i:Nat),(l.eraseIdx i).length<=l.length
 |[],_=>le_refl _
 |_::_,0=>le_succ _
 |_::r,i+1=>Nat.succ_le_succ (ZFu r i)
theorem ZDg(its:List Value):∀(k:Nat) (acc:List Value),
  List.foldl (λx1 x2=>x1++x2) acc.toArray (List.replicate k its.toArray)=(acc++(List.replicate k its).flatten).toArray
 |0,acc=>by simp
 |k+1,acc=>by
  have e:acc.toArray++its.toArray=(acc++its).toArray:=by simp
  have e2:(acc++its)++(List.replicate k its).flatten=acc++(List.replicate (k+1) its).flatten:=by
   rw[replicate_succ,flatten_cons,append_assoc]
  rw[←e2,←ZDg its k (acc++its),←e,replicate_succ,foldl_cons]
section
variable{X:Cx}{pins:List (Addr×Obj)}{σ : St}{H:Hp}{s:Shared}{l b:Addr}{xs ys zs:List V}
theorem Inv.lset{its its':List Value}{n:Nat}{f:Array Value->Array Value}{t':Nat}(I:Inv X pins σ H s)(hH:H l=some (.lst xs))
  (e:s.heap.get? l=some { cls:=.type "list",data:=.seq its.toArray n })(hf:f its.toArray=its'.toArray)(hv:ZK ys its')(hz:ys.length<=sizeLine) :
  Inv X pins σ (upd H l (.lst ys)) { s with heap:=s.heap.update l (Obj.mapSeq f),toks:=t' }:=by
 have q:=PySem.IsL.update e f;rw[hf] at q;refine I.write (x:=l) (e:=l) (by rw[hH];exact trivial) (.inl rfl) (λb' u hb hu=>(get?_update_other s.heap (Obj.mapSeq f) (Ne.symm hb)).trans hu) ⟨_,q⟩ ?_;exact⟨hz,its',_,hv,q⟩
theorem Inv.lnew{its:List Value}{t':Nat}(I:Inv X pins σ H s)(hv:ZK ys its)(hz:ys.length<=sizeLine) :
  Inv X pins σ (upd H s.heap.objs.size (.lst ys)) { s with heap:=s.heap.push { cls:=.type "list",data:=.seq its.toArray },toks:=t' } :=
 I.laid (λ_ _ q=>get?_push_of_some _ q) (le_refl _) ⟨hz,its,0,hv,get?_push_size _ rfl⟩
theorem Inv.fresh(I:Inv X pins σ H s):H s.heap.objs.size=none:=I.hok.fresh (le_refl _)
theorem Inv.lstM(I:Inv X pins σ H s)(hH:H l=some (.lst xs)):xs.length<=sizeLine/\∃(its:List Value) (n:Nat),ZK xs its/\xs.length=its.length/\s.heap.get? l=some { cls:=.type "list",data:=.seq its.toArray n }:=by
 obtain⟨z,its,n,r,e⟩:=I.hok l _ hH;exact⟨z,its,n,r,r.length,e⟩
theorem ZMQ{n:Nat}(h:n<=sizeLine):Builtin.List.listTooLong n=false:=by
 unfold Builtin.List.listTooLong;exact decide_eq_false (by omega)
end
section
variable{X:Cx}
noncomputable def ZOi:V->List V->Hp->VK->Prop:=λx vs H Q=>∃l xs y,x=.ref l/\vs=[y]/\H l=some (.lst xs)/\xs.length<sizeLine/\Q .non (upd H l (.lst (xs++[y])))
theorem ZDR:MtM X "list.append" ZOi:=by
 intro pins s σ H x vs v us Q I rx rv h;obtain⟨l,xs,y,rfl,rfl,hH,hz,q⟩:=h;cases rx;obtain⟨u,rfl,ru⟩:=rv.one;obtain⟨z,its,n,r,hl,e⟩:=I.lstM hH;refine call_meets F.slot_list_append ⟨_,e,rfl⟩ F.entry_list_append (F.args_list_append_2 _ _) (PySem.list_append l its.toArray n u (by rw[size_toArray];omega)) ⟨e,?_⟩;refine⟨.non,_,I.lset (its':=its++[u]) hH e (by simp) (r.append (.cons ru .nil)) ?_,rfl,q⟩;rw[length_append,List.length_singleton];omega
noncomputable def ZSD:V->List V->Hp->VK->Prop:=λx vs H Q=>∃l xs i k y,x=.ref l/\vs=[.int i]/\H l=some (.lst xs)/\-(2 ^ 63)<=i/\i<2 ^ 63/\seqIndex? i xs.length=some k/\xs[k]? = some y/\Q y (upd H l (.lst (xs.eraseIdx k)))
theorem ZNP:MtM X "list.pop" ZSD:=by
 intro pins s σ H x vs v us Q I rx rv h;obtain⟨l,xs,i,k,y,rfl,rfl,hH,h1,h2,hk,hy,q⟩:=h;cases rx;obtain⟨u,rfl,ru⟩:=rv.one;obtain⟨t,rfl⟩:=ru;obtain⟨z,its,n,r,hl,e⟩:=I.lstM hH;obtain⟨w,hw,rw'⟩:=r.get hy;refine call_meets F.slot_list_pop ⟨_,e,rfl⟩ F.entry_list_pop (F.args_list_pop_2 _ _)
  (MeetsSeq.list_pop_at l its.toArray n i t k w (fitsIndex_both h1 h2) (by rw[size_toArray,←hl];exact hk) (by rw[←Array.getElem?_toList];exact hw) (by rw[size_toArray];omega)) ⟨e,?_⟩
 refine⟨y,_,I.lset (its':=its.eraseIdx k) hH e ?_ (r.eraseIdx k) ?_,rw',q⟩
 ·show its.toArray.eraseIdxIfInBounds k=(its.eraseIdx k).toArray
  rw[List.eraseIdxIfInBounds_toArray]
 ·have:=ZFu xs k
  omega
noncomputable def rCat:R2:=λx y H Q=>∃l b xs zs,x=.ref l/\y=.ref b/\H l=some (.lst xs)/\H b=some (.lst zs)/\xs.length+zs.length<=sizeLine/\∀p,H p=none->Q (.ref p) (upd H p (.lst (xs++zs)))
theorem ZRi:OpR X (binaryOp .Add) rCat:=by
 intro pins s σ H x y v u Q I rx ry h;obtain⟨l,b,xs,zs,rfl,rfl,hH,hB,hz,q⟩:=h;cases rx;cases ry;obtain⟨z,its,n,r,hl,e⟩:=I.lstM hH;obtain⟨z2,its2,n2,r2,hl2,e2⟩:=I.lstM hB;refine PySem.P.add_list e e2 ?_ (by rw[size_toArray,size_toArray];omega);have ea:its.toArray++its2.toArray=(its++its2).toArray:=by simp
 rw[ea];exact⟨.ref _,_,I.lnew (t':=s.toks) (r.append r2) (by rw[length_append];omega),rfl,q _ I.fresh⟩
noncomputable def rRep:R2:=λx y H Q=>∃l k xs,x=.ref l/\y=.int k/\H l=some (.lst xs)/\-(2 ^ 63)<=k/\k<2 ^ 63/\xs.length*k.toNat<=sizeLine /\
 ∀p,H p=none->Q (.ref p) (upd H p (.lst (List.replicate k.toNat xs).flatten))
theorem ZJL{α : Type}(xs:List α)(k:Nat):(List.replicate k xs).flatten.length=k*xs.length:=by
 induction k with
 |zero=>simp
 |succ k ih=>rw[replicate_succ,flatten_cons,length_append,ih,Nat.succ_mul,add_comm]
theorem ZR4:OpR X (binaryOp .Mult) rRep:=by
 intro pins s σ H x y v u Q I rx ry h;obtain⟨l,k,xs,rfl,rfl,hH,h1,h2,hz,q⟩:=h;cases rx;obtain⟨t,rfl⟩:=ry;obtain⟨z,its,n,r,hl,e⟩:=I.lstM hH;have hlen:its.toArray.size*k.toNat<=sizeLine:=by rw[size_toArray,←hl];exact hz
 have hcap : ¬its.toArray.size*k.toNat > (2 ^ 63-1) / 8:=by
  have:(sizeLine:Nat)<=(2 ^ 63-1) / 8:=by decide
  omega
 have hfit : ¬(!Builtin.List.listFitsIndex k)=true:=by
  rw[fitsIndex_both h1 h2];exact Bool.false_ne_true
 have hlong : ¬Builtin.List.listTooLong (its.toArray.size*k.toNat)=true:=by
  rw[ZMQ hlen];exact Bool.false_ne_true
 have hnew:List.foldl (λx1 x2=>x1++x2) #[] (List.replicate (if its.toArray.isEmpty=true then 0 else k.toNat) its.toArray)=(List.replicate k.toNat its).flatten.toArray:=by
  have f0:∀m:Nat,List.foldl (λx1 x2=>x1++x2) #[] (List.replicate m its.toArray)=(List.replicate m its).flatten.toArray:=λm=>by
   have:=ZDg its m [];rw[nil_append] at this
   exact this
  rw[f0];cases its with
  |nil=>simp
  |cons a r'=>rw[if_neg (by simp)]
 refine wpAny_binaryOp_repeat_ref (T:="list") (U:="int") (by decide) ⟨_,e,rfl⟩ (λs'=>typeIs_int s' k t) noFill_list_mul F.fills_int_mul F.slot_int_rmul repeat_list F.slot_int_index.lookup
  (call_meets F.slot_int_rmul (typeIs_int s k t) F.entry_int_rmul (F.args_int_rmul_2 _ _) (int___rmul___int_list k t l its.toArray n)
   ⟨e,rfl,⟨_,e,rfl⟩,call_meets F.slot_list_mul ⟨_,e,rfl⟩ F.entry_list_mul (F.args_list_mul_2 _ _) (AutoListH.list___mul___list_int_3 l its.toArray n k t hfit hcap hlong) ⟨e,?_⟩⟩)
 rw[hnew];exact⟨.ref _,_,I.lnew (t':=s.toks) (r.rep k.toNat) (by rw[ZJL,Nat.mul_comm];exact hz),rfl,q _ I.fresh⟩
end
end L2
namespace Att
open PySem PySem.W PySem.Calls PyProof.Rows
theorem ZD7{P:Params}{h:Heap}:∀(ns:List Int) (vs:List Value),WellAll P h vs (ns.map WData.int)->IntsAre vs ns:=by
 intro ns
 induction ns with
 |nil =>
  intro vs w;rw[map_nil] at w;cases w;exact .nil
 |cons n ns ih =>
  intro vs w;rw[map_cons] at w;cases w with
  |cons a b =>
   cases a;exact .cons _ _ (ih _ b)
theorem ZKz{l:OpenLaw}{n:Nat}(hn:l.most=some n){P:Params}{h:Heap}{args:List WData}{vals:List Value}
  (hpre:l.row.toRowW.claim.pre args=true)(hwl:WellAll P h vals args) :
  ∃a vs ns,vals=[Value.ref a]/\args=[WData.list (ns.map WData.int)]/\h.get? a=some { cls:=.type "list",data:=.seq vs.toArray }/\IntsAre vs ns/\ns.length<=n:=by
 have hsh:WShape.hasAll [] args [.list .int]=true:=(pre_splitW hpre).1;have hc:l.pre.holds [] { args:=args }=true:=(pre_splitW hpre).2;obtain⟨d,r,rfl,h1,h2⟩:=hasAllW_cons hsh;obtain rfl:=hasAllW_nil h2;obtain⟨xs,rfl,h3⟩:=hasW_list h1;obtain⟨ns,rfl⟩:=items_int h3;have hlen:ns.length<=n:=by
  unfold OpenLaw.pre at hc;have h4:(WTm.not (.lt (.lit (.int (n:Int))) (.len (.arg 0)))).holds [] { args:=[.list (ns.map .int)] }=true:=by
   have h4:=(holds_andW hc).1;rw[hn] at h4;exact h4
  have h5:=condW_of h4 (w_not (w_lt w_lit (w_len_list (w_arg rfl))));rw[length_map] at h5;refine Nat.le_of_not_lt λq=>?_
  have q':(n:Int)<((ns.length:Nat):Int):=by omega
  first
   |(rw[decide_eq_true q'] at h5;exact absurd h5 (by decide))
   |(simp at h5;omega)
 cases hwl with
 |cons w1 w2 =>
  cases w2;cases w1 with
  |list ho hall=>exact⟨_,_,ns,rfl,rfl,ho,ZD7 ns _ hall,hlen⟩
theorem ZKj(l:OpenLaw)(args:List WData):l.row.toRowW.claim.post args (.bool true) args=true :=
 postW_of (r:=l.row.toRowW) (X:=(true == true))
  (show WShape.has [] (.bool true) .bool=true by first|rfl|decide|simp[WShape.has,WShape.arms,WShape.armsAll])
  (show(WTm.eq .res (.lit (.bool true))).value [] { args:=args,res:=some (.bool true),after:=args }=some (.bool (true == true)) from w_eq_bool (w_res rfl) w_lit) rfl
theorem attach_call{l:OpenLaw}{n:Nat}{q:Program}{loose:List Str}{XP:(Str->Option Value)->Heap->Prop}{YP:World->Heap->Prop}{d:DefRec}
  (hn:l.most=some n)(hdf:d.params.defaults=[])
  (call:∀ (w:World) (s₀ s₁ : Shared) (mg mb:Str->Option Value) (fa:Addr) (o:Obj) (pm cd doc:Value) (a:Addr) (vs:List Value) (ns:List Int),
   Ground q loose [] XP w s₀ mg mb s₁.heap->YP w s₁.heap ->
   s₁.heap.get? fa=some o->o.data=.func (docDef d.name d.params d.body d.scope pm cd doc)->s₁.heap.CodeRec cd d.name->mg d.name=some (.ref fa) ->
   s₁.heap.get? a=some { cls:=.type "list",data:=.seq vs.toArray }->IntsAre vs ns->ns.length<=n->s₁.gens = #[] ->
   codeAny (model l.prog w) callerA (.call (.ref fa) ⟨[.ref a],[]⟩) (λr s'=>r=.ok (.ret (.bool true))/\OldK s₁.heap s'.heap/\s'.os=s₁.os/\AllBare s'.gens) s₁) :
  WalkO q loose XP YP l.row.toRowW d [] (λf vs=>PySem.call f vs):=by
 intro w s₀ s₁ mg mb G Y fa o pm cd doc dV kV ho hd hcd hD hmg hg args vals as hpre hlay hrd hwl hlo;obtain rfl:dV=.none:=Dflts.none hD hdf;obtain rfl:kV=.none:=Dflts.noKw hD;obtain⟨a,vs,ns,rfl,rfl,hobj,hints,hlen⟩:=ZKz hn hpre hwl;refine enter_call (codeAny_mono (call w s₀ s₁ mg mb fa o pm cd doc a vs ns G Y ho (fd_plain hd) hcd hmg hobj hints hlen hg) λr s' hq=>?_);obtain⟨rfl,h2,h3,h4⟩:=hq;exact⟨.inl ⟨.bool true,.bool true,[],rfl,λ_=>rfl,.bool true,ZKj l _,λ_=>⟨List.Pairwise.nil,λ_ hm=>(nomatch hm)⟩⟩,h2,h3,h4⟩
end Att
namespace L2
open PySem PySem.Spec PyProof.Rows
theorem ZFb:∀{vs:List Value} {ns:List Int},IntsAre vs ns->ZK (ns.map V.int) vs
 |_,_,.nil=>.nil
 |_,_,.cons n t h=>.cons ⟨t,rfl⟩ (ZFb h)
noncomputable def ZQV(H:Hp):Prop:=∀b,H b=none∨∃o xs,H b=some (.frz o (.lst xs))
theorem ZNd{P:Program}{w:World}{K:PySem.W.Frag}{mg mb:Str->Option Value}{CX:CXT}{k:Nat}{fa a:Addr}{fd:FuncData}{x:Str}{sp:Sp}{s₁ : Shared}{vs:List Value}{ns:List Int}
  (KX:K.In s₁.heap)(hns:s₁.heap.Ns mainGlobals mg)(hb:s₁.heap.Ns builtinsNs mb)(hbb:∀x:Str,x≠"__name__"->mb x=bootBuiltins x)(hlim:s₁.heap.NoLimit)(hg:s₁.gens = #[])
  (ha:s₁.heap.get? a=some { cls:=.type "list",data:=.seq vs.toArray })(hi:IntsAre vs ns)(hl:ns.length<=sizeLine)(hr:Room k callerA)
  (F:∀base:Heap,K.In base->base.Ns mainGlobals mg->FnOk P w K mg base CX k fa fd [x] sp)(hbind:∀(s:Shared) (u:Value),BindsTo s fd ⟨[u],[]⟩ [(x,u)])
  (hsp:∀H:Hp,ZQV H->SqL K H a (ns.map V.int)->sp [.ref a] H (λv _=>v=.bl true) λ_ _ _=>False)
  (hCX:∀H e s',CX [] H s₁ (λ_ _ _=>False) e s'->False) :
  codeAny (model P w) callerA (.call (.ref fa) ⟨[.ref a],[]⟩) (λr s'=>r=.ok (.ret (.bool true))/\OldK s₁.heap s'.heap/\s'.os=s₁.os/\AllBare s'.gens) s₁:=by
 have rv:=ZFb hi;have lenV:=hi.length
 -- from an abstract heap in which nothing but the script may be tracked
 have core:∀H:Hp,ZQV H->SqL K H a (ns.map V.int)->HOk P w H s₁.heap->(∀b,H b≠none->b=a)->(H a≠none->K.lookup a=none) ->
   codeAny (model P w) callerA (.call (.ref fa) ⟨[.ref a],[]⟩) (λr s'=>r=.ok (.ret (.bool true))/\OldK s₁.heap s'.heap/\s'.os=s₁.os/\AllBare s'.gens) s₁:=by
  intro H hO hS hok hA hK;have base_of:∀{b:Addr} {o:Obj},s₁.heap.get? b=some o->H b=none->(ZGo s₁.heap H).get? b=some o:=λe n=>ZLK e n
  have noA:∀{b:Addr} {o:Obj} {es:Array DictEntry} {ep:Nat},s₁.heap.get? b=some o->o.data=.dict es ep->H b=none:=λ{b o es ep} e d=>by
   cases q:H b with
   |none=>rfl
   |some u =>
    have e':b=a:=hA b (by rw[q];simp);subst e';rw[ha] at e;cases e;have d':Data.seq vs.toArray _=Data.dict es ep:=d;cases d'
  have nsK:∀{b:Addr} {m:Str->Option Value},s₁.heap.Ns b m->(ZGo s₁.heap H).Ns b m:=λ{b m} ⟨o,es,ep,e,d,r⟩=>⟨o,es,ep,base_of e (noA e d),d,r⟩
  have hKb:K.In (ZGo s₁.heap H):=λ b o e=>base_of (KX b o e) (by
   cases q:H b with
   |none=>rfl
   |some u =>
    have e':b=a:=hA b (by rw[q];simp);subst e';rw[hK (by rw[q];simp)] at e;cases e)
  have hM:Mod K mg (ZGo s₁.heap H):=⟨hKb,nsK hns,⟨mb,nsK hb,hbb⟩,let ⟨mc,h1,h2⟩:=hlim;⟨mc,nsK h1,h2⟩⟩;have e0:Env0 P w K mg (ZGo s₁.heap H) callerA [] s₁ H:=⟨rfl,hM,λb o e=>ZNo e,Nat.le_of_eq (ZKq _ _),trivial,λb hb=>absurd (show b∈([]:List Addr) from hb) (by simp),hok,.of_eq hg⟩;refine codeAny_mono ((F _ hKb (nsK hns)).run callerA [] s₁ H ⟨[.ref a],[]⟩ [.ref a] [.ref a] _ _ hr e0 (hbind s₁ (.ref a)) (.cons rfl .nil) (hsp H hO hS)) λr s' h=>?_
  cases r with
  |error e=>exact(hCX H e s' h).elim
  |ok fl =>
   cases fl with
   |next=>exact False.elim h
   |brk=>exact False.elim h
   |cont=>exact False.elim h
   |ret u =>
    obtain⟨v,H',os,bare,un,hok',r',q⟩:=h;have q':v=.bl true:=q;subst q';obtain rfl:u=Value.bool true:=r';refine⟨rfl,OldK.of_keep λb o e=>?_,os,bare⟩;cases q:H b with
    |none=>exact un.keep b o e q (by intro z;exact absurd (show b∈([]:List Addr) from z) (by simp)) (by simp)
    |some u =>
     rcases hO b with z|⟨ob,xs,z⟩
     ·rw[q] at z;cases z
     ·have z2:=un.frzs b ob _ z
      obtain⟨e1,_⟩:=hok b _ z;obtain⟨e2,_⟩:=hok' b _ z2;rw[e] at e1;cases e1;exact e2
 cases hk:K.lookup a with
 |some o =>
  -- the script is one of the module's own objects
  have e:=KX a o hk;rw[ha] at e;cases e;refine core (λ_=>none) (λ_=>.inl rfl) (.inr ⟨_,vs.toArray,_,hk,rfl,rfl,rfl,by rw[size_toArray,lenV];exact hl,by simpa using rv⟩) (λb u z=>by have z':(none:Option HO)=some u:=z;cases z') (λb z=>absurd rfl z) λz=>absurd rfl z
 |none =>
  refine core (λb=>if b=a then some (.frz { cls:=.type "list",data:=.seq vs.toArray } (.lst (ns.map V.int))) else none) (λb=>?_) (.inl (.inr ⟨{ cls:=.type "list",data:=.seq vs.toArray },if_pos rfl⟩)) (λb u z=>?_) (λb z=>?_) λ_=>hk
  ·by_cases hb:b=a
   ·exact .inr ⟨_,_,if_pos hb⟩
   ·exact .inl (if_neg hb)
  ·by_cases hb:b=a
   ·have z':=(if_pos hb).symm.trans z
    cases z';subst hb;exact⟨ha,by rw[length_map];exact hl,vs,_,rv,ha⟩
   ·have z':=(if_neg hb).symm.trans z
    cases z'
  ·by_cases hb:b=a
   ·exact hb
   ·exact absurd (if_neg hb) z
theorem walk_of{l:PySem.W.OpenLaw}{n k:Nat}{q:Program}{loose:List Str}{XP:(Str->Option Value)->Heap->Prop}{YP:World->Heap->Prop}{d:DefRec}{K:Params->PySem.W.Frag}{CX:World->CXT}{sp:World->Sp}{x:Str}
  (hn:l.most=some n)(hn2:n<=sizeLine)(hdf:d.params.defaults=[])(hr:Room k callerA)
  (hY:∀(w:World) (h:Heap),YP w h->(K w.params).In h)
  (F:∀ (w:World) (mg:Str->Option Value) (fa:Addr) (h:Heap),(K w.params).In h->h.Ns mainGlobals mg->mg d.name=some (.ref fa) ->
   ∃fd:FuncData,(∀(s:Shared) (u:Value),BindsTo s fd ⟨[u],[]⟩ [(x,u)]) /\
    ∀base:Heap,(K w.params).In base->base.Ns mainGlobals mg->FnOk l.prog w (K w.params) mg base (CX w) k fa fd [x] (sp w))
  (hsp:∀(w:World) (H:Hp) (a:Addr) (ns:List Int),ns.length<=n->ZQV H->SqL (K w.params) H a (ns.map V.int)->sp w [.ref a] H (λv _=>v=.bl true) λ_ _ _=>False)
  (hCX:∀(w:World) (H:Hp) (s:Shared) (e:Value) (s':Shared),CX w [] H s (λ_ _ _=>False) e s'->False) :
  PySem.W.WalkO q loose XP YP l.row.toRowW d [] (λf vs=>PySem.call f vs):=by
 refine Att.attach_call hn hdf λw s₀ s₁ mg mb fa o pm cd doc a vs ns G Y ho hd hcd hmg hobj hints hlen hg=>?_
 have KX:=hY w _ Y;obtain⟨fd,hb,hF⟩:=F w mg fa _ KX G.T.g hmg;exact ZNd KX G.T.g G.T.b G.T.builtins G.T.nolimit hg hobj hints (le_trans hlen hn2) hr hF hb (λH hO hS=>hsp w H a ns hlen hO hS) λH e s'=>hCX w H s₁ e s'
noncomputable def ZBr(s:Stmt):Arguments:=match s with
 |.FunctionDef _ a _ _ _ _ _ _ _ _=>a
 |_=>{ posonlyargs:=[],args:=[],vararg:=none,kwonlyargs:=[],kw_defaults:=[],kwarg:=none,defaults:=[] }
noncomputable def ZAJ(s:Stmt):List Stmt:=match s with
 |.FunctionDef _ _ b _ _ _ _ _ _ _=>b
 |_=>[]
noncomputable def ZF(s:Stmt):Scope:=match s with
 |.FunctionDef _ _ _ _ _ _ sc _ _ _=>sc
 |_=>{ kind:=.function,names:=[],isGenerator:=false,isCoroutine:=false }
noncomputable abbrev CX0:CXT:=λ_ _ _ _ _ _=>False
noncomputable abbrev E0:XK:=λ_ _ _=>False
theorem pass0{X:Cx}:ZIo CX0 X E0:=λ_ _ _ _ _ _ _ h=>h.elim
structure Fun (K:PySem.W.Frag) (x qual:Str) (st:Stmt) (f:Addr) (fd:FuncData):Prop where
 ex:∃(oc:Value) (od:Option Addr) (kV doc pm:Value) (an:Option Addr) (cdv ct:Value) (osl:Array (Option Value)),
  fd=PySem.W.fnOf x qual (ZBr st) (ZAJ st) (ZF st) .none kV doc pm an cdv ct/\K.lookup f=some ⟨oc,od,.func fd,osl⟩/\PySem.W.codeIn K cdv qual=true
 kp:PySem.W.keepIn K (.ref f)=true
section
variable{P:Program}{w:World}{K:PySem.W.Frag}{mg:Str->Option Value}{base:Heap}
theorem Fun.ok{x qual:Str}{st:Stmt}{f:Addr}{fd:FuncData}{N ps:List Str}{k:Nat}{sp:Sp}(F:Fun K x qual st f fd)(S:FnScope N ps (ZF st))(len:∀vs H Q E,sp vs H Q E->vs.length=ps.length)
  (hbody:∀ (cdv:Value) (A:Around) (outer:List Env) (s:Shared) (H:Hp) (vs:List V) (Q:VK) (E:XK),Room k (A.deeper (envOfC qual (ZF st) s.heap.objs.size f cdv))->sp vs H Q E ->
   ∃t,PSs (ZCs CX0 P w K mg base N qual (ZF st) f cdv A outer s H E).nox (ZAJ st) t/\t { nx:=λ_ H'=>Q .non H',rt:=Q } (ZCY N vs) H):FnOk P w K mg base CX0 (k+1) f fd ps sp:=by
 obtain⟨oc,od,kV,doc,pm,an,cdv,ct,osl,rfl,lk,hcd⟩:=F.ex;refine ZPv lk hcd S len λA outer s H vs Q E hr hsp=>?_
 obtain⟨t,h,q⟩:=hbody cdv A outer s H vs Q E hr hsp;exact⟨t,h.nox,q⟩
theorem Fun.binds{x qual:Str}{st:Stmt}{f:Addr}{fd:FuncData}{ps:List Str}(F:Fun K x qual st f fd)
  (h:∀(kV doc pm:Value) (an:Option Addr) (cdv ct:Value) (us:List Value),us.length=ps.length->bindArgs (PySem.W.fnOf x qual (ZBr st) (ZAJ st) (ZF st) .none kV doc pm an cdv ct) ⟨us,[]⟩=pure (ps.zip us)):ZDv K fd ps []:=by
 obtain⟨oc,od,kV,doc,pm,an,cdv,ct,osl,rfl,lk,hcd⟩:=F.ex;exact .all (h kV doc pm an cdv ct)
theorem ZMH{x qual:Str}{st:Stmt}{f:Addr}{oc:Value}{od an:Option Addr}{osl:Array (Option Value)}{kV doc pm cdv ct:Value}(l:K.lookup f=some ⟨oc,od,.func (PySem.W.fnOf x qual (ZBr st) (ZAJ st) (ZF st) .none kV doc pm an cdv ct),osl⟩)
  (c:PySem.W.codeIn K cdv qual=true)(k:PySem.W.keepIn K (.ref f)=true):Fun K x qual st f (PySem.W.fnOf x qual (ZBr st) (ZAJ st) (ZF st) .none kV doc pm an cdv ct):=⟨⟨oc,od,kV,doc,pm,an,cdv,ct,osl,rfl,l,c⟩,k⟩
end
theorem ZS{n:Nat}(h:n<=1000):n<sizeLine:=Nat.lt_of_le_of_lt h (by decide)
theorem iteF{A B:Prop}(h:B):if false=true then A else B:=by
 rw[if_neg Bool.false_ne_true];exact h
theorem ZQ1{A B:Prop}(h:A):if true=true then A else B:=by
 rw[if_pos rfl];exact h
noncomputable def Same(H H':Hp):Prop:=∀b o,H b=some o->H' b=some o
theorem Same.refl(H:Hp):Same H H:=λ_ _ h=>h
end L2
namespace HT
open PySem PyProof.Rows
noncomputable def lexGt:List Int->List Int->Bool
 |[],[]=>false
 |[],_::_=>false
 |_::_,[]=>true
 |x::xs,y::ys=>if x=y then lexGt xs ys else decide (y<x)
theorem ZIr(x y:Int)(xs ys:List Int):lexGt (x::xs) (y::ys)=if x=y then lexGt xs ys else decide (y<x):=rfl
theorem ZFK:lexGt [] []=false:=rfl
theorem ZEU(y:Int)(ys:List Int):lexGt [] (y::ys)=false:=rfl
theorem ZE1(x:Int)(xs:List Int):lexGt (x::xs) []=true:=rfl
theorem ZLr(A:Around)(s:Shared)(a:Int)(t:Tok)(c:Int)(u:Tok)(prog:Program)(w:World)(E:Value->Shared->Prop)(Q:Value->Shared->Prop)(h:Q (.bool (decide (c<a))) s) :
  wpAny (model prog w) A (richCompare .Gt (.int a t) (.int c u)) Q E s :=
 (PyProof.Rows.gt_int h:wpAny (model prog w) A (compareOp .Gt (.int a t) (.int c u)) Q E s)
section
open PySem.SeqAt
open PySem.AutoSeq1 (wpAny_loadPart')
open PySem.MeetsSeq PySem.MeetsSeq2 PySem.MeetsSeq3
theorem ZFX(l b:Addr)(items items2:Array Value)(n n2:Nat)(dd dd2:Option Addr)(sl sl2:Array (Option Value))(ns ms:List Int)(hi:IntsAre items.toList ns)(hj:IntsAre items2.toList ms) :
  Meets (Builtin.«tuple.__gt__» ⟨[.ref l,.ref b],[]⟩)
   (λ _ R s=>s.heap.get? l=some { cls:=.type "tuple",dict:=dd,data:=.seq items n,slots:=sl }/\s.heap.get? b=some { cls:=.type "tuple",dict:=dd2,data:=.seq items2 n2,slots:=sl2 } /\
    R (.ok (.ret (.bool (lexGt ns ms)))) s) :=
 .of_wp λprog w A R s h=>by
  obtain⟨hp,g,d,tk,os⟩:=s;obtain⟨hl,hb,h⟩:=h;have f2:=AutoSeq1.sub_tuple_tuple;have z1:items.size=ns.length:=by rw[←hi.length];simp
  have z2:items2.size=ms.length:=by rw[←hj.length];simp
  wp_walk using wpAny_loadPart' hl,wpAny_loadPart' hb,wpAny_forIn_list _ (λ rest b s'=>b.1=none/\s'=⟨hp,g,d,tk,os⟩/\∃ (vs ws:List Value) (ns' ms':List Int),rest=vs.zip ws /\
   IntsAre vs ns'/\IntsAre ws ms'/\ns'.length+items2.size=ms'.length+items.size/\R (.ok (.ret (.bool (lexGt ns' ms')))) ⟨hp,g,d,tk,os⟩) _
  case turn =>
   rintro ⟨y,x⟩ rest b s' ⟨hb',rfl,vs,ws,ns',ms',hz,hvi,hwi,hlen,hR⟩
   cases hvi with
   |nil=>rw[zip_nil_left] at hz;cases hz
   |cons a t hvi' =>
    cases hwi with
    |nil=>rw[List.zip_nil_right] at hz;cases hz
    |cons c u hwi' =>
     rw[zip_cons_cons] at hz;injection hz with hyx hrest
     injection hyx with hy hx
     subst hy hx;rw[ZIr] at hR;simp only[length_cons] at hlen;obtain⟨e,he,hiff⟩:=ZEr A.in1 ⟨hp,g,d,tk,os⟩ a t c u;refine wpAny_bind (he prog w _ _ ?_);cases e with
     |true =>
      rw[if_pos (hiff.mp rfl)] at hR
      wp_walk
      exact⟨rfl,rfl,_,_,_,_,hrest,hvi',hwi',by omega,hR⟩
     |false =>
      rw[if_neg (λq=>absurd (hiff.mpr q) Bool.false_ne_true)] at hR;have hri:=ZLr A.in1 ⟨hp,g,d,tk,os⟩ a t c u prog w
      wp_walk using hri
      exact⟨_,rfl,by simpa using hR⟩
  case fin =>
   rintro ⟨b1,b2⟩ s' ⟨hb',rfl,vs,ws,ns',ms',hz,hvi,hwi,hlen,hR⟩
   simp only at hb';subst hb';have hv:lexGt ns' ms'=decide (items.size > items2.size):=by
    cases hvi with
    |nil =>
     cases hwi with
     |nil =>
      simp only[length_nil] at hlen;rw[ZFK];exact(decide_eq_false (by omega)).symm
     |cons c u hw =>
      simp only[length_nil,length_cons] at hlen;rw[ZEU];exact(decide_eq_false (by omega)).symm
    |cons a t hv =>
     cases hwi with
     |nil =>
      simp only[length_nil,length_cons] at hlen;rw[ZE1];exact(decide_eq_true (by omega)).symm
     |cons c u hw =>
      rw[zip_cons_cons] at hz;cases hz
   rw[hv] at hR
   wp_walk
   exact⟨_,rfl,by simpa [Builtin.Tuple.tupleCompareSizes] using hR⟩
  case h =>
   exact⟨rfl,rfl,items.toList,items2.toList,ns,ms,rfl,hi,hj,by omega,h⟩
end
section
variable{prog:Program}{w:World}{A:Around}{E:Value->Shared->Prop}{s:Shared}
theorem gt_tupInts{l b:Addr}{items items2:Array Value}{ns ms:List Int}{Q:Value->Shared->Prop}(hl:IsTup s.heap l items)(hb:IsTup s.heap b items2)(hi:IntsAre items.toList ns)(hj:IntsAre items2.toList ms)
  (hu:A.units<cLine)(h:Q (.bool (lexGt ns ms)) s):wpAny (model prog w) A (compareOp .Gt (.ref l) (.ref b)) Q E s:=by
 obtain⟨⟨cls,dd,data,sl⟩,ho,hc,n,hd⟩:=id hl;obtain⟨⟨cls2,dd2,data2,sl2⟩,ho2,hc2,n2,hd2⟩:=id hb;simp only at hc hd hc2 hd2;subst hc hd hc2 hd2;exact richCompare_meets_room (op:=.Gt) ⟨_,ho,rfl⟩ ⟨_,ho2,rfl⟩ PySem.F.slot_tuple_gt PySem.F.entry_tuple_gt (PySem.F.args_tuple_gt_2 _ _) (ZFX l b items items2 n n2 dd dd2 sl sl2 ns ms hi hj)
  ⟨ho,ho2,show Value.bool (lexGt ns ms)≠Value.notImplemented/\Q (.bool (lexGt ns ms)) s from ⟨(λx=>nomatch x),h⟩⟩ hu
end
end HT
namespace L2
open PySem PySem.Spec PyProof.Rows
section
variable{X:Cx}{a b:Expr}{ta tb:TE}{pos:Pos}
noncomputable def rGtT(K:PySem.W.Frag):R2:=λx y H Q=>∃a b ns ms,x=.ref a/\y=.ref b/\SqT K H a (ns.map V.int)/\SqT K H b (ms.map V.int)/\Q (.bl (HT.lexGt ns ms)) H
theorem ZQr(hu:X.A.units<cLine):OpR X (compareOp .Gt) (rGtT X.K):=by
 intro pins s σ H x y v u Q I rx ry h;obtain⟨a,b,ns,ms,rfl,rfl,ha,hb,q⟩:=h;cases rx;cases ry;obtain⟨its,r1,p1,_⟩:=I.tuple ha;obtain⟨its2,r2,p2,_⟩:=I.tuple hb;have i1:IntsAre its.toArray.toList ns:=ZAI r1;have i2:IntsAre its2.toArray.toList ms:=ZAI r2;exact HT.gt_tupInts p1 p2 i1 i2 hu ⟨.bl (HT.lexGt ns ms),H,I,rfl,q⟩
noncomputable def CDivL(i j:Int):Prop:=0<j/\j<2 ^ 64
theorem ZLC:OpR X (binaryOp .FloorDiv) (rI CDivL λi j=>.int (i / j)):=opI λi j _ _ _ _ _ hc q=>by
 have h1:(0:Int)<j:=hc.1;have h2:j<2 ^ 64:=hc.2;have e:i.fdiv j=i / j:=Int.fdiv_eq_ediv_of_nonneg i (Int.le_of_lt h1);refine floordiv_int (by omega) (by rw[e];exact q) (.inl (PyProof.noPylong_of_log2 ?_));have h3:j.natAbs<2 ^ 64:=by omega
 have h4:j.natAbs≠0:=by omega
 have h5:j.natAbs.log2<64:=(Nat.log2_lt h4).mpr h3;omega
end
end L2
namespace H1
open PySem PySem.Spec PyProof.Rows L2
structure Def (K:PySem.W.Frag) (mg:Str->Option Value) (x:Str) (st:Stmt) (ps:List Str) (f:Addr) (fd:FuncData):Prop where
 at_:mg x=some (.ref f)
 fn:Fun K x x st f fd
 bd:ZDv K fd ps []
theorem pcall{X:Cx}{x:Str}{st:Stmt}{ps:List Str}{f:Addr}{fd:FuncData}{sp:Sp}{k:Nat}{e:Expr}{es:List Expr}{t:TA}{p pos:Pos}(D:Def X.K X.mg x st ps f fd)(G:FnOk X.prog X.w X.K X.mg X.base CX0 k f fd ps sp)(hr:Room k X.A)
  (ha:PA X (e::es) t)(hg:Gl X x:=by rfl)(hdb:(x == ("__debug__" : Str))=false:=by decide)(he:starEach (e::es) X.env=(false,eval e X.env)::starEach es X.env:=by rfl)(hpl:(backTo pos (starEach es X.env)).any (·.1)=false:=by rfl) :
  PE X (.Call (.Name x p) (e::es) [] pos) (ZPj sp [] E0 t):=ZOQ G hr hg D.at_ D.fn.kp D.bd .nil pass0 ha hdb he hpl
theorem Same.upd{H:Hp}{p:Addr}{o:HO}(h:H p=none):Same H (upd H p o):=λa u e=>by rw[ZD (ZG e h)];exact e
theorem ib1(k:Bool) : -(2 ^ 64)<(if k=true then (1:Int) else 0)/\(if k=true then (1:Int) else 0)<2 ^ 64:=by cases k <;> decide
end H1
namespace HI
open PySem PyProof.Rows
section
variable{prog:Program}{w:World}{A:Around}{E:Value->Shared->Prop}{s:Shared}
theorem drawT{j t:Addr}{i:Nat}{its:Array Value}{x:Value}{Q:Value->Shared->Prop}(hj:s.heap.IsTupleIter j t i)(ht:s.heap.IsTuple t its)(hx:its[i]? = some x)
  (k:∀h',h'.IsTupleIter j t (i+1)->Heap.SameBut j s.heap h'->Q x { s with heap:=h' }):wpAny (model prog w) A (Builtin.SmallTypes.nextOf (.ref j)) Q E s:=by
 obtain⟨oj,ej,cj,dj⟩:=id hj;obtain⟨ot,et,_,nt,dt⟩:=ht;unfold Builtin.SmallTypes.nextOf;refine wpAny_bind (wpAny_callSpecial?_slot (name:=Str.ofString "__next__") hj.typeIs F.slot_tuple_iterator_next (wpAny_call_entry F.slot_tuple_iterator_next hj.typeIs F.entry_tuple_iterator_next ?_ (F.args_tuple_iterator_next_1 _)));refine wpAny_bind (m:=field (.ref j) 0) (wpAny_field ej dj (x:=.ref t) rfl ?_);show wpAny _ _ (if (Value.ref t == Value.none)=true then _ else field (.ref j) 1 >>= _) _ _ s;rw[if_neg (by intro z;cases z)];refine wpAny_bind (m:=field (.ref j) 1) (wpAny_field ej dj (x:=.int i 0) rfl (wpAny_bind (m:=seqItems? (.ref t)) (wpAny_seqItems et dt ?_)));simp only[toNat_natCast,hx];refine wpAny_bind (wpAny_setField ej dj (by simp) (wpAny_pure ⟨_,rfl,wpAny_pure (k _ ?_ (Heap.SameBut.update ..))⟩));refine⟨_,get?_update_self _ ej (Obj.isFreed_of_fields (Obj.data_mapFields dj _)),(Obj.cls_mapFields ..).trans cj,?_⟩;rw[Obj.data_mapFields dj];simp[rawInt]
theorem ZKt{j t:Addr}{i:Nat}{its:Array Value}{Q:Value->Shared->Prop}(hh:A.handled=none)(hj:s.heap.IsTupleIter j t i)(ht:s.heap.IsTuple t its)(hx:its[i]? = none)
  (k:∀h' e,Heap.ExtBut j s.heap h'->(∃o,h'.get? e=some o/\o.cls=.type "StopIteration")->E (.ref e) { s with heap:=h' }):wpAny (model prog w) A (Builtin.SmallTypes.nextOf (.ref j)) Q E s:=by
 obtain⟨oj,ej,cj,dj⟩:=id hj;obtain⟨ot,et,_,nt,dt⟩:=ht;unfold Builtin.SmallTypes.nextOf;refine wpAny_bind (wpAny_callSpecial?_slot (name:=Str.ofString "__next__") hj.typeIs F.slot_tuple_iterator_next (wpAny_call_entry F.slot_tuple_iterator_next hj.typeIs F.entry_tuple_iterator_next ?_ (F.args_tuple_iterator_next_1 _)));refine wpAny_bind (m:=field (.ref j) 0) (wpAny_field ej dj (x:=.ref t) rfl ?_);show wpAny _ _ (if (Value.ref t == Value.none)=true then _ else field (.ref j) 1 >>= _) _ _ s;rw[if_neg (by intro z;cases z)];refine wpAny_bind (m:=field (.ref j) 1) (wpAny_field ej dj (x:=.int i 0) rfl (wpAny_bind (m:=seqItems? (.ref t)) (wpAny_seqItems et dt ?_)));simp only[toNat_natCast,hx];refine wpAny_bind (wpAny_rule (wpAny_bind (wpAny_setField ej dj (by simp) ?_)));refine wpAny_bind (m:=newExc (.type "StopIteration") []) ?_;simp only[newExc,newTuple];refine wpAny_bind (wpAny_newObj_type (wpAny_bind (m:=firstArgMember _ _) (wpAny_of_eq (a:=Value.none) (by first|rfl|(simp only[firstArgMember];rfl)) (wpAny_newObj_type ?_ (by size_fits)))) (by size_fits));simp only[raiseNew];refine wpAny_bind (wpAny_handled ?_)
 first
  |rw[show A.in1.handled=none from hh]
  |rw[hh]
 exact wpAny_bind (wpAny_pure (wpAny_throw (k _ _ (((Heap.SameBut.update ..).extBut.push _).push _) ⟨_,get?_push_size _ rfl,rfl⟩)))
end
noncomputable abbrev nm(q:Bool):String:=cond q "tuple_iterator" "list_iterator"
noncomputable def Zr(q:Bool)(h:Heap)(i l:Addr)(k:Nat):Prop:=∃o,h.get? i=some o/\o.cls=.type (nm q)/\o.data=.fields #[.ref l,.int k 0]
noncomputable def IsSq(q:Bool)(h:Heap)(l:Addr)(xs:Array Value):Prop:=∃o,h.get? l=some o/\o.cls=.type (cond q "tuple" "list")/\∃n,o.data=.seq xs n
section
variable{prog:Program}{w:World}{A:Around}{E:Value->Shared->Prop}{s:Shared}{q:Bool}
theorem ZFY{j t:Addr}{i:Nat}{its:Array Value}{x:Value}{Q:Value->Shared->Prop}(hj:Zr q s.heap j t i)(ht:IsSq q s.heap t its)(hx:its[i]? = some x)
  (k:∀h',Zr q h' j t (i+1)->Heap.SameBut j s.heap h'->Q x { s with heap:=h' }):wpAny (model prog w) A (Builtin.SmallTypes.nextOf (.ref j)) Q E s:=by
 cases q
 ·exact wpAny_nextOf_list_item hj ht hx k
 ·exact drawT hj ht hx k
theorem ZCQ{j t:Addr}{i:Nat}{its:Array Value}{Q:Value->Shared->Prop}(hh:A.handled=none)(hj:Zr q s.heap j t i)(ht:IsSq q s.heap t its)(hx:its[i]? = none)
  (k:∀h' e,Heap.ExtBut j s.heap h'->(∃o,h'.get? e=some o/\o.cls=.type "StopIteration")->E (.ref e) { s with heap:=h' }):wpAny (model prog w) A (Builtin.SmallTypes.nextOf (.ref j)) Q E s:=by
 cases q
 ·exact wpAny_nextOf_list_end hh hj ht hx k
 ·exact ZKt hh hj ht hx k
theorem itG{l:Addr}{items:Array Value}{Q:Value->Shared->Prop}(hl:IsSq q s.heap l items)(hQ:Q (.ref s.heap.objs.size) { s with heap:=s.heap.push { cls:=.type (nm q),data:=.fields #[.ref l,.int 0 0] } }):wpAny (model prog w) A (pyIter (.ref l)) Q E s:=by
 cases q
 ·exact wpAny_pyIter_list hl hQ
 ·exact wpAny_pyIter_tuple hl hQ
end
end HI
namespace L2
open PySem PySem.Spec PyProof.Rows
noncomputable def SqG(q:Bool)(K:PySem.W.Frag)(H:Hp)(a:Addr)(xs:List V):Prop:=cond q (SqT K H a xs) (SqL K H a xs)
section
variable{X:Cx}{pins:List (Addr×Obj)}{σ : List (Option V)}{H:Hp}{s:Shared}{q:Bool}{a:Addr}{xs ys:List V}
theorem Inv.sq(I:Inv X pins σ H s)(h:SqG q X.K H a xs):∃its:List Value,ZK xs its/\HI.IsSq q s.heap a its.toArray/\xs.length<=sizeLine:=by
 cases q
 ·obtain⟨its,r,p,z⟩:=I.list h
  exact⟨its,r,p.isList,z⟩
 ·exact I.tuple h
theorem Inv.sq_inj(I:Inv X pins σ H s)(h:SqG q X.K H a xs)(h':SqG q X.K H a ys):xs=ys:=by
 cases q
 ·exact I.list_inj h h'
 ·exact I.tuple_inj h h'
end
noncomputable def ZSP(q:Bool)(K:PySem.W.Frag)(a:Addr):It :=
 ⟨λi H=>∃xs x,SqG q K H a xs/\xs[i]? = some x,λi H v H'=>∃p x,v=.ref p/\H p=none/\H'=upd H p (.tup [.int i,x])/\∀xs,SqG q K H a xs->xs[i]? = some x,λi H=>∃xs,SqG q K H a xs/\xs.length<=i⟩
noncomputable abbrev Ite:=ZSP true
theorem ZPP{env:Env}(ns:List (Str×NameKind))(h:∀x∈ns,x.2=.free->∃c,env.cells.lookup x.1=some c):∀cs:List (Str×Addr),
  ∃ cl:List (Str × Addr),(forIn ns cs λ x r=>do
   let mut cs:=r
   if x.2 == .free then cs:=(x.1,←cellOf env x.1)::cs
   pure (ForInStep.yield cs):Sem (List (Str×Addr)))=pure cl /\
   (∀x c,cl.lookup x=some c->cs.lookup x=some c∨env.cells.lookup x=some c) /\
   (∀x,(cs.lookup x).isSome=true->(cl.lookup x).isSome=true)/\∀x,(x,NameKind.free)∈ns->(cl.lookup x).isSome=true:=by
 induction ns with
 |nil=>exact λcs=>⟨cs,rfl,λ_ _ e=>.inl e,λ_ e=>e,λ_ z=>nomatch z⟩
 |cons y r ih =>
  intro cs;obtain⟨n,k⟩:=y;have ih:=ih λx hx=>h x (mem_cons_of_mem _ hx)
  by_cases hk:k=.free
  ·subst hk
   obtain⟨c,hc⟩:=h (n,.free) mem_cons_self rfl;obtain⟨cl,e,p1,p2,p3⟩:=ih ((n,c)::cs);refine⟨cl,?_,λx c' q=>?_,λx q=>p2 x ?_,λx q=>?_⟩
   ·rw[forIn_cons]
    have hce:cellOf env n=pure c:=by
     unfold cellOf;rw[show env.cells.lookup n=some c from hc]
    simp only[beq_self_eq_true,if_true];rw[hce];exact e
   ·rcases p1 x c' q with q|q
    ·rw[lookup_cons] at q
     cases hx:x == n with
     |true=>rw[hx] at q;cases q;rw[eq_of_beq hx];exact .inr hc
     |false=>rw[hx] at q;exact .inl q
    ·exact .inr q
   ·rw[lookup_cons]
    cases hx:x == n with
    |true=>rfl
    |false=>exact q
   ·rcases List.mem_cons.mp q with z|z
    ·cases z
     exact p2 _ (by rw[lookup_cons];simp)
    ·exact p3 x z
  ·obtain⟨cl,e,p1,p2,p3⟩:=ih cs
   refine⟨cl,?_,p1,p2,λx q=>?_⟩
   ·rw[forIn_cons]
    have hb:(k == NameKind.free)=false:=by simpa using hk
    simp only[hb];exact e
   ·rcases List.mem_cons.mp q with z|z
    ·cases z;exact absurd rfl hk
    ·exact p3 x z
theorem ZBM{env:Env}{scope:Scope}(h:∀x∈scope.names,x.2=.free->∃c,env.cells.lookup x.1=some c) :
  ∃cl:List (Str×Addr),closureFor scope env=pure cl/\(∀x c,cl.lookup x=some c->env.cells.lookup x=some c)/\∀x,(x,NameKind.free)∈scope.names->(cl.lookup x).isSome=true:=by
 obtain ⟨cl,e,p1,_,p3⟩:=ZPP scope.names h [];refine ⟨cl,?_,λ x c q=>(p1 x c q).elim (λ z=>by cases z) id,p3⟩;unfold closureFor;have e2:(forIn scope.names ([]:List (Str × Addr)) λ x r=>do
   let mut cs:=r
   if x.2 == .free then cs:=(x.1,←cellOf env x.1)::cs
   pure (ForInStep.yield cs):Sem (List (Str×Addr))) >>= (λcs=>pure cs)=pure cl:=by rw[e];rfl
 exact e2
noncomputable abbrev blk(X:Cx)(N:List Str)(env:Env)(s:Shared)(H:Hp)(ex:List Addr):Cx:={ X with N:=N,s₀:=s,H₀:=H,env:=env,outer:=X.stack,stack:=X.stack,ex:=ex,fn:=λ_=>false,pn:=[],xe:=λ_ _=>False }
section
variable{X:Cx}{pins:List (Addr×Obj)}{σ : St}{H:Hp}{s:Shared}{fp:List Addr}{env:Env}{N:List Str}
theorem ZP3(I:Inv X pins σ H s)(hf:∀b∈fp,ZCw X pins H b)(hob:∀b∈fp,∃o,s.heap.get? b=some o)(hC:s.heap.objs.size<=env.locals)(hk:env.scope.kind=.function)(hg:env.globals=X.env.globals)(hb:env.builtins=X.env.builtins)
  (hsub:∀x c,env.cells.lookup x=some c->X.env.cells.lookup x=some c)(hhas:∀x,(env.kindOf x=some .cell∨env.kindOf x=some .free)->∃c,env.cells.lookup x=some c):(blk X N env s H fp).Ok where
 mod:=I.ok.mod
 kind:=hk
 glob:=hg.trans I.ok.glob
 blt:=hb.trans I.ok.blt
 above:=hC
 inj:=λx y c e1 e2=>I.ok.inj x y c (hsub x c e1) (hsub y c e2)
 has:=hhas
 cab:=λ_ _ z=>by cases z
 hd:=I.ok.hd
 frames:=I.ok.frames
 stk:=.inl rfl
 exf:=λb hb'=>by
  obtain⟨o,e⟩:=hob b hb';exact⟨ne_of_lt (lt_of_lt_of_le (lt_size e) hC),λx c q=>(hf b hb').2.2.2.2.1 x c (hsub x c q)⟩
 bs:=I.bs
 bsz:=le_trans I.ok.bsz I.sz
 noex:=λb o e hb'=>by
  rcases(hf b hb').2.2.2.1 with z|z
  ·exact I.ok.noex b o e z
  ·exact absurd (lt_of_lt_of_le (lt_size e) (le_trans I.ok.bsz z)) (lt_irrefl _)
 exfs:=λb hb' z=>by
  rcases List.mem_cons.mp (I.stkSub b z) with q|q
  ·exact(hf b hb').2.1 q
  ·exact(hf b hb').2.2.1 q
 funs:=I.stack
 frf:=I.stkFree
theorem ZJK{h1:Heap}{tk:Nat}{σ':St}{m:Str->Option Value}(I:Inv X pins σ H s)(hf:∀b∈fp,ZCw X pins H b)(hob:∀b∈fp,∃o,s.heap.get? b=some o)(hC:s.heap.objs.size<=env.locals)(hk:env.scope.kind=.function)(hg:env.globals=X.env.globals)(hb:env.builtins=X.env.builtins)
  (hsub:∀x c,env.cells.lookup x=some c->X.env.cells.lookup x=some c)(hhas:∀x,(env.kindOf x=some .cell∨env.kindOf x=some .free)->∃c,env.cells.lookup x=some c)
  (keep:∀b u,s.heap.get? b=some u->h1.get? b=some u)(hn:h1.Ns env.locals m)(hlen : σ'.length=N.length)
  (hcap:∀(i:Nat) (x:Str) (v:V),N[i]? = some x->σ'[i]? = some (some v)->(env.kindOf x=some .cell∨env.kindOf x=some .free)/\X.env.kindOf x≠some .local/\Vis X.env.scope x/\∃j:Nat,X.N[j]? = some x/\σ[j]? = some (some v)) :
  Inv (blk X N env s H fp) [] σ' H { s with heap:=h1,toks:=tk } where
 ok:=ZP3 I hf hob hC hk hg hb hsub hhas
 os:=rfl
 bare:=I.bare
 base:=Un.kept keep
 loc:=⟨m,hn,λi x v e1 e2 _=>by
  obtain⟨k1,k2,k3,j,e3,e4⟩:=hcap i x v e1 e2;obtain⟨m0,_,hl⟩:=I.loc;obtain⟨u,r,l⟩:=hl j x v e3 e4 k3;refine⟨u,r,?_⟩;rcases l with ⟨z,_⟩|⟨_,c,ec,o,ho,hd⟩
  ·exact absurd z k2
  ·obtain⟨c',ec'⟩:=hhas x k1
   have ee:c'=c:=by
    have q:=hsub x c' ec';rw[ec] at q;exact(Option.some.inj q).symm
   subst ee;exact .inr ⟨k1,c',ec',o,keep _ _ ho,hd⟩⟩
 cell:=λx c e=>by
  obtain⟨v,o,ho,hd⟩:=I.cell x c (hsub x c e);exact⟨v,o,keep _ _ ho,hd⟩
 free:=I.hok.fresh hC
 freeC:=λx c e=>I.freeC x c (hsub x c e)
 pin:=λp hp=>by cases hp
 hok:=I.hok.kept keep
 len:=hlen
theorem Un.but{fs ex:List Addr}{H H':Hp}{h h1 h2:Heap}{C:Addr}(u:Un fs ex H H' h h1)(sb:Heap.SameBut C h1 h2)(hC:h.objs.size<=C):Un fs ex H H' h h2:=by
 have k:∀b o,h.get? b=some o->h2.get? b=h1.get? b:=λb o e=>sb.2 b (ne_of_lt (lt_of_lt_of_le (lt_size e) hC))
 exact⟨λb o e n h3 h4=>(k b o e).trans (u.keep b o e n h3 h4),λb o e n h3 h4=>by
  obtain⟨sl,q⟩:=u.slot b o e n h3 h4;exact⟨sl,(k b o e).trans q⟩,u.free,λb o e h3=>by
  obtain⟨o',q⟩:=u.there b o e h3;exact⟨o',(k b o e).trans q⟩,u.tups,u.frzs,u.tbls⟩
theorem ZGT{σ':St}{H':Hp}{s':Shared}{h2:Heap}(I:Inv X pins σ H s)(hf:∀b∈fp,ZCw X pins H b)(hC:s.heap.objs.size<=env.locals)(J:Inv (blk X N env s H fp) [] σ' H' s')(sb:Heap.SameBut env.locals s'.heap h2):Inv X pins σ H' { s' with heap:=h2 }:=by
 refine I.call' (ch:=fp) J.os (J.base.but sb hC) (λb u e=>?_) J.bare λb hb=>⟨(hf b hb).2.2.2.1,(hf b hb).2.1,(hf b hb).2.2.2.2.1,(hf b hb).2.2.2.2.2⟩
 refine(J.hok b u e).stay (λc v hc q=>(sb.2 c ?_).trans q) (λ_ q=>q) λ_ _ q=>q
 intro z;have n:=J.free;rcases hc with q|q
 ·rw[←q,z] at e
  rw[e] at n;cases n
 ·rw[z] at q
  rw[q] at n;cases n
end
noncomputable def Wk(a b:St):Prop:=a.length=b.length/\∀(i:Nat) (v:V),a[i]? = some (some v)->b[i]? = some (some v)
noncomputable def PTs(X:Cx)(ifs:List Expr)(t:TT):Prop :=
 ∀(pins:List (Addr×Obj)) (s:Shared) (σ : St) (H:Hp) (Q:Bool->Hp->Prop),Inv X pins σ H s->t σ H Q ->
  wpAny (model X.prog X.w) X.A (forIn ifs true λc r=>if r=true then do let ok ←isTrue c X.env (eval c X.env);pure (ForInStep.yield ok) else pure (ForInStep.yield r)) (TP X pins σ Q) X.xe s
noncomputable def tYes:TT:=λ_ H Q=>Q true H
theorem ZNq{X:Cx}:PTs X [] tYes:=λ_ _ _ H _ I h=>wpAny_tests_nil ⟨H,I,h⟩
noncomputable def ZEL(J:It)(g:TG)(tt:TT)(te:TE)(σ0:St)(D:Addr)(Q:VK)(H1:Hp):Prop :=
 ∃W:Nat->Nat->List V->Hp->Prop,(∃m,W 0 m [] H1)/\∀i m acc H,W i m acc H ->
  (J.stop i H/\Q (.ref D) H) ∨ (J.go i H/\∃ N:List V->Hp->Prop,(∀ acc' H',N acc' H'->∃ m',m' < m/\W (i+1) m' acc' H') /\
   ∀x H',J.yld i H x H'->g x σ0 H' λσ2 H2=>Wk σ0 σ2/\tt σ2 H2 λb H3=>if b=true then te σ2 H3 λy H4=>H4 D=some (.lst acc)/\acc.length<sizeLine/\N (acc++[y]) (upd H4 D (.lst (acc++[y]))) else N acc H3)
theorem ZKP{Y:Cx}{tg elt iter:Expr}{ifs:List Expr}{scope:Scope}{pos:Pos}{it D:Addr}{J:It}{fp:List Addr}{tn:Nat->Heap->Prop}{g:TG}{tt:TT}{te:TE}{σ0:St}{Q:VK}{R:Result->Shared->Prop}{H:Hp}{s:Shared}
  (hc:Y.calm=true)(T:Turn Y.prog Y.w Y.K tg J fp it tn)(hfp:∀H,(∀b∈fp,H b=none)->∀b∈fp,ZCw Y [] H b)(hg:PG Y tg g)(ht:PTs Y ifs tt)(he:PE Y elt te)(hxe:∀e s,¬Y.xe e s)
  (hR:∀H' s',Inv Y [] σ0 H' s'->Q (.ref D) H'->R (.ok .next) s')(I:Inv Y [] σ0 H s)(st:tn 0 s.heap)(fr:∀b∈fp,H b=none)(hw:ZEL J g tt te σ0 D Q H) :
  codeAny (model Y.prog Y.w) Y.A (.compLoop (.ListComp elt [⟨tg,iter,ifs,0⟩] scope pos) 0 (.ref it) (.ref D) Y.env) R s:=by
 obtain⟨W,⟨m0,w0⟩,turn⟩:=hw;refine codeAny_loop rfl (λn s'=>∃i H' acc,Inv Y [] σ0 H' s'/\tn i s'.heap/\(∀b∈fp,H' b=none)/\W i n acc H') ?_ m0 ⟨0,H,[],I,st,fr,w0⟩
 rintro n s3 ⟨i,H3,acc,I3,st3,fr3,w3⟩
 show wpAny _ Y.A ((compTurn (.ListComp elt [⟨tg,iter,ifs,0⟩] scope pos) 0 (.ref it) (.ref D) Y.env).onRaise (λx=>do noteFrame x Y.env;theTreesLotGoes x)) _ _ s3;refine wpAny_noted ?_;rw[compTurn_list];refine wpAny_bind (wpAny_standAt (wpAny_bind ?_));rcases turn i n acc H3 w3 with ⟨stop,qn⟩|⟨go,N,hN,step⟩
 ·refine thn (T.done Y rfl rfl rfl hc i [] s3 σ0 H3 _ I3 (hfp H3 fr3) st3 stop) λr s4 ⟨hr,I4⟩=>?_
  subst hr;exact wpAny_pure (hR H3 s4 I4 qn)
 ·refine thn (T.item Y rfl rfl rfl hc i [] s3 σ0 H3 _ I3 (hfp H3 fr3) st3 go) λr s4 ⟨u,hr,h4⟩=>?_
  subst hr;refine wpAny_bind (thn h4 λ_ s5 ⟨x,H5,I5,r5,y5,st5,fr5⟩=>?_);have I5':Inv Y (ZCE fp s5.heap) σ0 H5 s5:=by
   have q:=I5.pinned (hfp H5 fr5) (T.obj _ _ st5)
   rwa [nil_append] at q
  have again:∀{σ7:St} {H7:Hp} {acc7:List V} {s7:Shared},Inv Y (ZCE fp s5.heap) σ7 H7 s7->Wk σ0 σ7->N acc7 H7->∃m,m<n/\∃i H' acc,Inv Y [] σ0 H' s7/\tn i s7.heap/\(∀b∈fp,H' b=none)/\W i m acc H':=λ{σ7 H7 acc7 s7} I7 wk n7=>by
   obtain⟨m',hm,w7⟩:=hN acc7 H7 n7;have I8:Inv Y [] σ0 H7 s7:=(I7.weak wk.1 wk.2).pins_of λp hp=>nomatch hp
   refine⟨m',hm,i+1,H7,acc7,I8,T.keep _ _ _ st5 λb hb o e=>(I7.pin (b,o) (mem_append_right _ (ZAQ hb e))).1,λb hb=>?_,w7⟩;obtain⟨o,e,d⟩:=T.obj _ _ st5 b hb;exact(I7.pin (b,o) (mem_append_right _ (ZAQ hb e))).2.1
  refine wpAny_bind (wpAny_mono (hg _ s5 σ0 H5 x u _ I5' r5 (step x H5 y5)) (λ_ s6 ⟨σ6,H6,I6,wk,q6⟩=>?_) λ_ _ z=>(hxe _ _ z).elim);refine wpAny_bind (wpAny_mono (ht _ s6 σ6 H6 _ I6 q6) (λok s7 ⟨H7,I7,q7⟩=>?_) λ_ _ z=>(hxe _ _ z).elim);cases ok with
  |false=>exact wpAny_pure ⟨rfl,again I7 wk q7⟩
  |true =>
   refine wpAny_bind (wpAny_bind (wpAny_mono (he _ s7 σ6 H7 _ I7 q7) (λy s8 ⟨v,H8,I8,r8,hD,hz,q8⟩=>?_) λ_ _ z=>(hxe _ _ z).elim));refine wpAny_bind (wpAny_mono (ZDR _ s8 σ6 H8 (.ref D) [v] (.ref D) [y] (λ_ H9=>N (acc++[v]) H9) I8 rfl (.cons r8 .nil) ⟨D,acc,v,rfl,rfl,hD,hz,q8⟩) (λ_ s9 ⟨_,H9,I9,_,q9⟩=>?_) λ_ _ z=>(hxe _ _ z).elim);exact wpAny_pure (wpAny_pure ⟨rfl,again I9 wk q9⟩)
noncomputable def ZBU(sc scope:Scope)(NX N:List Str)(own:Nat)(cap:List Nat):Bool :=
 (scope.kind == .function) && scope.names.all (λy=>y.2 != .cell && (y.2 != .local || scope.names.lookup y.1 == some .local) && (y.2 != .free || sc.names.lookup y.1 == some .cell || sc.names.lookup y.1 == some .free)) &&
 (N.length == own+cap.length) && ((N.drop own).zip cap).all (λp=>NX[p.2]? == some p.1 && scope.names.lookup p.1 == some .free && (sc.names.lookup p.1 == some .cell || sc.names.lookup p.1 == some .free))
structure CapOk (sc scope:Scope) (NX N:List Str) (own:Nat) (cap:List Nat):Prop where
 kind:scope.kind=.function
 nocell:∀y∈scope.names,y.2≠.cell
 names:∀y∈scope.names,y.2=.local->scope.names.lookup y.1=some .local
 free:∀y∈scope.names,y.2=.free->sc.names.lookup y.1=some .cell∨sc.names.lookup y.1=some .free
 len:N.length=own+cap.length
 caps:∀p∈(N.drop own).zip cap,NX[p.2]? = some p.1/\scope.names.lookup p.1=some .free/\(sc.names.lookup p.1=some .cell∨sc.names.lookup p.1=some .free)
theorem ZEc{sc scope:Scope}{NX N:List Str}{own:Nat}{cap:List Nat}(h:ZBU sc scope NX N own cap=true):CapOk sc scope NX N own cap:=by
 unfold ZBU at h;simp only[Bool.and_eq_true,all_eq_true,Bool.or_eq_true,beq_iff_eq,bne_iff_ne,ne_eq] at h;obtain⟨⟨⟨h1,h2⟩,h3⟩,h4⟩:=h;refine⟨h1,λy hy=>(h2 y hy).1.1,λy hy e=>?_,λy hy e=>?_,h3,λp hp=>?_⟩
 ·rcases(h2 y hy).1.2 with z|z
  ·exact absurd e z
  ·exact z
 ·rcases(h2 y hy).2 with (z|z)|z
  ·exact absurd e z
  ·exact .inl z
  ·exact .inr z
 ·obtain⟨⟨a,b⟩,c⟩:=h4 p hp
  exact⟨a,b,c⟩
noncomputable def ZCT(own:Nat)(cap:List Nat)(σ : St):St:=List.replicate own none++cap.map λj=>(σ[j]?).join
theorem ZA7{env:Env}:∀{names:List (Str×NameKind)} {x:Str} {k:NameKind},(names.map λ(n,k)=>if (k == NameKind.free && env.scope.kind == .function && env.kindOf n == some .cell) then (n,NameKind.cell) else (n,k)).lookup x=some k ->
  ∃k0,names.lookup x=some k0/\(k=k0∨(k0=.free/\k=.cell))
 |[],_,_,h=>by simp at h
 |(n,k0)::r,x,k,h=>by
  have h':List.lookup x ((if (k0 == NameKind.free && env.scope.kind == .function && env.kindOf n == some .cell)=true then (n,NameKind.cell) else (n,k0))::(r.map λ(n,k)=>if (k == NameKind.free && env.scope.kind == .function && env.kindOf n == some .cell) then (n,NameKind.cell) else (n,k)))=some k:=h;cases hx:x == n with
  |true =>
   by_cases hc:(k0 == NameKind.free && env.scope.kind == .function && env.kindOf n == some .cell)=true
   ·rw[if_pos hc,lookup_cons,hx] at h'
    cases h';rw[Bool.and_eq_true,Bool.and_eq_true] at hc;exact⟨k0,by rw[lookup_cons,hx],.inr ⟨by simpa using hc.1.1,rfl⟩⟩
   ·rw[if_neg hc,lookup_cons,hx] at h'
    cases h';exact⟨k0,by rw[lookup_cons,hx],.inl rfl⟩
  |false =>
   have h2:(r.map λ(n,k)=>if (k == NameKind.free && env.scope.kind == .function && env.kindOf n == some .cell) then (n,NameKind.cell) else (n,k)).lookup x=some k:=by
    by_cases hc:(k0 == NameKind.free && env.scope.kind == .function && env.kindOf n == some .cell)=true
    ·rw[if_pos hc,lookup_cons,hx] at h';exact h'
    ·rw[if_neg hc,lookup_cons,hx] at h';exact h'
   obtain⟨k1,e1,r1⟩:=ZA7 h2;exact⟨k1,by rw[lookup_cons,hx];exact e1,r1⟩
theorem Z5{env:Env}:∀{names:List (Str×NameKind)} {x:Str},names.lookup x=some .free ->
  (names.map λ(n,k)=>if (k == NameKind.free && env.scope.kind == .function && env.kindOf n == some .cell) then (n,NameKind.cell) else (n,k)).lookup x=some .cell∨(names.map λ(n,k)=>if (k == NameKind.free && env.scope.kind == .function && env.kindOf n == some .cell) then (n,NameKind.cell) else (n,k)).lookup x=some .free
 |[],_,h=>by simp at h
 |(n,k0)::r,x,h=>by
  show List.lookup x ((if (k0 == NameKind.free && env.scope.kind == .function && env.kindOf n == some .cell)=true then (n,NameKind.cell) else (n,k0))::_)=_∨List.lookup x ((if (k0 == NameKind.free && env.scope.kind == .function && env.kindOf n == some .cell)=true then (n,NameKind.cell) else (n,k0))::_)=_;rw[lookup_cons] at h;cases hx:x == n with
  |true =>
   rw[hx] at h;cases h
   by_cases hc:(NameKind.free == NameKind.free && env.scope.kind == .function && env.kindOf n == some .cell)=true
   ·rw[if_pos hc,lookup_cons,hx];exact .inl rfl
   ·rw[if_neg hc,lookup_cons,hx];exact .inr rfl
  |false =>
   rw[hx] at h;have ih:=Z5 (env:=env) h
   by_cases hc:(k0 == NameKind.free && env.scope.kind == .function && env.kindOf n == some .cell)=true
   ·rw[if_pos hc,lookup_cons,hx];exact ih
   ·rw[if_neg hc,lookup_cons,hx];exact ih
noncomputable def ZFD(own:Nat)(cap:List Nat)(wi:TI)(g:TG)(tt:TT)(te:TE):TE:=λσ H Q=>wi σ H λJ H1=>∀D,H1 D=none->ZEL J g tt te (ZCT own cap σ) D Q (upd H1 D (.lst []))
section
variable{X:Cx}{tg elt iter:Expr}{ifs:List Expr}{scope sc:Scope}{pos:Pos}{wi:TI}{g:TG}{tt:TT}{te:TE}{N NX:List Str}{own:Nat}{cap:List Nat}
theorem ZEl{pins:List (Addr×Obj)}{σ : St}{s2:Shared}{itv:Value}{Q:VK}{E:Value->Shared->Prop}{R:Value->Addr->Result->Shared->Prop}{cl:List (Str×Addr)}(hc:X.calm=true)(hsc:X.env.scope=sc)(hNX:X.N=NX)(co:CapOk sc scope NX N own cap)
  (hsub:∀x c,cl.lookup x=some c->X.env.cells.lookup x=some c)(hall:∀x,(x,NameKind.free)∈scope.names->(cl.lookup x).isSome=true)
  (hb:∀cl C s0 H0 fp,PG (blk X N (compEnvC scope cl C X.env) s0 H0 fp) tg g/\PTs (blk X N (compEnvC scope cl C X.env) s0 H0 fp) ifs tt/\PE (blk X N (compEnvC scope cl C X.env) s0 H0 fp) elt te)
  (h2:PIE X pins σ tg (λJ H1=>∀D,H1 D=none->ZEL J g tt te (ZCT own cap σ) D Q (upd H1 D (.lst []))) itv s2)
  (hR:∀D C H' s',ZCw X pins H' C->(∃m,s'.heap.Ns C m)->(∀h',Heap.SameBut C s'.heap h'->Inv X pins σ H' { s' with heap:=h' })->Q (.ref D) H'->R (.ref D) C (.ok .next) s') :
  wpAny (model X.prog X.w) X.A (newList []) (λ acc s3=>wpAny (model X.prog X.w) X.A (newFunctionEnv scope X.env.globals cl [] X.env.qual none .none (some X.env)) (λ cenv s4 =>
   codeAny (model X.prog X.w) X.A (.compStart (.ListComp elt [⟨tg,iter,ifs,0⟩] scope pos) 0 itv acc { cenv with scope:=relabel scope X.env }) (R acc cenv.locals) s4) E s3) E s2:=by
 obtain⟨it,fp,tn,J,H2,rfl,I2,T,st2,f2,hloop⟩:=h2;refine wpAny_newObj_type (wpAny_newFunctionEnv co.nocell (by intro y hy;simp at hy) (λh1 hns hsb=>?_) co.kind);have fD:H2 s2.heap.objs.size=none:=I2.hok.fresh (le_refl _);have I3:Inv X pins σ (upd H2 s2.heap.objs.size (.lst [])) { s2 with heap:=s2.heap.push { cls:=.type "list",data:=.seq ([]:List Value).toArray } }:=I2.laid (t':=s2.toks) (λb u e=>get?_push_of_some _ e) (le_refl _) ⟨zero_le _,[],0,.nil,get?_push_size _ rfl⟩;have hq:=hloop s2.heap.objs.size fD
 generalize hHD:s2.heap.objs.size=D at *
 generalize hs3:s2.heap.push { cls:=.type "list",data:=.seq ([]:List Value).toArray }=h3 at *
 dsimp only at hns hsb ⊢;have hsz:h3.objs.size=D+1:=by rw[←hs3,size_push,hHD]
 have ob2:∀b∈fp,∃o,s2.heap.get? b=some o:=λb hb'=>let ⟨o,e,_⟩:=T.obj _ _ st2 b hb';⟨o,e⟩
 have k23:∀b o,s2.heap.get? b=some o->h3.get? b=some o:=λb o e=>by rw[←hs3];exact get?_push_of_some _ e
 have k34:∀b o,h3.get? b=some o->h1.get? b=some o:=λb o e=>(hsb.2 b (ne_of_lt (lt_size e))).trans (get?_push_of_some _ e)
 have f3:∀b∈fp,ZCw X pins (upd H2 D (.lst [])) b:=λb hb'=>by
  obtain⟨o,e⟩:=ob2 b hb';exact⟨by rw[ZD (ne_of_lt (by rw[←hHD];exact lt_size e))];exact(f2 b hb').1,(f2 b hb').2⟩
 have ob3:∀b∈fp,∃o,h3.get? b=some o:=λb hb'=>let ⟨o,e⟩:=ob2 b hb';⟨o,k23 b o e⟩
 have hhas:∀x,((compEnvC scope cl h3.objs.size X.env).kindOf x=some .cell∨(compEnvC scope cl h3.objs.size X.env).kindOf x=some .free)->∃c,(compEnvC scope cl h3.objs.size X.env).cells.lookup x=some c:=λx hx=>by
  have q:∃k,(k=NameKind.cell∨k=NameKind.free)/\(relabel scope X.env).names.lookup x=some k:=by
   rcases hx with z|z
   ·exact⟨_,.inl rfl,z⟩
   ·exact⟨_,.inr rfl,z⟩
  obtain⟨k,hk,e⟩:=q;obtain⟨k0,e0,r0⟩:=ZA7 e;have hm:=PySem.mem_of_lookup e0;have hf0:k0=.free:=by
   rcases r0 with z|z
   ·rcases hk with y|y
    ·exact absurd (z.symm.trans y) (co.nocell _ hm)
    ·exact z.symm.trans y
   ·exact z.1
  subst hf0;have:=hall x hm;exact Option.isSome_iff_exists.mp this
 have hcap:∀(i:Nat) (x:Str) (v:V),N[i]? = some x->(ZCT own cap σ)[i]? = some (some v)->((compEnvC scope cl h3.objs.size X.env).kindOf x=some .cell∨(compEnvC scope cl h3.objs.size X.env).kindOf x=some .free)/\X.env.kindOf x≠some .local/\Vis X.env.scope x/\∃j:Nat,X.N[j]? = some x/\σ[j]? = some (some v):=λi x v e1 e2=>by
  unfold ZCT at e2
  by_cases hi:i<own
  ·rw[getElem?_append_left (by simpa using hi),getElem?_replicate] at e2
   split at e2 <;> cases e2
  ·rw[getElem?_append_right (by simpa using hi),length_replicate,getElem?_map] at e2
   cases ej:cap[i-own]? with
   |none=>rw[ej] at e2;cases e2
   |some j =>
    rw[ej] at e2;have e3:(σ[j]?).join=some v:=Option.some.inj e2;have hd:(N.drop own)[i-own]? = some x:=by rw[List.getElem?_drop,show own+(i-own)=i by omega];exact e1
    have hz:(x,j)∈(N.drop own).zip cap:=mem_of_getElem? (i:=i-own) (by rw[List.getElem?_zip_eq_some];exact⟨hd,ej⟩);obtain⟨c1,c2,c3⟩:=co.caps (x,j) hz;have c3':X.env.kindOf x=some .cell∨X.env.kindOf x=some .free:=by unfold Env.kindOf;rw[hsc];exact c3
    refine⟨Z5 c2,λz=>?_,?_,j,by rw[hNX];exact c1,?_⟩
    ·rcases c3' with y|y <;> (rw[y] at z;cases z)
    ·rcases c3' with y|y
     ·exact .inr (.inl y)
     ·exact .inr (.inr y)
    ·cases es : σ[j]? with
     |none=>rw[es] at e3;cases e3
     |some w=>rw[es] at e3;exact congrArg some e3
 have I4:Inv (blk X N (compEnvC scope cl h3.objs.size X.env) { s2 with heap:=h3 } (upd H2 D (.lst [])) fp) [] (ZCT own cap σ) (upd H2 D (.lst [])) { s2 with heap:=h1,toks:=s2.toks+([]:List (Str×Value)).length } :=
  ZJK I3 f3 ob3 (le_refl _) co.kind rfl rfl hsub hhas k34 hns (by unfold ZCT;rw[length_append,length_replicate,length_map,co.len]) hcap
 obtain⟨hg,ht,he⟩:=hb cl h3.objs.size { s2 with heap:=h3 } (upd H2 D (.lst [])) fp;have loop:codeAny (model X.prog X.w) X.A (.compLoop (.ListComp elt [⟨tg,iter,ifs,0⟩] scope pos) 0 (.ref it) (.ref D) (compEnvC scope cl h3.objs.size X.env)) (R (.ref D) h3.objs.size) { s2 with heap:=h1,toks:=s2.toks+([]:List (Str×Value)).length }:=by
  refine ZKP (Y:=blk X N (compEnvC scope cl h3.objs.size X.env) { s2 with heap:=h3 } (upd H2 D (.lst [])) fp) (Q:=Q) hc T (λH0 fr b hb'=>?_) hg ht he (λ_ _ z=>z) (λH' s' J' q=>?_) I4 (T.keep _ _ _ st2 λb _ o e=>k34 b o (k23 b o e)) (λb hb'=>(f3 b hb').1) hq
  ·obtain⟨o,e⟩:=ob3 b hb'
   exact⟨fr b hb',ne_of_lt (lt_size e),λz=>(List.mem_cons.mp (I3.stkSub b z)).elim (f3 b hb').2.1 (f3 b hb').2.2.1,.inl hb',λx c ec=>(f3 b hb').2.2.2.2.1 x c (hsub x c ec),λp hp=>nomatch hp⟩
  ·exact hR D h3.objs.size H' s' (I3.fpOk (le_refl _) J'.free) (let ⟨m,hm,_⟩:=J'.loc;⟨m,hm⟩) (λh' sb=>ZGT (env:=compEnvC scope cl h3.objs.size X.env) I3 f3 (le_refl _) J' sb) q
 exact codeAny_compStart_list loop (T.self _ 0 _ _ _ (T.keep _ _ _ st2 λb _ o e=>k34 b o (k23 b o e)) loop)
theorem ZGt(hc:X.calm=true)(hi:PI X tg iter wi)(hsc:X.env.scope=sc)(hNX:X.N=NX)
  (hb:∀cl C s0 H0 fp,PG (blk X N (compEnvC scope cl C X.env) s0 H0 fp) tg g/\PTs (blk X N (compEnvC scope cl C X.env) s0 H0 fp) ifs tt/\PE (blk X N (compEnvC scope cl C X.env) s0 H0 fp) elt te)
  (co:ZBU sc scope NX N own cap=true)(hs:∀x,foldedSetIterable iter X.env x=pure x:=by intro _;rfl):PE X (.ListComp elt [⟨tg,iter,ifs,0⟩] scope pos) (ZFD own cap wi g tt te):=by
 intro pins s σ H Q I h;have co:=ZEc co;obtain⟨cl,hcl,hsub,hall⟩:=ZBM (env:=X.env) (scope:=scope) λy hy e=>I.ok.has y.1 (by unfold Env.kindOf;rw[hsc];exact co.free y hy e)
 rw[eval_ListComp];refine wpAny_comprehension_free (use:=none) rfl hs hcl co.kind co.names (thn (hi pins s σ H _ I h) λv s1 h1=>thn h1 λitv s2 h2=>?_);refine ZEl (Q:=Q) (R:=λacc C=>compPost (model X.prog X.w) X.A X.xe none (EP X pins σ Q) acc C) hc hsc hNX co hsub hall hb h2 λD C H' s' _ ⟨m,hm⟩ hi' q=>?_
 exact⟨m,hm,λh' sb=>⟨.ref D,H',hi' h' sb,rfl,q⟩⟩
theorem ZJl{i:Nat}{x:Str}{py spos:Pos}(hN:X.N.Nodup)(hi:X.N[i]? = some x)(hx:Loc X.env.scope x)(hc:X.calm=true)(hit:PI X tg iter wi)(hsc:X.env.scope=sc)(hNX:X.N=NX)
  (hb:∀cl C s0 H0 fp,PG (blk X N (compEnvC scope cl C X.env) s0 H0 fp) tg g/\PTs (blk X N (compEnvC scope cl C X.env) s0 H0 fp) ifs tt/\PE (blk X N (compEnvC scope cl C X.env) s0 H0 fp) elt te)
  (co:ZBU sc scope NX N own cap=true)(hsw:swapsWith (.ListComp elt [⟨tg,iter,ifs,0⟩] scope pos) (some (.Name x py)) spos.line X.env=pure true:=by rfl)(hs:∀x,foldedSetIterable iter X.env x=pure x:=by intro _;rfl)
  (hf:X.fn x=true∨X.env.scope.names.lookup x=some .local:=by first|exact .inl rfl|exact .inr rfl|assumption) :
  PS X (.Assign [.Name x py] (.ListComp elt [⟨tg,iter,ifs,0⟩] scope pos) spos) (ZQg (ZFD own cap wi g tt te) (ZHe i)):=by
 intro pins s σ H D I h;have co:=ZEc co;obtain⟨cl,hcl,hsub,hall⟩:=ZBM (env:=X.env) (scope:=scope) λy hy e=>I.ok.has y.1 (by unfold Env.kindOf;rw[hsc];exact co.free y hy e)
 rw[exec_Assign_Name_used _ _ _ _ hsw];refine wpAny_bind (wpAny_standAt (wpAny_bind ?_));show wpAny (model X.prog X.w) X.A (comprehension (.ListComp elt [⟨tg,iter,ifs,0⟩] scope pos) scope X.env _ (newList []) false (eval iter X.env) (some (assign (.Name x py) X.env)) >>= λ_=>pure ()) _ _ s;refine wpAny_bind (thn (wpAny_comprehension_free (use:=some (assign (.Name x py) X.env)) (Q:=λ_ s'=>SP X pins D .next s') rfl hs hcl co.kind co.names (thn (hit pins s σ H _ I h) λv s1 h1=>thn h1 λitv s2 h2=>?_)) λ_ s' q=>wpAny_pure (wpAny_pure q));refine ZEl (Q:=λv H1=>ZHe i v σ H1 D.nx) (R:=λacc C=>compPost (model X.prog X.w) X.A X.xe (some (assign (.Name x py) X.env)) (λ_ s'=>SP X pins D .next s') acc C) hc hsc hNX co hsub hall hb h2 λDa C H' s' fC ⟨m,hm⟩ hi' q=>?_
 have I1:Inv X pins σ H' s':=hi' s'.heap (Heap.SameBut.refl ..);show wpAny _ _ (assign (.Name x py) X.env (.ref Da)) _ _ s';refine wpAny_assign_Name (ZF3 I1 hN hi hx (v:=.ref Da) rfl (λs3 I3 ⟨a,sb,ha⟩=>?_) hf);obtain⟨f0,f1,f2,f3,f4,f5⟩:=fC;have nC:C≠a:=by
  rcases ha with z|z
  ·rw[z];exact f1
  ·exact Ne.symm (f4 _ _ z)
 exact⟨m,hm.sameBut sb nC,λh' sb2=>⟨_,H',I3.turned (t':=s3.toks) (λb o hb' e=>(sb2.2 b hb').trans e) f0 f1 f3 f4 f5,q⟩⟩
end
section
variable{X:Cx}
theorem ZMl(hc:X.calm=true):ZN X (.builtin "all") (λxs H Q=>∃(p:Addr) (bs:List Bool),xs=[.ref p]/\SqL X.K H p (bs.map V.bl)/\Q (.bl (bs.all id)) H):=by
 intro pins s σ H xs us Q I r h;obtain⟨p,bs,rfl,hq,q⟩:=h;obtain⟨u,rfl,ru⟩:=ZAk r;cases ru;obtain⟨its,rv,pl,hz⟩:=I.list hq;have hlen:=rv.length;rw[length_map] at hlen;have hpl:p<s.heap.objs.size:=by
  obtain⟨o,n,e,_⟩:=pl;exact lt_size e
 refine call_all_walk (wpAny_pyIter_list pl.isList ⟨s.heap.objs.size,_,_,_,_,_,λi=>bs.getD i false,rfl,Walks.list (A:=X.A.in1) (show X.A.in1.handled=none from I.ok.hd hc) s.heap.objs.size p (ne_of_lt hpl) its.toArray,?_,?_,λh' tk k=>?_⟩)
 ·exact⟨⟨_,get?_push_size _ rfl,rfl,rfl⟩,pl.isList.at λo e=>get?_push_of_some _ e⟩
 ·intro i v s' Q' E' hv hQ
  have hv':its[i]? = some v:=by simpa using hv
  have hi:i<bs.length:=by rw[hlen];exact(List.getElem?_eq_some_iff.mp hv').1
  obtain⟨u,hu,ru⟩:=rv.get (i:=i) (x:=V.bl bs[i]) (by simp[hi]);rw[hv'] at hu;cases hu;cases ru;have e:bs.getD i false=bs[i]:=by simp[List.getD,hi]
  dsimp only at hQ;rw[e] at hQ;exact wpAny_truthy_bool hQ
 ·have e:((List.range its.toArray.size).all λi=>bs.getD i false)=bs.all id:=by
   rw[Bool.eq_iff_iff,all_eq_true,all_eq_true];constructor
   ·intro z b hb
    obtain⟨i,hi,rfl⟩:=List.mem_iff_getElem.mp hb;have:=z i (by simp[←hlen,hi]);simpa [List.getD,hi] using this
   ·intro z i hi
    have hi':i<bs.length:=by simpa [←hlen] using hi
    have:=z bs[i] (getElem_mem hi');simpa [List.getD,hi'] using this
  rw[e];exact⟨.bl (bs.all id),H,I.kept λb o q=>k b o (by simp;exact ne_of_lt (lt_size q)) (get?_push_of_some _ q),rfl,q⟩
end
structure Fine (d:PyData) (k L:Nat):Prop where
 lay:d.canLay0=true
 sh:d.showable=true
 dp:d.depth<=k
 ln:d.shown.length<=L
 nd:d.hasDict=false
theorem Fine.mono{d:PyData}{k L k' L':Nat}(f:Fine d k L)(h:k<=k')(h':L<=L'):Fine d k' L':=⟨f.lay,f.sh,le_trans f.dp h,le_trans f.ln h',f.nd⟩
theorem ZFp{i:Int}(h:i.natAbs<10 ^ 12):i.natAbs.log2<1920:=by
 by_cases h0:i.natAbs=0
 ·rw[h0];decide
 ·exact(Nat.log2_lt h0).mpr (lt_of_lt_of_le h (le_trans (show 10 ^ 12<=2 ^ 64 by decide) (Nat.pow_le_pow_right (by decide) (by decide))))
theorem Fine.int{i:Int}(h:i.natAbs<10 ^ 12):Fine (.int i) 0 13:=⟨rfl,by rw[PyData.showable.eq_4];exact decide_eq_true (ZFp h),le_refl _,PyData.shown_int_le h,rfl⟩
theorem Fine.all{k L:Nat}:∀{xs:List PyData},(∀x∈xs,Fine x k L)->PyData.canLayAll0 xs=true/\PyData.showableAll xs=true/\PyData.depthAll xs<=k/\PyData.hasDictAll xs=false/\((PyData.shownAll xs).map (λ(x:Str)=>x.length)).sum<=xs.length*L/\(PyData.shownAll xs).length=xs.length
 |[],_=>⟨rfl,rfl,zero_le _,rfl,zero_le _,rfl⟩
 |x::xs,h=>by
  obtain⟨h1,h2,h3,h4,h5,h6⟩:=Fine.all (xs:=xs) λy hy=>h y (mem_cons_of_mem _ hy)
  have f:=h x (mem_cons_self ..);refine⟨?_,?_,?_,?_,?_,?_⟩
  ·show(x.canLay0 && PyData.canLayAll0 xs)=true
   rw[f.lay,h1];rfl
  ·rw[PyData.showableAll.eq_2,f.sh,h2]
   rfl
  ·rw[PyData.depthAll.eq_2]
   exact Nat.max_le.mpr ⟨f.dp,h3⟩
  ·show(x.hasDict || PyData.hasDictAll xs)=false
   rw[f.nd,h4];rfl
  ·rw[PyData.shownAll.eq_2,map_cons,sum_cons,length_cons,Nat.add_mul,Nat.one_mul,add_comm]
   exact Nat.add_le_add h5 f.ln
  ·rw[PyData.shownAll.eq_2,length_cons,h6,length_cons]
theorem Fine.tup{k L n:Nat}{xs:List PyData}(h:∀x∈xs,Fine x k L)(hn:xs.length<=n):Fine (.tuple xs) (k+1) (n*(L+2)+3):=by
 obtain⟨h1,h2,h3,h4,h5,h6⟩:=Fine.all h;refine⟨h1,by rw[PyData.showable.eq_6];exact h2,by rw[PyData.depth.eq_2];omega,?_,by rw[PyData.hasDict.eq_6];exact h4⟩;rw[PyData.shown.eq_6];have:=tupleText_len_le (PyData.shownAll xs);rw[h6] at this
 have hm:xs.length*L<=n*L:=mul_le_mul_right _ hn;rw[Nat.mul_add];omega
end L2
namespace HI
open PySem PyProof.Rows
noncomputable def ZAg(h:Heap)(z TI TO:Addr)(f0 f1:Value):Prop:=h.get? z=some { cls:=.type "zip",data:=.fields #[f0,f1,.bool false,.ref TI,.ref TO] }
section
variable{prog:Program}{w:World}{A:Around}{E:Value->Shared->Prop}{s:Shared}{q qq:Bool}
theorem ZLT{z TI TO i1 i2 l1 l2:Addr}{k1 k2:Nat}{xs ys:Array Value}{x y a b f0 f1:Value}{Q:Value->Shared->Prop}(ap:ZipApart z TI TO i1 i2 l1 l2)(hz:ZAg s.heap z TI TO f0 f1)(hfree:∀Q:Bool->Shared->Prop,Q true s->wpAny (model prog w) A (Builtin.SmallTypes.ownedTupleIsFree (.ref z)) Q E s)(hTI:IsPair s.heap TI (.ref i1) (.ref i2))(hTO:IsPair s.heap TO a b)
  (h1:Zr q s.heap i1 l1 k1)(h2:Zr qq s.heap i2 l2 k2)(hl1:IsSq q s.heap l1 xs)(hl2:IsSq qq s.heap l2 ys)(hx:xs[k1]? = some x)(hy:ys[k2]? = some y)
  (k:∀ h',ZAg h' z TI TO (rawInt s.heap.objs.size) (.bool false)->IsPair h' TO x y->Zr q h' i1 l1 (k1+1)->Zr qq h' i2 l2 (k2+1)->IsPair h' s.heap.objs.size x y->h'.objs.size=s.heap.objs.size+1 ->
   (∀c o,c≠z->c≠TO->c≠i1->c≠i2->s.heap.get? c=some o->h'.get? c=some o)->Q (.ref s.heap.objs.size) { s with heap:=h' }) :
  wpAny (model prog w) A (Builtin.«zip.__next__» ⟨[.ref z],[]⟩) (λfin s'=>∃v,fin=.done (.ret v)/\Q v s') E s:=by
 unfold Builtin.«zip.__next__»;refine wpAny_bind (m:=slotArgs "__next__" 0 ⟨[.ref z],[]⟩) (wpAny_of_eq (a:=(Value.ref z,[])) (by rfl) ?_);refine wpAny_bind (m:=field (.ref z) 2) (wpAny_field hz rfl (x:=.bool false) rfl ?_);refine wpAny_bind (m:=field (.ref z) 3) (wpAny_field hz rfl (x:=.ref TI) rfl ?_);refine wpAny_bind (m:=seqItems? (.ref TI)) (wpAny_seqItems hTI rfl ?_);dsimp only;rw[if_neg (by intro z;cases z)];refine wpAny_bind (m:=Builtin.SmallTypes.ownedTupleIsFree (.ref z)) (hfree _ ?_);rw[if_pos rfl];refine wpAny_bind (wpAny_rule ?_);refine wpAny_bind (m:=field (.ref z) 4) (wpAny_field hz rfl (x:=.ref TO) rfl ?_);dsimp only;refine wpAny_bind (wpAny_setField hz rfl (by simp) ?_);have nz:=ap;obtain⟨TIz,TOz,i1z,i2z,TITO,TIi1,TIi2,TOi1,TOi2,i12,l1z,l1TO,l1i1,l1i2,l2z,l2TO,l2i1,l2i2⟩:=nz;have sA:=Heap.SameBut.update (h:=s.heap) z (Obj.mapFields λ(x:Array Value)=>x.setIfInBounds 0 Value.ellipsis);have zA:ZAg (s.heap.update z (Obj.mapFields λ(x:Array Value)=>x.setIfInBounds 0 Value.ellipsis)) z TI TO .ellipsis f1:=get?_update_self _ hz rfl
 generalize hHA:s.heap.update z (Obj.mapFields λ(x:Array Value)=>x.setIfInBounds 0 Value.ellipsis)=HA at *
 refine wpAny_bind ?_;show wpAny _ _ (forIn [(Value.ref i1,0),(Value.ref i2,1)] _ _) _ _ _;simp only[forIn_cons,forIn_nil];refine wpAny_bind (wpAny_bind (wpAny_onRaise ?_));show wpAny _ _ (Builtin.SmallTypes.nextOf (.ref i1) >>= λv=>pure (some v)) _ _ _;have h1A:Zr q HA i1 l1 k1:=let ⟨o,e,r⟩:=h1;⟨o,(sA.2 i1 i1z).trans e,r⟩
 have h2A:Zr qq HA i2 l2 k2:=let ⟨o,e,r⟩:=h2;⟨o,(sA.2 i2 i2z).trans e,r⟩
 have hl1A:IsSq q HA l1 xs:=let ⟨o,e,r⟩:=hl1;⟨o,(sA.2 l1 l1z).trans e,r⟩
 have hl2A:IsSq qq HA l2 ys:=let ⟨o,e,r⟩:=hl2;⟨o,(sA.2 l2 l2z).trans e,r⟩
 have hTOA:IsPair HA TO a b:=(sA.2 TO TOz).trans hTO;refine wpAny_bind (ZFY (s:={ s with heap:=HA }) h1A hl1A hx λHB h1B sB=>wpAny_pure ?_);dsimp only at sB ⊢;have h2B:Zr qq HB i2 l2 k2:=let ⟨o,e,r⟩:=h2A;⟨o,(sB.2 i2 (Ne.symm i12)).trans e,r⟩
 have hl2B:IsSq qq HB l2 ys:=let ⟨o,e,r⟩:=hl2A;⟨o,(sB.2 l2 l2i1).trans e,r⟩
 have hTOB:IsPair HB TO a b:=(sB.2 TO TOi1).trans hTOA;have zB:ZAg HB z TI TO .ellipsis f1:=(sB.2 z (Ne.symm i1z)).trans zA;refine wpAny_bind (m:=seqItems? (.ref TO)) (wpAny_seqItems hTOB rfl ?_);dsimp only;refine wpAny_bind (wpAny_updateSeq hTOB rfl ?_ (by show 2<=sizeLine;decide) (by show 2<=_;decide));have sC:=Heap.SameBut.update (h:=HB) TO (Obj.mapSeq λ(x_2:Array Value)=>x_2.setIfInBounds 0 x);have hTOC:IsPair (HB.update TO (Obj.mapSeq λ(x_2:Array Value)=>x_2.setIfInBounds 0 x)) TO x b:=get?_update_self _ hTOB rfl
 generalize HB.update TO (Obj.mapSeq λ(x_2:Array Value)=>x_2.setIfInBounds 0 x)=HC at *
 refine wpAny_bind (wpAny_letGo (wpAny_pure ?_));dsimp only;have h1C:Zr q HC i1 l1 (k1+1):=let ⟨o,e,r⟩:=h1B;⟨o,(sC.2 i1 (Ne.symm TOi1)).trans e,r⟩
 have h2C:Zr qq HC i2 l2 k2:=let ⟨o,e,r⟩:=h2B;⟨o,(sC.2 i2 (Ne.symm TOi2)).trans e,r⟩
 have hl2C:IsSq qq HC l2 ys:=let ⟨o,e,r⟩:=hl2B;⟨o,(sC.2 l2 l2TO).trans e,r⟩
 have zC:ZAg HC z TI TO .ellipsis f1:=(sC.2 z (Ne.symm TOz)).trans zB;refine wpAny_bind (wpAny_bind (wpAny_onRaise ?_));show wpAny _ _ (Builtin.SmallTypes.nextOf (.ref i2) >>= λv=>pure (some v)) _ _ _;refine wpAny_bind (ZFY (s:={ s with heap:=HC }) h2C hl2C hy λHD h2D sD=>wpAny_pure ?_);dsimp only at sD ⊢;have h1D:Zr q HD i1 l1 (k1+1):=let ⟨o,e,r⟩:=h1C;⟨o,(sD.2 i1 i12).trans e,r⟩
 have hTOD:IsPair HD TO x b:=(sD.2 TO TOi2).trans hTOC;have zD:ZAg HD z TI TO .ellipsis f1:=(sD.2 z (Ne.symm i2z)).trans zC;refine wpAny_bind (m:=seqItems? (.ref TO)) (wpAny_seqItems hTOD rfl ?_);dsimp only;refine wpAny_bind (wpAny_updateSeq hTOD rfl ?_ (by show 2<=sizeLine;decide) (by show 2<=_;decide));have sE:=Heap.SameBut.update (h:=HD) TO (Obj.mapSeq λ(x_2:Array Value)=>x_2.setIfInBounds 1 y);have hTOE:IsPair (HD.update TO (Obj.mapSeq λ(x_2:Array Value)=>x_2.setIfInBounds 1 y)) TO x y:=get?_update_self _ hTOD rfl
 generalize HD.update TO (Obj.mapSeq λ(x_2:Array Value)=>x_2.setIfInBounds 1 y)=HE at *
 refine wpAny_bind (wpAny_letGo (wpAny_pure (wpAny_pure ?_)));dsimp only;have h1E:Zr q HE i1 l1 (k1+1):=let ⟨o,e,r⟩:=h1D;⟨o,(sE.2 i1 (Ne.symm TOi1)).trans e,r⟩
 have h2E:Zr qq HE i2 l2 (k2+1):=let ⟨o,e,r⟩:=h2D;⟨o,(sE.2 i2 (Ne.symm TOi2)).trans e,r⟩
 have zE:ZAg HE z TI TO .ellipsis f1:=(sE.2 z (Ne.symm TOz)).trans zD;have hsz:HE.objs.size=s.heap.objs.size:=by rw[sE.1,sD.1,sC.1,sB.1,sA.1]
 have kE:∀c o,c≠z->c≠TO->c≠i1->c≠i2->s.heap.get? c=some o->HE.get? c=some o:=λc o n1 n2 n3 n4 e=>by
  rw[sE.2 c n2,sD.2 c n4,sC.2 c n2,sB.2 c n3,sA.2 c n1];exact e
 refine wpAny_bind (m:=seqItems? (.ref TO)) (wpAny_seqItems hTOE rfl ?_);dsimp only;refine wpAny_bind (m:=newTuple [x,y]) (wpAny_newObj_type ?_ (by show 2<=sizeLine;decide));have hzs:z<HE.objs.size:=lt_size zE;have hF:IsPair (HE.push { cls:=.type "tuple",data:=.seq #[x,y] }) s.heap.objs.size x y:=by rw[←hsz];exact get?_push_size _ rfl
 have kF:∀c o,HE.get? c=some o->(HE.push { cls:=.type "tuple",data:=.seq #[x,y] }).get? c=some o:=λc o e=>get?_push_of_some _ e
 have szF:(HE.push { cls:=.type "tuple",data:=.seq #[x,y] }).objs.size=s.heap.objs.size+1:=by rw[size_push,hsz]
 have zF:=kF _ _ zE
 generalize hHF:HE.push { cls:=.type "tuple",data:=.seq #[x,y] }=HF at *
 dsimp only;rw[hsz];unfold Builtin.SmallTypes.ownedTupleHandOut;refine wpAny_bind (wpAny_bind (wpAny_setField zF rfl (by simp) ?_));have sG:=Heap.SameBut.update (h:=HF) z (Obj.mapFields λ(q:Array Value)=>q.setIfInBounds 0 (rawInt (s.heap.objs.size:Int)));have zG:ZAg (HF.update z (Obj.mapFields λ(q:Array Value)=>q.setIfInBounds 0 (rawInt (s.heap.objs.size:Int)))) z TI TO (rawInt (s.heap.objs.size:Int)) f1:=get?_update_self _ zF rfl
 generalize HF.update z (Obj.mapFields λ(q:Array Value)=>q.setIfInBounds 0 (rawInt (s.heap.objs.size:Int)))=HG at *
 refine wpAny_setField zG rfl (by simp) ?_;have sH:=Heap.SameBut.update (h:=HG) z (Obj.mapFields λ(q:Array Value)=>q.setIfInBounds 1 (.bool false));have zH:ZAg (HG.update z (Obj.mapFields λ(q:Array Value)=>q.setIfInBounds 1 (.bool false))) z TI TO (rawInt (s.heap.objs.size:Int)) (.bool false):=get?_update_self _ zG rfl
 generalize HG.update z (Obj.mapFields λ(q:Array Value)=>q.setIfInBounds 1 (.bool false))=HH at *
 have kH:∀c o,c≠z->HF.get? c=some o->HH.get? c=some o:=λc o n e=>by
  rw[sH.2 c n,sG.2 c n];exact e
 have zlt:z≠s.heap.objs.size:=ne_of_lt (by rw[←hsz];exact hzs);refine wpAny_pure ⟨_,rfl,k HH zH (kH _ _ TOz (kF _ _ hTOE)) ?_ ?_ (kH _ _ (Ne.symm zlt) hF) (by rw[sH.1,sG.1,szF]) λc o n1 n2 n3 n4 e=>kH c o n1 (kF c o (kE c o n1 n2 n3 n4 e))⟩
 ·obtain⟨o,e,r⟩:=h1E
  exact⟨o,kH _ _ i1z (kF _ _ e),r⟩
 ·obtain⟨o,e,r⟩:=h2E
  exact⟨o,kH _ _ i2z (kF _ _ e),r⟩
theorem ZPl{M:Model}{a:Addr}{Q:Option Obj->Shared->Prop}(h:Q (s.heap.get? a) s):wpAny M A (loadIfAlive a) Q E s:=λΓ p _=>by
 unfold loadIfAlive;rw[Sem.wp_loadIfAlive];exact h
theorem ZFx{z TI TO:Addr}{f1:Value}(hz:ZAg s.heap z TI TO .none f1)(Q:Bool->Shared->Prop)(q:Q true s):wpAny (model prog w) A (Builtin.SmallTypes.ownedTupleIsFree (.ref z)) Q E s:=by
 unfold Builtin.SmallTypes.ownedTupleIsFree;exact wpAny_bind (m:=field (.ref z) 0) (wpAny_field hz rfl (x:=.none) rfl (wpAny_pure q))
theorem ZF1{z TI TO:Addr}{f1:Value}{T:Nat}(hz:ZAg s.heap z TI TO (rawInt (T:Int)) f1)(hT:s.heap.get? T=none)(Q:Bool->Shared->Prop)(q:Q true s):wpAny (model prog w) A (Builtin.SmallTypes.ownedTupleIsFree (.ref z)) Q E s:=by
 unfold Builtin.SmallTypes.ownedTupleIsFree;refine wpAny_bind (m:=field (.ref z) 0) (wpAny_field hz rfl (x:=rawInt (T:Int)) rfl ?_);refine wpAny_bind (m:=loadIfAlive (T:Int).toNat) (ZPl ?_);rw[toNat_natCast,hT];exact wpAny_pure q
theorem ZSJ{z TI TO:Addr}{f1:Value}{T:Nat}{o:Obj}{Q:Bool->Shared->Prop}(hz:ZAg s.heap z TI TO (rawInt (T:Int)) f1)(hT:s.heap.get? T=some o)
  (q:∀h' f1',ZAg h' z TI TO (rawInt (T:Int)) f1'->Heap.SameBut z s.heap h'->Q false { s with heap:=h' }):wpAny (model prog w) A (Builtin.SmallTypes.ownedTupleIsFree (.ref z)) Q E s:=by
 unfold Builtin.SmallTypes.ownedTupleIsFree;refine wpAny_bind (m:=field (.ref z) 0) (wpAny_field hz rfl (x:=rawInt (T:Int)) rfl ?_);refine wpAny_bind (m:=loadIfAlive (T:Int).toNat) (ZPl ?_);rw[toNat_natCast,hT];show wpAny _ _ (field (.ref z) 1 >>= _) _ _ _;refine wpAny_bind (m:=field (.ref z) 1) (wpAny_field hz rfl (x:=f1) rfl ?_)
 by_cases c:(f1 != Value.bool true)=true
 ·rw[if_pos c]
  refine wpAny_bind (wpAny_setField hz rfl (by simp) (wpAny_pure (q _ (.bool true) ?_ (Heap.SameBut.update ..))));exact get?_update_self _ hz rfl
 ·rw[if_neg c]
  exact wpAny_pure (q s.heap f1 hz (Heap.SameBut.refl ..))
theorem ZNN{z TI TO i1 i2 l1 l2:Addr}{k1 k2 T:Nat}{o:Obj}{xs ys:Array Value}{x y f1:Value}{Q:Value->Shared->Prop}(ap:ZipApart z TI TO i1 i2 l1 l2)(hz:ZAg s.heap z TI TO (rawInt (T:Int)) f1)(hT:s.heap.get? T=some o)(hTI:IsPair s.heap TI (.ref i1) (.ref i2))
  (h1:Zr q s.heap i1 l1 k1)(h2:Zr qq s.heap i2 l2 k2)(hl1:IsSq q s.heap l1 xs)(hl2:IsSq qq s.heap l2 ys)(hx:xs[k1]? = some x)(hy:ys[k2]? = some y)
  (k:∀ h' f1',ZAg h' z TI TO (rawInt (T:Int)) f1'->Zr q h' i1 l1 (k1+1)->Zr qq h' i2 l2 (k2+1)->IsPair h' s.heap.objs.size x y->h'.objs.size=s.heap.objs.size+1 ->
   (∀c o,c≠z->c≠i1->c≠i2->s.heap.get? c=some o->h'.get? c=some o)->Q (.ref s.heap.objs.size) { s with heap:=h' }) :
  wpAny (model prog w) A (Builtin.«zip.__next__» ⟨[.ref z],[]⟩) (λfin s'=>∃v,fin=.done (.ret v)/\Q v s') E s:=by
 unfold Builtin.«zip.__next__»;refine wpAny_bind (m:=slotArgs "__next__" 0 ⟨[.ref z],[]⟩) (wpAny_of_eq (a:=(Value.ref z,[])) (by rfl) ?_);refine wpAny_bind (m:=field (.ref z) 2) (wpAny_field hz rfl (x:=.bool false) rfl ?_);refine wpAny_bind (m:=field (.ref z) 3) (wpAny_field hz rfl (x:=.ref TI) rfl ?_);refine wpAny_bind (m:=seqItems? (.ref TI)) (wpAny_seqItems hTI rfl ?_);dsimp only;rw[if_neg (by intro z;cases z)];obtain⟨TIz,TOz,i1z,i2z,TITO,TIi1,TIi2,TOi1,TOi2,i12,l1z,l1TO,l1i1,l1i2,l2z,l2TO,l2i1,l2i2⟩:=ap;refine wpAny_bind (m:=Builtin.SmallTypes.ownedTupleIsFree (.ref z)) (ZSJ hz hT λHA f1' zA sA=>?_);rw[if_neg (by intro z;cases z)];have h1A:Zr q HA i1 l1 k1:=let ⟨o,e,r⟩:=h1;⟨o,(sA.2 i1 i1z).trans e,r⟩
 have h2A:Zr qq HA i2 l2 k2:=let ⟨o,e,r⟩:=h2;⟨o,(sA.2 i2 i2z).trans e,r⟩
 have hl1A:IsSq q HA l1 xs:=let ⟨o,e,r⟩:=hl1;⟨o,(sA.2 l1 l1z).trans e,r⟩
 have hl2A:IsSq qq HA l2 ys:=let ⟨o,e,r⟩:=hl2;⟨o,(sA.2 l2 l2z).trans e,r⟩
 refine wpAny_bind ?_;rw[←Array.forIn_toList];show wpAny _ _ (forIn [Value.ref i1,Value.ref i2] _ _) _ _ _;simp only[forIn_cons,forIn_nil];refine wpAny_bind (wpAny_bind (wpAny_holding ?_));show wpAny _ _ (Builtin.SmallTypes.nextOf (.ref i1) >>= λv=>pure (some v)) _ _ _;refine wpAny_bind (ZFY (s:={ s with heap:=HA }) h1A hl1A hx λHB h1B sB=>wpAny_pure ?_);dsimp only at sB ⊢;have h2B:Zr qq HB i2 l2 k2:=let ⟨o,e,r⟩:=h2A;⟨o,(sB.2 i2 (Ne.symm i12)).trans e,r⟩
 have hl2B:IsSq qq HB l2 ys:=let ⟨o,e,r⟩:=hl2A;⟨o,(sB.2 l2 l2i1).trans e,r⟩
 have zB:ZAg HB z TI TO (rawInt (T:Int)) f1':=(sB.2 z (Ne.symm i1z)).trans zA;refine wpAny_pure (wpAny_bind (wpAny_bind (wpAny_holding ?_)));show wpAny _ _ (Builtin.SmallTypes.nextOf (.ref i2) >>= λv=>pure (some v)) _ _ _;refine wpAny_bind (ZFY (s:={ s with heap:=HB }) h2B hl2B hy λHC h2C sC=>wpAny_pure ?_);dsimp only at sC ⊢;have h1C:Zr q HC i1 l1 (k1+1):=let ⟨o,e,r⟩:=h1B;⟨o,(sC.2 i1 i12).trans e,r⟩
 have zC:ZAg HC z TI TO (rawInt (T:Int)) f1':=(sC.2 z (Ne.symm i2z)).trans zB;refine wpAny_pure (wpAny_pure ?_);dsimp only;have hsz:HC.objs.size=s.heap.objs.size:=by rw[sC.1,sB.1,sA.1]
 have kC:∀c o,c≠z->c≠i1->c≠i2->s.heap.get? c=some o->HC.get? c=some o:=λc o n1 n3 n4 e=>by
  rw[sC.2 c n4,sB.2 c n3,sA.2 c n1];exact e
 refine wpAny_bind (m:=newTuple [x,y]) (wpAny_newObj_type ?_ (by show 2<=sizeLine;decide));have hF:IsPair (HC.push { cls:=.type "tuple",data:=.seq #[x,y] }) s.heap.objs.size x y:=by rw[←hsz];exact get?_push_size _ rfl
 have kF:∀c o,HC.get? c=some o->(HC.push { cls:=.type "tuple",data:=.seq #[x,y] }).get? c=some o:=λc o e=>get?_push_of_some _ e
 have szF:(HC.push { cls:=.type "tuple",data:=.seq #[x,y] }).objs.size=s.heap.objs.size+1:=by rw[size_push,hsz]
 have zF:=kF _ _ zC;refine wpAny_pure ⟨_,rfl,?_⟩;dsimp only;rw[hsz];refine k _ f1' zF ?_ ?_ hF szF λc o n1 n3 n4 e=>kF c o (kC c o n1 n3 n4 e)
 ·obtain⟨o,e,r⟩:=h1C
  exact⟨o,kF _ _ e,r⟩
 ·obtain⟨o,e,r⟩:=h2C
  exact⟨o,kF _ _ e,r⟩
theorem ZI5{z TI TO i1 i2 l1 l2:Addr}{k1 k2:Nat}{xs ys:Array Value}{a b f0 f1:Value}{Q:PySem.Fin->Shared->Prop}(hh:A.handled=none)(ap:ZipApart z TI TO i1 i2 l1 l2)(hz:ZAg s.heap z TI TO f0 f1)(hfree:∀Q:Bool->Shared->Prop,Q true s->wpAny (model prog w) A (Builtin.SmallTypes.ownedTupleIsFree (.ref z)) Q E s)(hTI:IsPair s.heap TI (.ref i1) (.ref i2))(hTO:IsPair s.heap TO a b)
  (h1:Zr q s.heap i1 l1 k1)(h2:Zr qq s.heap i2 l2 k2)(hl1:IsSq q s.heap l1 xs)(hl2:IsSq qq s.heap l2 ys)(hx:xs[k1]? = none∨ys[k2]? = none)
  (k:∀h' e,(∀c o,c≠z->c≠TO->c≠i1->c≠i2->s.heap.get? c=some o->h'.get? c=some o)->(∃o,h'.get? e=some o/\o.cls=.type "StopIteration")->E (.ref e) { s with heap:=h' }) :
  wpAny (model prog w) A (Builtin.«zip.__next__» ⟨[.ref z],[]⟩) Q E s:=by
 unfold Builtin.«zip.__next__»;refine wpAny_bind (m:=slotArgs "__next__" 0 ⟨[.ref z],[]⟩) (wpAny_of_eq (a:=(Value.ref z,[])) (by rfl) ?_);refine wpAny_bind (m:=field (.ref z) 2) (wpAny_field hz rfl (x:=.bool false) rfl ?_);refine wpAny_bind (m:=field (.ref z) 3) (wpAny_field hz rfl (x:=.ref TI) rfl ?_);refine wpAny_bind (m:=seqItems? (.ref TI)) (wpAny_seqItems hTI rfl ?_);dsimp only;rw[if_neg (by intro z;cases z)];refine wpAny_bind (m:=Builtin.SmallTypes.ownedTupleIsFree (.ref z)) (hfree _ ?_);rw[if_pos rfl];refine wpAny_bind (wpAny_rule ?_);refine wpAny_bind (m:=field (.ref z) 4) (wpAny_field hz rfl (x:=.ref TO) rfl ?_);dsimp only;refine wpAny_bind (wpAny_setField hz rfl (by simp) ?_);obtain⟨TIz,TOz,i1z,i2z,TITO,TIi1,TIi2,TOi1,TOi2,i12,l1z,l1TO,l1i1,l1i2,l2z,l2TO,l2i1,l2i2⟩:=ap;have sA:=Heap.SameBut.update (h:=s.heap) z (Obj.mapFields λ(x:Array Value)=>x.setIfInBounds 0 Value.ellipsis);have zA:ZAg (s.heap.update z (Obj.mapFields λ(x:Array Value)=>x.setIfInBounds 0 Value.ellipsis)) z TI TO .ellipsis f1:=get?_update_self _ hz rfl
 generalize hHA:s.heap.update z (Obj.mapFields λ(x:Array Value)=>x.setIfInBounds 0 Value.ellipsis)=HA at *
 refine wpAny_bind ?_;show wpAny _ _ (forIn [(Value.ref i1,0),(Value.ref i2,1)] _ _) _ _ _;simp only[forIn_cons,forIn_nil];refine wpAny_bind (wpAny_bind (wpAny_onRaise ?_));show wpAny _ _ (Builtin.SmallTypes.nextOf (.ref i1) >>= λv=>pure (some v)) _ _ _;have h1A:Zr q HA i1 l1 k1:=let ⟨o,e,r⟩:=h1;⟨o,(sA.2 i1 i1z).trans e,r⟩
 have h2A:Zr qq HA i2 l2 k2:=let ⟨o,e,r⟩:=h2;⟨o,(sA.2 i2 i2z).trans e,r⟩
 have hl1A:IsSq q HA l1 xs:=let ⟨o,e,r⟩:=hl1;⟨o,(sA.2 l1 l1z).trans e,r⟩
 have hl2A:IsSq qq HA l2 ys:=let ⟨o,e,r⟩:=hl2;⟨o,(sA.2 l2 l2z).trans e,r⟩
 have hTOA:IsPair HA TO a b:=(sA.2 TO TOz).trans hTO;have last:∀(h':Heap) (e:Addr) (g1:Value),ZAg h' z TI TO .ellipsis g1->(∀c o,c≠z->c≠TO->c≠i1->c≠i2->s.heap.get? c=some o->h'.get? c=some o)->(∃o,h'.get? e=some o/\o.cls=.type "StopIteration") ->
   wpAny (model prog w) A (setField (.ref z) 0 Value.none) (λ_ s''=>E (.ref e) s'') E { s with heap:=h' }:=λh' e g1 hz' kp he=>by
  have se:=Heap.SameBut.update (h:=h') z (Obj.mapFields λ(x:Array Value)=>x.setIfInBounds 0 Value.none);refine wpAny_setField hz' rfl (by simp) (k _ e (λc o n1 n2 n3 n4 q=>(se.2 c n1).trans (kp c o n1 n2 n3 n4 q)) ?_);obtain⟨o,ho,hc⟩:=he;have nz:e≠z:=by
   intro q;rw[q,hz'] at ho;cases ho;have hc':Value.type "zip" = Value.type "StopIteration":=hc;exact absurd hc' (by decide)
  exact⟨o,(se.2 e nz).trans ho,hc⟩
 cases hxk:xs[k1]? with
 |none =>
  refine wpAny_bind (ZCQ (s:={ s with heap:=HA }) hh h1A hl1A hxk λh' e eb he=>?_);exact last h' e f1 (eb z _ (Ne.symm i1z) zA) (λc o n1 n2 n3 n4 q=>eb c o n3 ((sA.2 c n1).trans q)) he
 |some x =>
  have hyk:ys[k2]? = none:=by
   rcases hx with q|q
   ·rw[hxk] at q;cases q
   ·exact q
  refine wpAny_bind (ZFY (s:={ s with heap:=HA }) h1A hl1A hxk λHB h1B sB=>wpAny_pure ?_);dsimp only at sB ⊢;have h2B:Zr qq HB i2 l2 k2:=let ⟨o,e,r⟩:=h2A;⟨o,(sB.2 i2 (Ne.symm i12)).trans e,r⟩
  have hl2B:IsSq qq HB l2 ys:=let ⟨o,e,r⟩:=hl2A;⟨o,(sB.2 l2 l2i1).trans e,r⟩
  have hTOB:IsPair HB TO a b:=(sB.2 TO TOi1).trans hTOA;have zB:ZAg HB z TI TO .ellipsis f1:=(sB.2 z (Ne.symm i1z)).trans zA;refine wpAny_bind (m:=seqItems? (.ref TO)) (wpAny_seqItems hTOB rfl ?_);dsimp only;refine wpAny_bind (wpAny_updateSeq hTOB rfl ?_ (by show 2<=sizeLine;decide) (by show 2<=_;decide));have sC:=Heap.SameBut.update (h:=HB) TO (Obj.mapSeq λ(x_2:Array Value)=>x_2.setIfInBounds 0 x)
  generalize HB.update TO (Obj.mapSeq λ(x_2:Array Value)=>x_2.setIfInBounds 0 x)=HC at *
  refine wpAny_bind (wpAny_letGo (wpAny_pure ?_));dsimp only;have h2C:Zr qq HC i2 l2 k2:=let ⟨o,e,r⟩:=h2B;⟨o,(sC.2 i2 (Ne.symm TOi2)).trans e,r⟩
  have hl2C:IsSq qq HC l2 ys:=let ⟨o,e,r⟩:=hl2B;⟨o,(sC.2 l2 l2TO).trans e,r⟩
  have zC:ZAg HC z TI TO .ellipsis f1:=(sC.2 z (Ne.symm TOz)).trans zB;refine wpAny_bind (wpAny_bind (wpAny_onRaise ?_));show wpAny _ _ (Builtin.SmallTypes.nextOf (.ref i2) >>= λv=>pure (some v)) _ _ _;refine wpAny_bind (ZCQ (s:={ s with heap:=HC }) hh h2C hl2C hyk λh' e eb he=>?_);exact last h' e f1 (eb z _ (Ne.symm i2z) zC) (λc o n1 n2 n3 n4 q=>eb c o n4 ((sC.2 c n2).trans ((sB.2 c n3).trans ((sA.2 c n1).trans q)))) he
theorem ZNw{z TI TO i1 i2 l1 l2:Addr}{k1 k2 T:Nat}{o:Obj}{xs ys:Array Value}{f1:Value}{Q:PySem.Fin->Shared->Prop}(hh:A.handled=none)(ap:ZipApart z TI TO i1 i2 l1 l2)(hz:ZAg s.heap z TI TO (rawInt (T:Int)) f1)(hT:s.heap.get? T=some o)(hTI:IsPair s.heap TI (.ref i1) (.ref i2))
  (h1:Zr q s.heap i1 l1 k1)(h2:Zr qq s.heap i2 l2 k2)(hl1:IsSq q s.heap l1 xs)(hl2:IsSq qq s.heap l2 ys)(hx:xs[k1]? = none∨ys[k2]? = none)
  (k:∀h' e,(∀c o,c≠z->c≠TO->c≠i1->c≠i2->s.heap.get? c=some o->h'.get? c=some o)->(∃o,h'.get? e=some o/\o.cls=.type "StopIteration")->E (.ref e) { s with heap:=h' }) :
  wpAny (model prog w) A (Builtin.«zip.__next__» ⟨[.ref z],[]⟩) Q E s:=by
 unfold Builtin.«zip.__next__»;refine wpAny_bind (m:=slotArgs "__next__" 0 ⟨[.ref z],[]⟩) (wpAny_of_eq (a:=(Value.ref z,[])) (by rfl) ?_);refine wpAny_bind (m:=field (.ref z) 2) (wpAny_field hz rfl (x:=.bool false) rfl ?_);refine wpAny_bind (m:=field (.ref z) 3) (wpAny_field hz rfl (x:=.ref TI) rfl ?_);refine wpAny_bind (m:=seqItems? (.ref TI)) (wpAny_seqItems hTI rfl ?_);dsimp only;rw[if_neg (by intro z;cases z)];obtain⟨TIz,TOz,i1z,i2z,TITO,TIi1,TIi2,TOi1,TOi2,i12,l1z,l1TO,l1i1,l1i2,l2z,l2TO,l2i1,l2i2⟩:=ap;refine wpAny_bind (m:=Builtin.SmallTypes.ownedTupleIsFree (.ref z)) (ZSJ hz hT λHA f1' zA sA=>?_);rw[if_neg (by intro z;cases z)];have h1A:Zr q HA i1 l1 k1:=let ⟨o,e,r⟩:=h1;⟨o,(sA.2 i1 i1z).trans e,r⟩
 have h2A:Zr qq HA i2 l2 k2:=let ⟨o,e,r⟩:=h2;⟨o,(sA.2 i2 i2z).trans e,r⟩
 have hl1A:IsSq q HA l1 xs:=let ⟨o,e,r⟩:=hl1;⟨o,(sA.2 l1 l1z).trans e,r⟩
 have hl2A:IsSq qq HA l2 ys:=let ⟨o,e,r⟩:=hl2;⟨o,(sA.2 l2 l2z).trans e,r⟩
 refine wpAny_bind ?_;rw[←Array.forIn_toList];show wpAny _ _ (forIn [Value.ref i1,Value.ref i2] _ _) _ _ _;simp only[forIn_cons,forIn_nil];refine wpAny_bind (wpAny_bind (wpAny_holding ?_));show wpAny _ _ (Builtin.SmallTypes.nextOf (.ref i1) >>= λv=>pure (some v)) _ _ _;cases hxk:xs[k1]? with
 |none =>
  refine wpAny_bind (ZCQ (s:={ s with heap:=HA }) hh h1A hl1A hxk λh' e eb he=>?_);exact k h' e (λc o n1 n2 n3 n4 q=>eb c o n3 ((sA.2 c n1).trans q)) he
 |some x =>
  have hyk:ys[k2]? = none:=by
   rcases hx with q|q
   ·rw[hxk] at q;cases q
   ·exact q
  refine wpAny_bind (ZFY (s:={ s with heap:=HA }) h1A hl1A hxk λHB h1B sB=>wpAny_pure ?_);dsimp only at sB ⊢;have h2B:Zr qq HB i2 l2 k2:=let ⟨o,e,r⟩:=h2A;⟨o,(sB.2 i2 (Ne.symm i12)).trans e,r⟩
  have hl2B:IsSq qq HB l2 ys:=let ⟨o,e,r⟩:=hl2A;⟨o,(sB.2 l2 l2i1).trans e,r⟩
  refine wpAny_pure (wpAny_bind (wpAny_bind (wpAny_holding ?_)));show wpAny _ _ (Builtin.SmallTypes.nextOf (.ref i2) >>= λv=>pure (some v)) _ _ _;refine wpAny_bind (ZCQ (s:={ s with heap:=HB }) hh h2B hl2B hyk λh' e eb he=>?_);exact k h' e (λc o n1 n2 n3 n4 q=>eb c o n4 ((sB.2 c n3).trans ((sA.2 c n1).trans q))) he
structure ZipS (q qq:Bool) (h:Heap) (z TI TO i1 i2 l1 l2:Addr) (i:Nat):Prop where
 zo:∃f0 f1,ZAg h z TI TO f0 f1/\(f0=.none∨∃T:Nat,f0=rawInt (T:Int))
 ti:IsPair h TI (.ref i1) (.ref i2)
 to:∃a b,IsPair h TO a b
 it1:Zr q h i1 l1 i
 it2:Zr qq h i2 l2 i
theorem nextZip{z TI TO i1 i2 l1 l2:Addr}{i:Nat}{xs ys:Array Value}{x y:Value}{Q:Option Value->Shared->Prop}(ap:ZipApart z TI TO i1 i2 l1 l2)(S:ZipS q qq s.heap z TI TO i1 i2 l1 l2 i)(hl1:IsSq q s.heap l1 xs)(hl2:IsSq qq s.heap l2 ys)(hx:xs[i]? = some x)(hy:ys[i]? = some y)
  (k:∀h',ZipS q qq h' z TI TO i1 i2 l1 l2 (i+1)->IsPair h' s.heap.objs.size x y->h'.objs.size=s.heap.objs.size+1->(∀c o,c≠z->c≠TO->c≠i1->c≠i2->s.heap.get? c=some o->h'.get? c=some o)->Q (some (.ref s.heap.objs.size)) { s with heap:=h' }) :
  wpAny (model prog w) A (pyNext (.ref z)) Q E s:=by
 obtain⟨⟨f0,f1,hz,hf⟩,hti,⟨a,b,hto⟩,h1,h2⟩:=S;have ty:s.TypeIs (.ref z) "zip":=⟨_,hz,rfl⟩;unfold pyNext;refine wpAny_bind (wpAny_attempt ?_);refine wpAny_callSpecial?_slot (name:=Str.ofString "__next__") ty F.slot_zip_next (wpAny_call_entry F.slot_zip_next ty F.entry_zip_next ?_ (F.args_zip_next_1 _));have own:∀(E':Value->Shared->Prop) (A':Around),(∀Q:Bool->Shared->Prop,Q true s->wpAny (model prog w) A' (Builtin.SmallTypes.ownedTupleIsFree (.ref z)) Q E' s)->wpAny (model prog w) A' (Builtin.«zip.__next__» ⟨[.ref z],[]⟩) (λfin s'=>∃v,fin=.done (.ret v)/\wpAny (model prog w) A (pure (some v)) Q E s') E' s:=λE' A' fr=>by
  refine ZLT ap hz fr hti hto h1 h2 hl1 hl2 hx hy λh' z' to' t1 t2 pr sz kp=>wpAny_pure (k h' ⟨⟨_,_,z',.inr ⟨_,rfl⟩⟩,kp _ _ ap.TIz ap.TITO ap.TIi1 ap.TIi2 hti,⟨_,_,to'⟩,t1,t2⟩ pr sz kp)
 rcases hf with rfl|⟨T,rfl⟩
 ·exact own _ _ λQ q=>ZFx hz Q q
 ·cases hT:s.heap.get? T with
  |none=>exact own _ _ λQ q=>ZF1 hz hT Q q
  |some o =>
   refine ZNN ap hz hT hti h1 h2 hl1 hl2 hx hy λh' f1' z' t1 t2 pr sz kp=>wpAny_pure (k h' ⟨⟨_,_,z',.inr ⟨_,rfl⟩⟩,kp _ _ ap.TIz ap.TIi1 ap.TIi2 hti,⟨a,b,kp _ _ ap.TOz ap.TOi1 ap.TOi2 hto⟩,t1,t2⟩ pr sz λc o n1 n2 n3 n4 q=>kp c o n1 n3 n4 q)
theorem endZip{z TI TO i1 i2 l1 l2:Addr}{i:Nat}{xs ys:Array Value}{Q:Option Value->Shared->Prop}(hh:A.handled=none)(ap:ZipApart z TI TO i1 i2 l1 l2)(S:ZipS q qq s.heap z TI TO i1 i2 l1 l2 i)(hl1:IsSq q s.heap l1 xs)(hl2:IsSq qq s.heap l2 ys)(hx:xs[i]? = none∨ys[i]? = none)
  (k:∀h',(∀c o,c≠z->c≠TO->c≠i1->c≠i2->s.heap.get? c=some o->h'.get? c=some o)->Q none { s with heap:=h' }) :
  wpAny (model prog w) A (pyNext (.ref z)) Q E s:=by
 obtain⟨⟨f0,f1,hz,hf⟩,hti,⟨a,b,hto⟩,h1,h2⟩:=S;have ty:s.TypeIs (.ref z) "zip":=⟨_,hz,rfl⟩;unfold pyNext;refine wpAny_bind (wpAny_attempt ?_);refine wpAny_callSpecial?_slot (name:=Str.ofString "__next__") ty F.slot_zip_next (wpAny_call_entry F.slot_zip_next ty F.entry_zip_next ?_ (F.args_zip_next_1 _));have stop:∀(h':Heap) (e:Addr),(∀c o,c≠z->c≠TO->c≠i1->c≠i2->s.heap.get? c=some o->h'.get? c=some o)->(∃o,h'.get? e=some o/\o.cls=.type "StopIteration") ->
   wpAny (model prog w) A (isInstance (.ref e) (.type "StopIteration") >>= λd=>if d=true then pure none else throw (.ref e)) Q E { s with heap:=h' }:=λh' e kp he=>by
  obtain⟨o,ho,hc⟩:=he;refine wpAny_bind (wpAny_isInstance (T:="StopIteration") (b:=true) ⟨o,ho,hc⟩ rfl ?_);rw[if_pos rfl];exact wpAny_pure (k h' kp)
 rcases hf with rfl|⟨T,rfl⟩
 ·exact ZI5 hh ap hz (λQ q=>ZFx hz Q q) hti hto h1 h2 hl1 hl2 hx stop
 ·cases hT:s.heap.get? T with
  |none=>exact ZI5 hh ap hz (λQ q=>ZF1 hz hT Q q) hti hto h1 h2 hl1 hl2 hx stop
  |some o=>exact ZNw hh ap hz hT hti h1 h2 hl1 hl2 hx stop
theorem letGoZip{tg:Expr}{z TI TO i1 i2 l1 l2 a:Addr}{i:Nat}{Q:Unit->Shared->Prop}(ap:ZipApart z TI TO i1 i2 l1 l2)(S:ZipS q qq s.heap z TI TO i1 i2 l1 l2 i)(k:∀h',ZipS q qq h' z TI TO i1 i2 l1 l2 i->Heap.SameBut z s.heap h'->Q () { s with heap:=h' }) :
    wpAny (model prog w) A (letOwnedTupleGo tg (.ref z) (.ref a)) Q E s:=by
  have S':=S;obtain ⟨⟨f0,f1,hz,hf⟩,hti,⟨b,c,hto⟩,h1,h2⟩:=S';have way:wpAny (model prog w) A (load z >>= λ o=>match o.cls,o.data with
        |Value.type n,Data.fields vs=>if (["enumerate","zip","dict_itemiterator","dict_reverseitemiterator","odict_iterator","itertools.zip_longest","itertools.pairwise"].contains n && vs[0]? == some (rawInt (a:Int)))=true then do
            rule "for.unpacks-the-owned-tuple"
            updateField z 0 Value.none
          else pure ()
        |_,_=>pure ()) Q E s:=by
    refine wpAny_bind (wpAny_load hz ?_);dsimp only
    split
    · refine wpAny_bind (wpAny_rule ?_)
      have sA:=Heap.SameBut.update (h:=s.heap) z (Obj.mapFields λ(x:Array Value)=>x.setIfInBounds 0 Value.none);have zA:ZAg (s.heap.update z (Obj.mapFields λ(x:Array Value)=>x.setIfInBounds 0 Value.none)) z TI TO .none f1:=get?_update_self _ hz rfl;show wpAny _ _ (setField (.ref z) 0 Value.none) _ _ _;refine wpAny_setField hz rfl (by simp) (k _ ⟨⟨_,_,zA,.inl rfl⟩,(sA.2 _ ap.TIz).trans hti,⟨b,c,(sA.2 _ ap.TOz).trans hto⟩,?_,?_⟩ sA)
      · obtain⟨o,e,r⟩:=h1
        exact⟨o,(sA.2 _ ap.i1z).trans e,r⟩
      · obtain⟨o,e,r⟩:=h2
        exact⟨o,(sA.2 _ ap.i2z).trans e,r⟩
    · exact wpAny_pure (k _ S (Heap.SameBut.refl ..))
  cases tg with
  |Tuple=>exact way
  |List=>exact way
  |_=>exact wpAny_pure (k _ S (Heap.SameBut.refl ..))
theorem apart_new(n a b:Nat)(ha:a<n)(hb:b<n):ZipApart (n+4) (n+2) (n+3) n (n+1) a b:=by
 constructor <;> (intro q;have q':(_:Nat)=_:=q;omega)
theorem iterZip{z TI TO:Addr}{f0 f1:Value}{Q:Value->Shared->Prop}(hz:ZAg s.heap z TI TO f0 f1)(q:Q (.ref z) s):wpAny (model prog w) A (pyIter (.ref z)) Q E s:=by
 have ty:s.TypeIs (.ref z) "zip":=⟨_,hz,rfl⟩;refine wpAny_pyIter_slot ty F.slot_zip_iter (wpAny_call_entry F.slot_zip_iter ty F.entry_zip_iter ?_ (F.args_zip_iter_1 _));unfold Builtin.«dict_keyiterator.__iter__»;refine wpAny_bind (m:=slotArgs "__iter__" 0 ⟨[.ref z],[]⟩) (wpAny_of_eq (a:=(Value.ref z,[])) (by rfl) ?_);exact wpAny_pure ⟨_,rfl,"zip",_,ty,F.slot_zip_next.lookup,q⟩
noncomputable abbrev zT1(q:Bool)(h:Heap)(l1:Addr):Heap:=h.push { cls:=.type (nm q),data:=.fields #[.ref l1,.int 0 0] }
noncomputable abbrev zT2(q qq:Bool)(h:Heap)(l1 l2:Addr):Heap:=(zT1 q h l1).push { cls:=.type (nm qq),data:=.fields #[.ref l2,.int 0 0] }
noncomputable abbrev zT3(q qq:Bool)(h:Heap)(l1 l2:Addr):Heap:=(zT2 q qq h l1 l2).push { cls:=.type "tuple",data:=.seq #[.ref h.objs.size,.ref (zT1 q h l1).objs.size] }
noncomputable abbrev zT4(q qq:Bool)(h:Heap)(l1 l2:Addr):Heap:=(zT3 q qq h l1 l2).push { cls:=.type "tuple",data:=.seq #[.none,.none] }
noncomputable abbrev zT5(q qq:Bool)(h:Heap)(l1 l2:Addr):Heap:=(zT4 q qq h l1 l2).push { cls:=.type "zip",data:=.fields #[.none,.bool false,.bool false,.ref (zT2 q qq h l1 l2).objs.size,.ref (zT3 q qq h l1 l2).objs.size] }
theorem ZOM(q qq:Bool)(l1 l2:Addr)(xs ys:Array Value) :
  Meets (Builtin.«zip.__new__» ⟨[.type "zip",.ref l1,.ref l2],[]⟩) (λ_ R s=>IsSq q s.heap l1 xs/\IsSq qq s.heap l2 ys/\R (.ok (.ret (.ref (zT4 q qq s.heap l1 l2).objs.size))) { s with heap:=zT5 q qq s.heap l1 l2 }) :=
 .of_wp λprog w A R s h=>by
  obtain⟨hp,g,d,tk,os⟩:=s;obtain⟨hl1,hl2,h⟩:=h;have hsub:=sub_zip;have hT2:IsSq qq (zT1 q hp l1) l2 ys:=let ⟨o,e,r⟩:=hl2;⟨o,get?_push_of_some _ e,r⟩
  wp_walk using itG hl1,itG (s:=⟨zT1 q hp l1,g,d,tk,os⟩) hT2
  exact⟨_,rfl,h⟩
theorem callZipT{l1 l2:Addr}{xs ys:Array Value}{Q:Value->Shared->Prop}(hL1:IsSq q s.heap l1 xs)(hL2:IsSq qq s.heap l2 ys)
  (k:∀h',ZipS q qq h' (s.heap.objs.size+4) (s.heap.objs.size+2) (s.heap.objs.size+3) s.heap.objs.size (s.heap.objs.size+1) l1 l2 0->h'.objs.size=s.heap.objs.size+5->(∀c o,s.heap.get? c=some o->h'.get? c=some o)->Q (.ref (s.heap.objs.size+4)) { s with heap:=h' }) :
  wpAny (model prog w) A (call (.type "zip") [.ref l1,.ref l2]) Q E s:=by
 refine callType_new F.called_zip (by decide) (F.typeCall_zip_2 _ _) (F.newCall_zip_2 _ _) (λobj=>F.args_object_init_3 obj _ _) F.entry_zip_new (ZOM q qq l1 l2 xs ys) ⟨hL1,hL2,?_⟩;have z1:(zT1 q s.heap l1).objs.size=s.heap.objs.size+1:=size_push ..;have z2:(zT2 q qq s.heap l1 l2).objs.size=s.heap.objs.size+2:=by rw[size_push,z1]
 have z3:(zT3 q qq s.heap l1 l2).objs.size=s.heap.objs.size+3:=by rw[size_push,z2]
 have z4:(zT4 q qq s.heap l1 l2).objs.size=s.heap.objs.size+4:=by rw[size_push,z3]
 have e1:(zT1 q s.heap l1).get? s.heap.objs.size=some { cls:=.type (nm q),data:=.fields #[.ref l1,.int 0 0] }:=get?_push_size _ rfl;have e2:(zT2 q qq s.heap l1 l2).get? (s.heap.objs.size+1)=some { cls:=.type (nm qq),data:=.fields #[.ref l2,.int 0 0] }:=by rw[←z1];exact get?_push_size _ rfl
 have e3:(zT3 q qq s.heap l1 l2).get? (s.heap.objs.size+2)=some { cls:=.type "tuple",data:=.seq #[.ref s.heap.objs.size,.ref (zT1 q s.heap l1).objs.size] }:=by rw[←z2];exact get?_push_size _ rfl
 have e4:(zT4 q qq s.heap l1 l2).get? (s.heap.objs.size+3)=some { cls:=.type "tuple",data:=.seq #[.none,.none] }:=by rw[←z3];exact get?_push_size _ rfl
 have e5:(zT5 q qq s.heap l1 l2).get? (s.heap.objs.size+4)=some { cls:=.type "zip",data:=.fields #[.none,.bool false,.bool false,.ref (zT2 q qq s.heap l1 l2).objs.size,.ref (zT3 q qq s.heap l1 l2).objs.size] }:=by rw[←z4];exact get?_push_size _ rfl
 rw[z2,z3] at e5;rw[z1] at e3;have up:∀{h:Heap} {o u:Obj} {c:Addr},h.get? c=some u->(h.push o).get? c=some u:=λq=>get?_push_of_some _ q
 show _/\_;rw[z4];refine⟨⟨_,e5,rfl⟩,k _ ⟨⟨_,_,e5,.inl rfl⟩,up (up e3),⟨_,_,up e4⟩,⟨_,up (up (up (up e1))),rfl,rfl⟩,⟨_,up (up (up e2)),rfl,rfl⟩⟩ (by rw[size_push,z4]) λc o q=>up (up (up (up (up q))))⟩
end
end HI
namespace L2
open PySem PySem.Spec PyProof.Rows
noncomputable def ZLe(q qq:Bool)(K:PySem.W.Frag)(a b:Addr):It :=
 ⟨λi H=>∃xs ys x y,SqG q K H a xs/\SqG qq K H b ys/\xs[i]? = some x/\ys[i]? = some y,λi H v H'=>∃p x y,v=.ref p/\H p=none/\H'=upd H p (.tup [x,y])/\∀xs ys,SqG q K H a xs->SqG qq K H b ys->xs[i]? = some x/\ys[i]? = some y,
  λi H=>∃xs ys,SqG q K H a xs/\SqG qq K H b ys/\(xs.length<=i∨ys.length<=i)⟩
theorem ZM9{q qq:Bool}{P:Program}{w:World}{K:PySem.W.Frag}{tg:Expr}(a b z TI TO i1 i2:Addr)(ap:ZipApart z TI TO i1 i2 a b) :
  Turn P w K tg (ZLe q qq K a b) [z,TI,TO,i1,i2] z (λi h=>HI.ZipS q qq h z TI TO i1 i2 a b i) where
 mem:=by simp
 obj:=λi h st c hc=>by
  obtain⟨⟨f0,f1,hz,_⟩,hti,⟨u,v,hto⟩,⟨o1,e1,c1,d1⟩,⟨o2,e2,c2,d2⟩⟩:=st;simp only[mem_cons,not_mem_nil,or_false] at hc;rcases hc with rfl|rfl|rfl|rfl|rfl
  ·exact⟨_,hz,λv q=>by cases q⟩
  ·exact⟨_,hti,λv q=>by cases q⟩
  ·exact⟨_,hto,λv q=>by cases q⟩
  ·exact⟨_,e1,λv q=>by rw[d1] at q;cases q⟩
  ·exact⟨_,e2,λv q=>by rw[d2] at q;cases q⟩
 keep:=λi h h' st kk=>by
  obtain⟨⟨f0,f1,hz,hf⟩,hti,⟨u,v,hto⟩,⟨o1,e1,r1⟩,⟨o2,e2,r2⟩⟩:=st;exact⟨⟨f0,f1,kk z (by simp) _ hz,hf⟩,kk TI (by simp) _ hti,⟨u,v,kk TO (by simp) _ hto⟩,⟨o1,kk i1 (by simp) _ e1,r1⟩,⟨o2,kk i2 (by simp) _ e2,r2⟩⟩
 item:=by
  intro X hP hw hK hc i pins s σ H E I hf st hg;subst hP hw hK;obtain⟨xs,ys,x,y,hq,hq2,hx,hy⟩:=hg;obtain⟨its,rv,p,hz⟩:=I.sq hq;obtain⟨its2,rv2,p2,hz2⟩:=I.sq hq2;obtain⟨u,hu,ru⟩:=rv.get hx;obtain⟨u2,hu2,ru2⟩:=rv2.get hy;refine HI.nextZip (xs:=its.toArray) (ys:=its2.toArray) ap st p p2 (by simpa using hu) (by simpa using hu2) λh' S' pr sz kp=>?_
  refine⟨_,rfl,HI.letGoZip ap S' λh2 S2 sb=>?_⟩;have nT:H s.heap.objs.size=none:=I.hok.fresh (le_refl _);have zlt:z<s.heap.objs.size:=by obtain⟨⟨f0,f1,q,_⟩,_⟩:=st;exact lt_size q
  have kk:∀c o,c∉[z,TI,TO,i1,i2]->s.heap.get? c=some o->h2.get? c=some o:=λc o hn q=>by
   simp only[mem_cons,not_mem_nil,or_false,not_or] at hn;exact(sb.2 c hn.1).trans (kp c o hn.1 hn.2.2.1 hn.2.2.2.1 hn.2.2.2.2 q)
  have nit:∀c v,H c=some v->c∉[z,TI,TO,i1,i2]:=λc v q hm=>by
   have:=(hf c hm).1;rw[this] at q;cases q
  have hT2:h2.get? s.heap.objs.size=some { cls:=.type "tuple",data:=.seq #[u,u2] }:=(sb.2 _ (ne_of_gt zlt)).trans pr;have ne1:∀c v,H c=some v->c≠s.heap.objs.size:=λc v q=>ZG q nT
  have hok:HOk X.prog X.w (upd H s.heap.objs.size (.tup [x,y])) h2:=λc ob q=>by
   by_cases hb:c=s.heap.objs.size
   ·subst hb
    rw[ZC] at q;cases q;exact⟨by show 2<=sizeLine;decide,[u,u2],.cons ru (.cons ru2 .nil),⟨_,hT2,rfl,_,rfl⟩⟩
   ·rw[ZD hb] at q
    refine(I.hok c ob q).stay (λd v hd r=>?_) (λd r=>by rw[ZD (ne1 _ _ r)];exact r) λd ys r=>by rw[ZD (ne1 _ _ r)];exact r
    have nc:d∉[z,TI,TO,i1,i2]:=by
     rcases hd with e|e
     ·rw[e];exact nit c ob q
     ·exact nit d _ e
    exact kk d v nc r
  have I2:Inv X pins σ (upd H s.heap.objs.size (.tup [x,y])) { s with heap:=h2 }:=by
   refine I.step (g':=s.gens) (d':=s.drawn) (t':=s.toks) (ch:=[z,TI,TO,i1,i2]) (λc hc'=>?_) (λc o _ _ hc' q _=>kk c o hc' q) (λc o _ _ hc' q _=>⟨o.slots,kk c o hc' q⟩)
    (λc o _ q n=>by rw[ZD (ne_of_lt (lt_size q))];exact n) (λc o hc' q=>⟨o,kk c o hc' q⟩) (λc ys q=>by rw[ZD (ne1 _ _ q)];exact q) (λc o u q=>by rw[ZD (ne1 _ _ q)];exact q)
    (λc ps q=>⟨#[],by rw[ZD (ne1 _ _ q),q];simp⟩) (λm hm=>?_) hok I.bare
   ·obtain⟨f0,f1,f2,f3,f4,f5⟩:=hf c hc'
    exact⟨f3,f1,f4,f5⟩
   ·obtain⟨o,es',ep,ho',r⟩:=hm
    refine⟨o,es',ep,kk _ o (λhm'=>?_) ho',r⟩;exact(hf _ hm').2.1 rfl
  refine⟨.ref s.heap.objs.size,_,I2,rfl,⟨_,x,y,rfl,nT,rfl,λzs ws hz' hw'=>by rw[I.sq_inj hz' hq,I.sq_inj hw' hq2];exact⟨hx,hy⟩⟩,S2,λc hc'=>?_⟩;have h0:=(hf c hc').1;have hlt:c<s.heap.objs.size:=by
   obtain⟨⟨f0,f1,q,_⟩,hti,⟨_,_,hto⟩,⟨o1,e1,_⟩,⟨o2,e2,_⟩⟩:=st;simp only[mem_cons,not_mem_nil,or_false] at hc';rcases hc' with rfl|rfl|rfl|rfl|rfl
   ·exact lt_size q
   ·exact lt_size hti
   ·exact lt_size hto
   ·exact lt_size e1
   ·exact lt_size e2
  rw[ZD (ne_of_lt hlt)];exact h0
 done:=by
  intro X hP hw hK hc i pins s σ H E I hf st hg;subst hP hw hK;obtain ⟨xs,ys,hq,hq2,hx⟩:=hg;obtain ⟨its,rv,p,hz⟩:=I.sq hq;obtain ⟨its2,rv2,p2,hz2⟩:=I.sq hq2;have l1:=rv.length;have l2:=rv2.length;refine HI.endZip (xs:=its.toArray) (ys:=its2.toArray) (I.ok.hd hc) ap st p p2 (by
   rcases hx with q|q
   ·exact .inl (by simp;omega)
   ·exact .inr (by simp;omega)) λh' kp=>⟨rfl,?_⟩
  refine I.step (g':=s.gens) (d':=s.drawn) (t':=s.toks) (ch:=[z,TI,TO,i1,i2]) (H':=H) (λc hc'=>?_) (λc o _ _ hc' q _=>?_) (λc o _ _ hc' q _=>?_) (λc o _ q n=>n) (λc o hc' q=>?_) (λc ys q=>q) (λc o u q=>q) (λc ps q=>⟨#[],by rw[q];simp⟩) (λm hm=>?_) (λc ob q=>?_) I.bare
  ·obtain⟨f0,f1,f2,f3,f4,f5⟩:=hf c hc'
   exact⟨f3,f1,f4,f5⟩
  ·simp only[mem_cons,not_mem_nil,or_false,not_or] at hc'
   exact kp c o hc'.1 hc'.2.2.1 hc'.2.2.2.1 hc'.2.2.2.2 q
  ·simp only[mem_cons,not_mem_nil,or_false,not_or] at hc'
   exact⟨o.slots,kp c o hc'.1 hc'.2.2.1 hc'.2.2.2.1 hc'.2.2.2.2 q⟩
  ·simp only[mem_cons,not_mem_nil,or_false,not_or] at hc'
   exact⟨o,kp c o hc'.1 hc'.2.2.1 hc'.2.2.2.1 hc'.2.2.2.2 q⟩
  ·obtain⟨o,es',ep,ho',r⟩:=hm
   have nl:∀c∈[z,TI,TO,i1,i2],X.env.locals≠c:=λc hc' e=>(hf c hc').2.1 e.symm
   exact⟨o,es',ep,kp _ o (nl z (by simp)) (nl TO (by simp)) (nl i1 (by simp)) (nl i2 (by simp)) ho',r⟩
  ·refine(I.hok c ob q).stay (λd v hd r=>?_) (λd r=>r) λd ys r=>r
   have nd:∀e,H d=some e->∀c∈[z,TI,TO,i1,i2],d≠c:=λe q' c hc' e'=>by
    have:=(hf c hc').1;rw[←e',q'] at this
    cases this
   have hd':∃e,H d=some e:=by
    rcases hd with e|e
    ·rw[e];exact⟨_,q⟩
    ·exact⟨_,e⟩
   obtain⟨e,he⟩:=hd';exact kp d v (nd e he z (by simp)) (nd e he TO (by simp)) (nd e he i1 (by simp)) (nd e he i2 (by simp)) r
 self:=λ_ _ _ _ _ st h=>by
  obtain⟨⟨f0,f1,hz,_⟩,_⟩:=st;exact HI.iterZip hz h
section
variable{X:Cx}
noncomputable def iZipG(q qq:Bool)(K:PySem.W.Frag)(ta:TA):TI:=λσ H R=>ta σ H λvs H1=>∃a b,vs=[.ref a,.ref b]/\(∃xs ys,SqG q K H1 a xs/\SqG qq K H1 b ys)/\R (ZLe q qq K a b) H1
theorem ZQ7{q qq:Bool}{tg a b:Expr}{ta:TA}{p pos:Pos}(hg:Gl X "zip")(hm:X.mg "zip" = none)(ha:PA X [a,b] ta)(hs:starEach [a,b] X.env=[(false,eval a X.env),(false,eval b X.env)]:=by rfl)(hs2:starEach [b] X.env=[(false,eval b X.env)]:=by rfl) :
  PI X tg (.Call (.Name "zip" p) [a,b] [] pos) (iZipG q qq X.K ta):=by
 intro pins s σ H R I h;refine Call_ (ZAv I hg hm boot_zip (PyProof.Rows.callWith_type1 (thn (ha pos pins s σ H _ I h) λus s1 ⟨vs,H1,I1,r1,q1⟩=>?_) (by rw[hs,hs2]) (by rw[hs2];rfl)));obtain⟨l1,l2,e,⟨xs,ys,hq1,hq2⟩,q⟩:=q1;subst e;cases r1 with
 |cons r rr =>
  cases rr with
  |cons r' rr =>
   cases rr;cases r;cases r';obtain⟨its,rv,pt,hz⟩:=I1.sq hq1;obtain⟨its2,rv2,pt2,hz2⟩:=I1.sq hq2;have lt1:l1<s1.heap.objs.size:=by obtain⟨o,e,_⟩:=pt;exact lt_size e
   have lt2:l2<s1.heap.objs.size:=by obtain⟨o,e,_⟩:=pt2;exact lt_size e
   refine HI.callZipT (show HI.IsSq _ s1.heap l1 its.toArray from pt) (show HI.IsSq _ s1.heap l2 its2.toArray from pt2) λh' S' hsz hk=>?_
   have I2:Inv X pins σ H1 { s1 with heap:=h' }:=I1.kept (t':=s1.toks) hk;obtain⟨f0,f1,zo,hf⟩:=S'.zo;have ap:ZipApart (s1.heap.objs.size+4) (s1.heap.objs.size+2) (s1.heap.objs.size+3) s1.heap.objs.size (s1.heap.objs.size+1) l1 l2:=HI.apart_new _ _ _ lt1 lt2;refine HI.iterZip zo ⟨s1.heap.objs.size+4,[s1.heap.objs.size+4,s1.heap.objs.size+2,s1.heap.objs.size+3,s1.heap.objs.size,s1.heap.objs.size+1],_,_,H1,rfl,I2,ZM9 l1 l2 _ _ _ _ _ ap,S',λb hb=>?_,q⟩;have hb':s1.heap.objs.size<=b:=by
    simp only[mem_cons,not_mem_nil,or_false] at hb;rcases hb with rfl|rfl|rfl|rfl|rfl
    ·exact le_add_right _ _
    ·exact le_add_right _ _
    ·exact le_add_right _ _
    ·exact le_refl _
    ·exact le_add_right _ _
   exact I1.fpOk hb' (I1.hok.fresh hb')
end
noncomputable abbrev Itz:=ZLe true true
noncomputable abbrev Itzl:=ZLe false false
section
variable{X:Cx}{pos:Pos}
noncomputable def ZPm(i j l:Nat)(ta:TA):TS:=λD σ H=>ta σ H λvs H1=>∃v w z,vs=[v,w,z]/\D.nx (((σ.set l (some z)).set j (some w)).set i (some v)) H1
theorem ZOr{i j l:Nat}{x y z:Str}{a b c:Expr}{ta:TA}{px py pz pt:Pos}{kt k2 pt2}(hc:X.calm=true)(hN:X.N.Nodup)(hi:X.N[i]? = some x)(hj:X.N[j]? = some y)(hl:X.N[l]? = some z)
  (hx:X.env.scope.names.lookup x=some .local)(hy:X.env.scope.names.lookup y=some .local)(hz:X.env.scope.names.lookup z=some .local)(ha:PA X [a,b,c] ta)
  (hw:swappedStores [.Tuple [.Name x px,.Name y py,.Name z pz] kt pt] (.Tuple [a,b,c] k2 pt2) X.env=pure (some [x,y,z]):=by rfl)
  (hs:swapsWithSole [.Tuple [.Name x px,.Name y py,.Name z pz] kt pt] (.Tuple [a,b,c] k2 pt2) pos.line X.env=pure false:=by rfl) :
  PS X (.Assign [.Tuple [.Name x px,.Name y py,.Name z pz] kt pt] (.Tuple [a,b,c] k2 pt2) pos) (ZPm i j l ta):=by
 intro pins s σ H D I h;rw[exec_Assign_arm];refine wpAny_bind (wpAny_standAt ?_);rw[hs];refine wpAny_bind (wpAny_pure ?_);rw[if_neg (by decide)];refine wpAny_bind (Tuple_ (thn (ha _ pins s σ H _ I h) λus s1 ⟨vs,H1,I1,r1,q1⟩=>?_));obtain⟨v,w,v3,e1,q1⟩:=q1;subst e1;obtain⟨u1,u2,u3,rfl,rv,rw',rz⟩:∃u1 u2 u3,us=[u1,u2,u3]/\ZU v u1/\ZU w u2/\ZU v3 u3:=by
  cases r1 with
  |cons p q =>
   cases q with
   |cons p' q' =>
    cases q' with
    |cons p2 q2 =>
     cases q2;exact⟨_,_,_,rfl,p,p',p2⟩
 refine wpAny_newObj_type ?_ (by show 3<=sizeLine;decide);have I2:Inv X pins σ H1 { s1 with heap:=s1.heap.push { cls:=.type "tuple",data:=.seq [u1,u2,u3].toArray } }:=I1.kept (t':=s1.toks) λb o e=>get?_push_of_some _ e
 rw[hw];refine wpAny_bind (wpAny_pure ?_);show wpAny (model X.prog X.w) X.A (do rule "assign.swapped-stores";let items ←unpackItems (.ref s1.heap.objs.size) 3 none;assignInOrder [λv=>bindName X.env z v,λv=>bindName X.env y v,λv=>bindName X.env x v] items.reverse;pure Flow.next) _ _ _;refine wpAny_bind (wpAny_rule (wpAny_bind (unpackItems_tuple (items:=#[u1,u2,u3]) (I.ok.hd hc) (IsTup.new s1.heap _) λh' hx'=>?_)));have I3:=I2.kept (h':=h') (t':=s1.toks) λb o e=>hx' b o (ne_of_lt (lt_size e)) e
 show wpAny _ _ (assignInOrder [λv=>bindName X.env z v,λv=>bindName X.env y v,λv=>bindName X.env x v] [u3,u2,u1] >>= λ_=>pure Flow.next) _ _ _;refine wpAny_bind (assignInOrder_cons (wpAny_bindName (Z8 I3 hN hl (.inl hz) rz (λs2 I4=>?_) (.inr hz))));refine assignInOrder_cons (wpAny_bindName (Z8 I4 hN hj (.inl hy) rw' (λs3 I5=>?_) (.inr hy)));refine assignInOrder_cons (wpAny_bindName (Z8 I5 hN hi (.inl hx) rv (λs4 I6=>assignInOrder_nil (wpAny_pure ?_)) (.inr hx)));exact⟨_,H1,I6,q1⟩
end
end L2
namespace HT
open PySem PyProof.Rows
section
variable{prog:Program}{w:World}{A:Around}{E:Value->Shared->Prop}{s:Shared}
theorem getItem_tuple_whole{t sl:Addr}{items:Array Value}{vl vu:Value}{lo hi:Option Int}{Q:Value->Shared->Prop}(ht:IsTup s.heap t items)(hs:s.heap.IsSliceOf sl vl vu .none)(pl:IsPart vl lo)(pu:IsPart vu hi)
  (hw:sIx items.size 0 lo=0/\sIx items.size items.size hi=items.size)(h:Q (.ref t) s):wpAny (model prog w) A (getItem (.ref t) (.ref sl)) Q E s:=by
 obtain⟨os,hos,hcs,hds⟩:=id hs;have hTs:s.TypeIs (.ref sl) "slice":=⟨os,hos,hcs⟩;unfold getItem
 try with_reducible refine wpAny_holding ?_
 first|refine wpAny_bind (wpAny_pure ?_)|skip
 refine wpAny_bind (wpAny_sequenceKey ht.typeIs (by decide) ?_);refine wpAny_bind (wpAny_callSpecial?_slot (name:=Str.ofString "__getitem__") ht.typeIs PyProof.Rows.slot_tuple_getitem
  (wpAny_call_entry PyProof.Rows.slot_tuple_getitem ht.typeIs entry_tuple_getitem ?_ (args_tuple_getitem _ _)))
 show wpAny _ _ (Builtin.Tuple.tupleItemsOf (.ref t) >>= _) _ _ s;refine wpAny_bind (tupleItemsOf_ ht ?_);refine wpAny_bind (wpAny_typeOf hTs ?_);rw[if_pos (by decide)];refine wpAny_bind (ZBg hs pl pu ?_);show wpAny _ _ (if (((sIx items.size 0 lo:Nat):Int) == 0 && (1:Int) == 1 && (sIx items.size items.size hi-sIx items.size 0 lo) == items.size)=true then _ else _) _ _ s;have hyes:(((sIx items.size 0 lo:Nat):Int) == 0 && (1:Int) == 1 && (sIx items.size items.size hi-sIx items.size 0 lo) == items.size)=true:=by
  rw[hw.1,hw.2];simp
 rw[if_pos hyes];unfold Builtin.Tuple.tupleIsExact;refine wpAny_bind (wpAny_bind (wpAny_typeOf ht.typeIs (wpAny_pure ?_)));rw[if_pos (by rfl)];exact wpAny_bind (wpAny_rule (wpAny_pure ⟨_,rfl,wpAny_pure h⟩))
end
end HT
namespace L2
open PySem PySem.Spec PyProof.Rows
section
variable{X:Cx}
theorem ZPL:SlR X (λx lo hi H Q=>∃a xs,x=.ref a/\SqT X.K H a xs/\((HT.sIx xs.length 0 lo=0/\HT.sIx xs.length xs.length hi=xs.length)->Q (.ref a) H) /\
  (¬(HT.sIx xs.length 0 lo=0/\HT.sIx xs.length xs.length hi=xs.length)->∀p,H p=none->Q (.ref p) (upd H p (.tup (ZGN xs lo hi))))):=by
 intro pins s σ H x v vl vu lo hi sl Q I rx hs pl pu h;obtain⟨a,xs,rfl,hx,q1,q2⟩:=h
 by_cases hw:HT.sIx xs.length 0 lo=0/\HT.sIx xs.length xs.length hi=xs.length
 ·cases rx
  obtain⟨its,r,ht,hz⟩:=I.tuple hx;have hlen:its.toArray.size=xs.length:=by rw[size_toArray];exact r.length.symm
  refine⟨"tuple",_,PyProof.Rows.slot_tuple_getitem.lookup,ht.typeIs,?_⟩;exact HT.getItem_tuple_whole ht hs pl pu (by rw[hlen];exact hw) ⟨.ref a,H,I,rfl,q1 hw⟩
 ·exact ZSH pins s σ H (.ref a) v vl vu lo hi sl Q I rx hs pl pu ⟨a,xs,rfl,hx,hw,q2 hw⟩
noncomputable def ZPV:V->List V->Hp->VK->Prop:=λx vs H Q=>∃l xs k y,x=.ref l/\vs=[.int k,y]/\H l=some (.lst xs)/\(0<=k/\k<=xs.length)/\xs.length<1000/\Q .non (upd H l (.lst (xs.take k.toNat++y::xs.drop k.toNat)))
theorem ZKR:MtM X "list.insert" ZPV:=by
 intro pins s σ H x vs v us Q I rx rv h;obtain⟨l,xs,k,y,rfl,rfl,hH,⟨k0,k1⟩,hz,q⟩:=h;cases rx;obtain⟨u1,u,rfl,⟨t,rfl⟩,ru⟩:=rv.two;obtain⟨z,its,n,r,hl,e⟩:=I.lstM hH;have hlen:=r.length;have hfit : ¬(!Builtin.List.listFitsIndex k)=true:=by
  have h1:(xs.length:Int)<1000:=by omega
  simp[Builtin.List.listFitsIndex];omega
 refine call_meets F.slot_list_insert ⟨_,e,rfl⟩ F.entry_list_insert (F.args_list_insert_3 _ _ _) (PySem.AutoSeq1.list_insert_list_int_val_1 l its.toArray n k t u hfit (by rw[size_toArray];exact le_of_lt (ZS (by omega)))) ⟨e,?_⟩;refine⟨.non,_,I.lset (its':=its.take k.toNat++u::its.drop k.toNat) hH e ?_ ((r.take _).append (.cons ru (r.drop _))) ?_,rfl,q⟩
 ·dsimp only
  rw[if_neg (by omega),size_toArray,Nat.min_eq_left (by omega)];simp[List.extract_toArray];exact List.take_of_length_le (by rw[length_drop];exact le_refl _)
 ·rw[length_append,length_cons,length_take,length_drop]
  exact le_of_lt (ZS (by omega))
theorem ZLb(hc:X.calm=true):ZN X (.builtin "any") (λxs H Q=>∃(p:Addr) (bs:List Bool),xs=[.ref p]/\SqL X.K H p (bs.map V.bl)/\Q (.bl (bs.any id)) H):=by
 intro pins s σ H xs us Q I r h;obtain⟨p,bs,rfl,hq,q⟩:=h;obtain⟨u,rfl,ru⟩:=ZAk r;cases ru;obtain⟨its,rv,pl,hz⟩:=I.list hq;have hlen:=rv.length;rw[length_map] at hlen;have hpl:p<s.heap.objs.size:=by
  obtain⟨o,n,e,_⟩:=pl;exact lt_size e
 refine call_any_walk (wpAny_pyIter_list pl.isList ⟨s.heap.objs.size,_,_,_,_,_,λi=>bs.getD i false,rfl,Walks.list (A:=X.A.in1) (show X.A.in1.handled=none from I.ok.hd hc) s.heap.objs.size p (ne_of_lt hpl) its.toArray,?_,?_,λh' tk k=>?_⟩)
 ·exact⟨⟨_,get?_push_size _ rfl,rfl,rfl⟩,pl.isList.at λo e=>get?_push_of_some _ e⟩
 ·intro i v s' Q' E' hv hQ
  have hv':its[i]? = some v:=by simpa using hv
  have hi:i<bs.length:=by rw[hlen];exact(List.getElem?_eq_some_iff.mp hv').1
  obtain⟨u,hu,ru⟩:=rv.get (i:=i) (x:=V.bl bs[i]) (by simp[hi]);rw[hv'] at hu;cases hu;cases ru;have e:bs.getD i false=bs[i]:=by simp[List.getD,hi]
  dsimp only at hQ;rw[e] at hQ;exact wpAny_truthy_bool hQ
 ·have e:((List.range its.toArray.size).any λi=>bs.getD i false)=bs.any id:=by
   rw[Bool.eq_iff_iff,any_eq_true,any_eq_true];constructor
   ·rintro ⟨i,hi,z⟩
    have hi':i<bs.length:=by simpa [←hlen] using hi
    exact⟨bs[i],getElem_mem hi',by simpa [List.getD,hi'] using z⟩
   ·rintro ⟨b,hb,z⟩
    obtain⟨i,hi,rfl⟩:=List.mem_iff_getElem.mp hb;exact⟨i,by simp[←hlen,hi],by simpa [List.getD,hi] using z⟩
  rw[e];exact⟨.bl (bs.any id),H,I.kept λb o q=>k b o (by simp;exact ne_of_lt (lt_size q)) (get?_push_of_some _ q),rfl,q⟩
end
noncomputable def ZLR(a:Addr):HO:=.ext λh=>∃o,h.get? a=some o/\o.cls=.type "dict"/\∃es n,o.data=.dict es n
inductive Kd (K:PySem.W.Frag) (H:Hp):V->String->Prop
 |non:Kd K H .non "NoneType"
 |bl (b:Bool):Kd K H (.bl b) "bool"
 |int (i:Int):Kd K H (.int i) "int"
 |str (x:Str):Kd K H (.str x) "str"
 |lst {a:Addr} {xs:List V}:H a=some (.lst xs)->Kd K H (.ref a) "list"
 |tup {a:Addr} {xs:List V}:SqT K H a xs->Kd K H (.ref a) "tuple"
 |dct {a:Addr}:H a=some (ZLR a)->Kd K H (.ref a) "dict"
noncomputable def isi(k T:String):Bool:=decide (k=T) || (decide (k = "bool") && decide (T = "int"))
section
variable{X:Cx}{pos p2:Pos}
theorem ZKD:ZN X (.builtin "isinstance") (λxs H Q=>∃(x:V) (T k:String),xs=[x,.ty T]/\Kd X.K H x k/\(T = "int"∨T = "bool"∨T = "tuple"∨T = "str")/\Q (.bl (isi k T)) H):=by
 intro pins s σ H xs us Q I r h;obtain⟨x,T,k,rfl,kd,hT,q⟩:=h;obtain⟨u,w',rfl,ru,rw'⟩:=ZJ0 r;cases rw';have fin:∀(t:Value),PySem.W.kitOne X.K t (.type T)=some (isi k T)->∀{HH:Heap->Prop},PySem.W.KitX X.K u t HH->HH s.heap->(u≠Value.builtin "__main__.__loader__#opaque")->wpAny (model X.prog X.w) X.A (call (.builtin "isinstance") [u,.type T]) (EP X pins σ Q) X.xe s:=λt e _ kx hh hu =>
  PySem.W.kia_one kx I.kIn hh e hu λtk=>⟨.bl _,H,I.tok tk,rfl,q⟩
 cases kd with
 |non=>cases ru;exact fin (.type "NoneType") (by rcases hT with rfl|rfl|rfl|rfl <;> rfl) PySem.W.kitx_none True.intro (λz=>nomatch z)
 |bl y=>cases ru;exact fin (.type "bool") (by rcases hT with rfl|rfl|rfl|rfl <;> rfl) PySem.W.kitx_bool True.intro (λz=>nomatch z)
 |int i=>obtain⟨t,rfl⟩:=ru;exact fin (.type "int") (by rcases hT with rfl|rfl|rfl|rfl <;> rfl) PySem.W.kitx_int True.intro (λz=>nomatch z)
 |str y=>obtain⟨t,rfl⟩:=ru;exact fin (.type "str") (by rcases hT with rfl|rfl|rfl|rfl <;> rfl) PySem.W.kitx_str True.intro (λz=>nomatch z)
 |@lst a xs ea =>
  cases ru;obtain⟨_,_,n,_,h1⟩:=(show Zq X.prog X.w H s.heap a (.lst xs) from I.hok a _ ea);exact fin (.type "list") (by rcases hT with rfl|rfl|rfl|rfl <;> rfl) PySem.W.kitx_list ⟨_,h1,rfl⟩ (λz=>nomatch z)
 |@tup a xs ea =>
  cases ru;obtain⟨_,_,⟨o,h1,h2,_⟩,_⟩:=I.tuple ea;exact fin (.type "tuple") (by rcases hT with rfl|rfl|rfl|rfl <;> rfl) PySem.W.kitx_tuple ⟨o,h1,h2⟩ (λz=>nomatch z)
 |@dct a ea =>
  cases ru;obtain⟨⟨o,h1,h2,_⟩,_⟩:=(show Zq X.prog X.w H s.heap a (ZLR a) from I.hok a _ ea);exact fin (.type "dict") (by rcases hT with rfl|rfl|rfl|rfl <;> rfl) PySem.W.kitx_dict ⟨o,h1,h2⟩ (λz=>nomatch z)
noncomputable def ZOz(mg:Str->Option Value)(x:Str)(n:Int):Prop:=∃t,mg x=some (.int n t)
theorem ZMx{x:Str}{n:Int}(hg:Gl X x)(h:ZOz X.mg x n)(hd:(x == ("__debug__" : Str))=false:=by decide):PE X (.Name x pos) (tC (.int n)):=by
 obtain⟨t,e⟩:=h;exact ZI3 hg e ⟨t,rfl⟩ hd
end
end L2
namespace HT
open PySem PyProof.Rows
open Builtin
section
variable{prog:Program}{w:World}{A:Around}{E:Value->Shared->Prop}{s:Shared}
theorem cat_tupA{t b:Addr}{vs ws:List Value}{Q:Value->Shared->Prop}(ht:IsTup s.heap t vs.toArray)(hb:IsTup s.heap b ws.toArray)
  (h0:vs=[]->Q (.ref b) s)(h1:vs≠[]->ws=[]->Q (.ref t) s)(h2:vs≠[]->ws≠[]->Q (.ref s.heap.objs.size) { s with heap:=s.heap.push { cls:=.type "tuple",data:=.seq (vs++ws).toArray } })
  (hsz:vs.length+ws.length<=sizeLine):wpAny (model prog w) A (binaryOp .Add (.ref t) (.ref b)) Q E s:=by
 by_cases hv:vs=[]
 ·obtain⟨⟨cls,dd,data,sl⟩,ho,hc,n,hd⟩:=id ht
  obtain⟨⟨cls2,dd2,data2,sl2⟩,ho2,hc2,n2,hd2⟩:=id hb;simp only at hc hd hc2 hd2;subst hc hd hc2 hd2;exact concat_meets ⟨_,ho,rfl⟩ ⟨_,ho2,rfl⟩ noFill_tuple_add seq_tuple_add PySem.F.slot_tuple_add PySem.F.entry_tuple_add (PySem.F.args_tuple_add_2 _ _)
   (tuple_addW0 t b vs.toArray ws.toArray n n2 dd dd2 sl sl2 (by simp[hv])) ⟨ho,ho2,h0 hv⟩
 ·exact ZOY ht hb hv (h1 hv) (h2 hv) hsz
theorem noFill_tuple_mul:fillsNumberSlot (.type "tuple") "mul" = pure false :=
 PySem.fillsNumberSlot_seq (id:="tuple.__mul__") (r:=some (.builtin "tuple.__rmul__")) F.slot_tuple_mul.lookup (by decide +kernel) F.slot_tuple_rmul.lookup (by decide +kernel)
theorem repeat_tuple:seqRepeat? (.type "tuple")=pure (some (.builtin "tuple.__mul__")):=by
 unfold seqRepeat?;rw[PySem.seqSlot_of (T:="tuple") (name:="__mul__") (id:="tuple.__mul__") F.slot_tuple_mul.lookup (by decide +kernel),PySem.seqSlot_of (T:="tuple") (name:="__rmul__") (id:="tuple.__rmul__") F.slot_tuple_rmul.lookup (by decide +kernel)];rfl
theorem rmul_tup(a:Int)(t:Tok)(l:Addr)(items:Array Value)(n:Nat)(dd:Option Addr)(sl:Array (Option Value)) :
  Meets (Builtin.«int.__rmul__» ⟨[.int a t,.ref l],[]⟩) (λ_ R s=>s.heap.get? l=some { cls:=.type "tuple",dict:=dd,data:=.seq items n,slots:=sl }/\R (.ok (.ret Value.notImplemented)) s) :=
 .of_wp λprog w A R s h=>by obtain⟨hp,g,d,tk,os⟩:=s;obtain⟨hl,h⟩:=h;wp_walk;exact⟨_,rfl,h⟩
theorem tuple_mulW(l:Addr)(items:Array Value)(n:Nat)(dd:Option Addr)(sl:Array (Option Value))(k:Int)(t:Tok)(hc0 : ¬(decide (k < -(2 ^ 63)) || decide (k ≥ 2 ^ 63))=true)(hc1 : ¬(items.isEmpty || k == 1)=true)(hc2 : ¬(decide (k<=0) || items.isEmpty)=true)
  (hc3 : ¬((items.size:Int)*k > (2 ^ 63-1) / 8))(hc4 : ¬Builtin.Tuple.tupleTooMany ((items.size:Int)*k)=true)(hsz:((List.replicate k.toNat items).foldl (·++·) #[]).size<=sizeLine) :
  Meets (Builtin.«tuple.__mul__» ⟨[.ref l,.int k t],[]⟩) (λ_ R s=>s.heap.get? l=some { cls:=.type "tuple",dict:=dd,data:=.seq items n,slots:=sl }/\R (.ok (.ret (Value.ref s.heap.objs.size))) { s with heap:=s.heap.push { cls:=Value.type "tuple",data:=Data.seq ((List.replicate k.toNat items).foldl (·++·) #[]) },toks:=s.toks }) :=
 .of_wp λprog w A R s h=>by
  obtain⟨hp,g,d,tk,os⟩:=s;obtain⟨hl,h⟩:=h;have f1:=AutoSeq1.idx_int;have f2:=AutoSeq1.sub_tuple_tuple
  wp_walk using wpAny_loadPart' hl
  rw[if_neg hc0]
  wp_walk using wpAny_loadPart' hl
  rw[if_neg hc3]
  wp_walk using wpAny_loadPart' hl
  exact⟨_,rfl,h⟩
end
end HT
namespace L2
open PySem PySem.Spec PyProof.Rows H1
section
variable{X:Cx}
theorem ZFo:∀{ss:List Str} {us:List Value},ZK (ss.map V.str) us->∃l:List (Str×Tok),us=strValues l/\l.map (·.1)=ss
 |[],_,r=>by cases r;exact⟨[],rfl,rfl⟩
 |x::ss,_,r=>by
  cases r with
  |cons r1 r2 =>
   obtain⟨t,rfl⟩:=r1;obtain⟨l,rfl,h⟩:=ZFo r2;exact⟨(x,t)::l,rfl,by rw[map_cons,h]⟩
theorem ZNc{ss:List Str}{B:Nat}(h:∀x∈ss,x.length<=B):(ss.map (·.length)).sum<=ss.length*B:=by
 induction ss with
 |nil=>simp
 |cons x r ih =>
  rw[map_cons,sum_cons,length_cons,Nat.succ_mul];have:=ih λy hy=>h y (mem_cons_of_mem _ hy)
  have:=h x (mem_cons_self ..);omega
theorem ZAc(x:String):PyData.strOk (Str.ofString x)=true:=by
 unfold PyData.strOk;rw[Str.ofString_eq_toList,List.all_toArray,all_eq_true];intro n hn;obtain⟨c,_,rfl⟩:=List.mem_map.mp hn;rw[decide_eq_true_iff];rcases c.valid with h|h
 ·exact lt_trans (show c.toNat<0xd800 from h) (by decide)
 ·exact h.2
theorem ZMe{a b:Str}(h:PyData.strOk a=true)(h':PyData.strOk b=true):PyData.strOk (a++b)=true:=by
 unfold PyData.strOk at *;rw[Str.cps_append,Array.all_append,h,h'];rfl
theorem ZJG{sep:Str}(hs:PyData.strOk sep=true):∀{ss:List Str},(∀x∈ss,PyData.strOk x=true)->PyData.strOk (Str.join sep ss)=true
 |[],_=>(by show PyData.strOk Str.empty=true;simp[PyData.strOk,Str.empty])
 |[x],h=>h x (List.mem_singleton.mpr rfl)
 |x::y::r,h=>by
  show PyData.strOk (x++sep++Str.join sep (y::r))=true;exact ZMe (ZMe (h x (mem_cons_self ..)) hs) (ZJG hs λz hz=>h z (mem_cons_of_mem _ hz))
theorem ZEs{sep:Str}(hs:PyData.strOk sep=true){ss:List Str}(h:∀x∈ss,PyData.strOk x=true):PyData.strOk (Txt.join sep ss)=true:=by
 show PyData.strOk (Builtin.Str.glued sep ss)=true;rw[StrLaws.glued_eq_join];exact ZJG hs h
noncomputable def ZPG(mg:Str->Option Value)(x:Str)(n:Str):Prop:=∃t,mg x=some (.str n t)
theorem ZMi{x n:Str}{pos:Pos}(hg:Gl X x)(h:ZPG X.mg x n)(hd:(x == ("__debug__" : Str))=false:=by decide):PE X (.Name x pos) (tC (.str n)):=by
 obtain⟨t,e⟩:=h;exact ZI3 hg e ⟨t,rfl⟩ hd
end
theorem ZOm{sep:Str}{ss:List Str}{B N:Nat}(h:∀x∈ss,x.length<=B)(hn:ss.length<=N):(Txt.join sep ss).length<=N*B+N*sep.length:=by
 show(Builtin.Str.glued sep ss).length<=_;rw[StrLaws.glued_eq_join];cases ss with
 |nil=>exact zero_le _
 |cons a r =>
  rw[len_join_cons];have h1:=ZNc h;have h2:(a::r).length*B<=N*B:=mul_le_mul_right _ hn;have h3:r.length*sep.length<=N*sep.length:=mul_le_mul_right _ (by rw[length_cons] at hn;omega);omega
noncomputable def ZDj(ns:List Int):PyData:=.tuple (ns.map .int)
end L2
namespace HT
open PySem PyProof.Rows
noncomputable def lexGe:List Int->List Int->Bool
 |[],[]=>true
 |[],_::_=>false
 |_::_,[]=>true
 |x::xs,y::ys=>if x=y then lexGe xs ys else decide (y<=x)
theorem ZH7(x y:Int)(xs ys:List Int):lexGe (x::xs) (y::ys)=if x=y then lexGe xs ys else decide (y<=x):=rfl
theorem ZFW:lexGe [] []=true:=rfl
theorem ZEa(y:Int)(ys:List Int):lexGe [] (y::ys)=false:=rfl
theorem ZEP(x:Int)(xs:List Int):lexGe (x::xs) []=true:=rfl
theorem ZLY(A:Around)(s:Shared)(a:Int)(t:Tok)(c:Int)(u:Tok)(prog:Program)(w:World)(E:Value->Shared->Prop)(Q:Value->Shared->Prop)(h:Q (.bool (decide (c<=a))) s) :
  wpAny (model prog w) A (richCompare .GtE (.int a t) (.int c u)) Q E s :=
 (PyProof.Rows.ge_int h:wpAny (model prog w) A (compareOp .GtE (.int a t) (.int c u)) Q E s)
section
open PySem.SeqAt
open PySem.AutoSeq1 (wpAny_loadPart')
open PySem.MeetsSeq PySem.MeetsSeq2 PySem.MeetsSeq3
theorem ZFI(l b:Addr)(items items2:Array Value)(n n2:Nat)(dd dd2:Option Addr)(sl sl2:Array (Option Value))(ns ms:List Int)(hi:IntsAre items.toList ns)(hj:IntsAre items2.toList ms) :
  Meets (Builtin.«tuple.__ge__» ⟨[.ref l,.ref b],[]⟩)
   (λ _ R s=>s.heap.get? l=some { cls:=.type "tuple",dict:=dd,data:=.seq items n,slots:=sl }/\s.heap.get? b=some { cls:=.type "tuple",dict:=dd2,data:=.seq items2 n2,slots:=sl2 } /\
    R (.ok (.ret (.bool (lexGe ns ms)))) s) :=
 .of_wp λprog w A R s h=>by
  obtain⟨hp,g,d,tk,os⟩:=s;obtain⟨hl,hb,h⟩:=h;have f2:=AutoSeq1.sub_tuple_tuple;have z1:items.size=ns.length:=by rw[←hi.length];simp
  have z2:items2.size=ms.length:=by rw[←hj.length];simp
  wp_walk using wpAny_loadPart' hl,wpAny_loadPart' hb,wpAny_forIn_list _ (λ rest b s'=>b.1=none/\s'=⟨hp,g,d,tk,os⟩/\∃ (vs ws:List Value) (ns' ms':List Int),rest=vs.zip ws /\
   IntsAre vs ns'/\IntsAre ws ms'/\ns'.length+items2.size=ms'.length+items.size/\R (.ok (.ret (.bool (lexGe ns' ms')))) ⟨hp,g,d,tk,os⟩) _
  case turn =>
   rintro ⟨y,x⟩ rest b s' ⟨hb',rfl,vs,ws,ns',ms',hz,hvi,hwi,hlen,hR⟩
   cases hvi with
   |nil=>rw[zip_nil_left] at hz;cases hz
   |cons a t hvi' =>
    cases hwi with
    |nil=>rw[List.zip_nil_right] at hz;cases hz
    |cons c u hwi' =>
     rw[zip_cons_cons] at hz;injection hz with hyx hrest
     injection hyx with hy hx
     subst hy hx;rw[ZH7] at hR;simp only[length_cons] at hlen;obtain⟨e,he,hiff⟩:=ZEr A.in1 ⟨hp,g,d,tk,os⟩ a t c u;refine wpAny_bind (he prog w _ _ ?_);cases e with
     |true =>
      rw[if_pos (hiff.mp rfl)] at hR
      wp_walk
      exact⟨rfl,rfl,_,_,_,_,hrest,hvi',hwi',by omega,hR⟩
     |false =>
      rw[if_neg (λq=>absurd (hiff.mpr q) Bool.false_ne_true)] at hR;have hri:=ZLY A.in1 ⟨hp,g,d,tk,os⟩ a t c u prog w
      wp_walk using hri
      exact⟨_,rfl,by simpa using hR⟩
  case fin =>
   rintro ⟨b1,b2⟩ s' ⟨hb',rfl,vs,ws,ns',ms',hz,hvi,hwi,hlen,hR⟩
   simp only at hb';subst hb';have hv:lexGe ns' ms'=decide (items.size ≥ items2.size):=by
    cases hvi with
    |nil =>
     cases hwi with
     |nil =>
      simp only[length_nil] at hlen;rw[ZFW];exact(decide_eq_true (by omega)).symm
     |cons c u hw =>
      simp only[length_nil,length_cons] at hlen;rw[ZEa];exact(decide_eq_false (by omega)).symm
    |cons a t hv =>
     cases hwi with
     |nil =>
      simp only[length_nil,length_cons] at hlen;rw[ZEP];exact(decide_eq_true (by omega)).symm
     |cons c u hw =>
      rw[zip_cons_cons] at hz;cases hz
   rw[hv] at hR
   wp_walk
   exact⟨_,rfl,by simpa [Builtin.Tuple.tupleCompareSizes] using hR⟩
  case h =>
   exact⟨rfl,rfl,items.toList,items2.toList,ns,ms,rfl,hi,hj,by omega,h⟩
end
section
variable{prog:Program}{w:World}{A:Around}{E:Value->Shared->Prop}{s:Shared}
theorem ge_tupInts{l b:Addr}{items items2:Array Value}{ns ms:List Int}{Q:Value->Shared->Prop}(hl:IsTup s.heap l items)(hb:IsTup s.heap b items2)(hi:IntsAre items.toList ns)(hj:IntsAre items2.toList ms)
  (hu:A.units<cLine)(h:Q (.bool (lexGe ns ms)) s):wpAny (model prog w) A (compareOp .GtE (.ref l) (.ref b)) Q E s:=by
 obtain⟨⟨cls,dd,data,sl⟩,ho,hc,n,hd⟩:=id hl;obtain⟨⟨cls2,dd2,data2,sl2⟩,ho2,hc2,n2,hd2⟩:=id hb;simp only at hc hd hc2 hd2;subst hc hd hc2 hd2;exact richCompare_meets_room (op:=.GtE) ⟨_,ho,rfl⟩ ⟨_,ho2,rfl⟩ PySem.F.slot_tuple_ge PySem.F.entry_tuple_ge (PySem.F.args_tuple_ge_2 _ _) (ZFI l b items items2 n n2 dd dd2 sl sl2 ns ms hi hj)
  ⟨ho,ho2,show Value.bool (lexGe ns ms)≠Value.notImplemented/\Q (.bool (lexGe ns ms)) s from ⟨(λx=>nomatch x),h⟩⟩ hu
end
end HT
namespace L2
open PySem PySem.Spec PyProof.Rows
section
variable{X:Cx}{a b:Expr}{ta tb:TE}{pos:Pos}
noncomputable def rGeT(K:PySem.W.Frag):R2:=λx y H Q=>∃a b ns ms,x=.ref a/\y=.ref b/\SqT K H a (ns.map V.int)/\SqT K H b (ms.map V.int)/\Q (.bl (HT.lexGe ns ms)) H
theorem ZRD(hu:X.A.units<cLine):OpR X (compareOp .GtE) (rGeT X.K):=by
 intro pins s σ H x y v u Q I rx ry h;obtain⟨a,b,ns,ms,rfl,rfl,ha,hb,q⟩:=h;cases rx;cases ry;obtain⟨its,r1,p1,_⟩:=I.tuple ha;obtain⟨its2,r2,p2,_⟩:=I.tuple hb;have i1:IntsAre its.toArray.toList ns:=ZAI r1;have i2:IntsAre its2.toArray.toList ms:=ZAI r2;exact HT.ge_tupInts p1 p2 i1 i2 hu ⟨.bl (HT.lexGe ns ms),H,I,rfl,q⟩
end
end L2
namespace L2
open PySem PySem.Spec PyProof.Rows H1
section
variable{prog:Program}{w:World}{A:Around}{E:Value->Shared->Prop}{s:Shared}
theorem ZHb{d:Addr}{kvs:List (Key×Value)}{ep:Nat}{ns:List Int}{Q:Value->Shared->Prop}(hh:A.handled=none)(lo:(d == sysModules)=false)(hm:s.heap.DictAt (ZBJ prog w) d kvs ep)(hk:kvs.map (·.1)=ns.map Sum.inl)(h64:kvs.length<64)
  (h:∀(h1 h':Heap) (tk e:Nat) (out:Array Value) (ns':List Int),(∀b o,s.heap.get? b=some o->h1.get? b=some o)->(∀b o,h1.get? b=some o->h'.get? b=some o)->h'.get? h1.objs.size=some (seqObj "list" out e)->IntsAre out.toList ns'->ns'.Perm ns->ns'.Pairwise (· <= ·)->Q (.ref h1.objs.size) { s with heap:=h',toks:=tk }) :
  wpAny (model prog w) A (call (.builtin "sorted") [.ref d]) Q E s:=by
 have hkl:ns.length=kvs.length:=by have:=congrArg List.length hk;simpa using this.symm
 have hz:kvs.length<=sizeLine:=by rw[sizeLine_eq];omega
 refine Calls.call_function_entry kind_sorted plain_sorted entry_sorted (args_sorted1 _) ?_;unfold Builtin.«sorted»;refine wpAny_bind (m:=checkCount "sorted" 1 1 _) (wpAny_pure ?_);refine wpAny_bind (PySem.W.kdu_collect (A:=A.in1) (PySem.W.kdl_dict (knd:=ZBJ prog w) (kvs:=kvs) (ep:=ep) lo) hh hm hz λh' tk acc kp hacc=>?_);have hl:acc.toList.length=kvs.length:=by rw[Array.length_toList];exact hacc.1
 have hI:IntsAre acc.toList ns:=by
  have:∀(vs:List Value) (ms:List Int),vs.length=ms.length->(∀(j:Nat) (v:Value),vs[j]? = some v->∃m t,ms[j]? = some m/\v=Value.int m t)->IntsAre vs ms:=by
   intro vs
   induction vs with
   |nil=>intro ms e _;cases ms with
    |nil=>exact .nil
    |cons _ _=>cases e
   |cons v vs ih=>intro ms e q;cases ms with
    |nil=>cases e
    |cons m ms =>
     obtain⟨m',t,e1,rfl⟩:=q 0 v rfl;cases e1;exact .cons _ _ (ih ms (by simpa using e) λj u hu=>by simpa using q (j+1) u (by simpa using hu))
  refine this _ _ (by omega) λj v hv=>?_
  obtain⟨k,x,e1,e2⟩:=hacc.2 j v (by rw[←Array.getElem?_toList];exact hv);have e3:(ns.map Sum.inl)[j]? = some k:=by rw[←hk,getElem?_map,e1];rfl
  rw[getElem?_map] at e3;cases q:ns[j]? with
  |none=>rw[q] at e3;cases e3
  |some m =>
   rw[q] at e3;cases e3;rcases ZZ (k:=Sum.inl m) (v:=v) e2 with ⟨i,t,h1,h2⟩|⟨x,t,h1,h2⟩
   ·cases h1;exact⟨_,t,rfl,h2⟩
   ·cases h1
 refine wpAny_bind (wpAny_newList ?_ (by rw[hl];exact hz));have hoL:(h'.push (seqObj "list" acc.toList.toArray 0)).get? h'.objs.size=some (seqObj "list" acc.toList.toArray 0):=get?_push_size _ rfl;refine wpAny_bind (wpAny_holding (wpAny_call_entry slot_list_sort ⟨_,hoL,rfl⟩ entry_list_sort (list_sort_tree hoL hI (by omega) λout ns' a1 a2 a3=>⟨_,rfl,?_⟩) (args_list_sort _)));obtain⟨e,he⟩:=sortedHeap_at (out:=out) hoL;refine wpAny_pure ⟨_,rfl,h h' _ _ e out ns' kp (λb o q=>?_) he a1 a2 a3⟩;have hb:=lt_size q;rw[sortedHeap_old (ne_of_lt hb) (by rw[size_push'];exact lt_succ_of_lt hb)];exact get?_push_of_some _ q
end
section
variable{κ : Type}[DecidableEq κ]
noncomputable def ZBW{α : Type}(kvs:List (κ×α))(k : κ)(v : α):List (κ×α):=if kvs.any (λkv=>decide (kv.1=k))=true then kvs.map (λkv=>if kv.1=k then (kv.1,v) else kv) else kvs++[(k,v)]
noncomputable def ZRy{α : Type}(kvs more:List (κ×α)):List (κ×α):=more.foldl (λacc kv=>ZBW acc kv.1 kv.2) kvs
theorem KV.keys{kvs:List (κ×V)}{vs:List (κ×Value)}(r:KV kvs vs):kvs.map (·.1)=vs.map (·.1):=by
 unfold KV at r
 induction r with
 |nil=>rfl
 |cons h t ih=>rw[map_cons,map_cons,ih,h.1]
theorem KV.repl{kvs:List (κ×V)}{vs:List (κ×Value)}(r:KV kvs vs)(k : κ){y:V}{u:Value}(ry:ZU y u) :
  KV (kvs.map λkv=>if kv.1=k then (kv.1,y) else kv) (vs.map λkv=>if kv.1=k then (kv.1,u) else kv):=by
 unfold KV at r ⊢
 induction r with
 |nil=>exact .nil
 |@cons p q ps qs h t ih =>
  rw[map_cons,map_cons];refine .cons ?_ ih;obtain⟨h1,h2⟩:=h
  by_cases e:p.1=k
  ·rw[if_pos e,if_pos (h1.symm.trans e)];exact⟨h1,ry⟩
  ·rw[if_neg e,if_neg (λz=>e (h1.trans z))];exact⟨h1,h2⟩
theorem KV.put{kvs:List (κ×V)}{vs:List (κ×Value)}(r:KV kvs vs)(k : κ){y:V}{u:Value}(ry:ZU y u):KV (ZBW kvs k y) (stored vs k u):=by
 have ha:(kvs.any λkv=>decide (kv.1=k))=vs.any λkv=>decide (kv.1=k):=by
  unfold KV at r
  induction r with
  |nil=>rfl
  |cons h t ih=>rw[any_cons,any_cons,ih,h.1]
 unfold ZBW stored;rw[ha]
 split
 ·exact r.repl k ry
 ·exact Paired.snoc r ⟨rfl,ry⟩
end
section
variable{X:Cx}
theorem Inv.big{pins:List (Addr×Obj)}{σ : St}{H:Hp}{s:Shared}(I:Inv X pins σ H s):sysModules<s.heap.objs.size:=by
 have h:mainGlobals<s.heap.objs.size:=(I.mod.glob.keeps I.bk).lt;exact lt_trans (by decide) h
theorem ZGS(hc:X.calm=true):ZN X (.builtin "sorted") (λxs H Q=>∃(p:Addr) (kvs:List (Key×V)) (ns:List Int),xs=[.ref p]/\H p=some (.dK kvs)/\kvs.map (·.1)=ns.map Sum.inl/\ns.length<64/\∀l (ms:List Int),H l=none->ms.Perm ns->ms.Pairwise (· <= ·)->Q (.ref l) (upd H l (.lst (ms.map V.int)))):=by
 intro pins s σ H xs us Q I r h;obtain⟨p,kvs,ns,rfl,hp,hk,hn,q⟩:=h;obtain⟨u,rfl,ru⟩:=ZAk r;cases ru;obtain⟨hz,lo,vs,rk,hd⟩:=I.hok p _ hp;obtain⟨ep,hat⟩:=hd.dictAt;have hvl:vs.length=ns.length:=by
  have:=congrArg List.length hk;rw[length_map,length_map,Paired.length rk] at this
  exact this
 refine ZHb (I.ok.hd hc) lo hat (ns:=ns) (by rw[←rk.keys];exact hk) (by omega) λh1 h' tk e out ns' kp kp2 he ia pm pw=>?_
 have rv':ZK (ns'.map V.int) out.toList:=by
  clear pm pw he
  generalize out.toList=l at ia
  induction ia with
  |nil=>exact .nil
  |cons a t h ih=>exact .cons ⟨t,rfl⟩ ih
 have I1:Inv X pins σ H { s with heap:=h1,toks:=tk }:=I.kept (t':=tk) kp;refine⟨.ref h1.objs.size,_,I1.laid (t':=tk) kp2 (le_refl _) (o:=.lst (ns'.map V.int)) ⟨?_,out.toList,e,rv',by simpa using he⟩,rfl,q _ ns' (I1.hok.fresh (le_refl _)) pm pw⟩;rw[length_map,pm.length_eq];exact le_of_lt (ZS (by omega))
end
theorem kV_is{P:Program}{w:World}{k:Key}{u:Value}(r:ZU (kV k) u):(ZBJ P w).is k u=true:=by
 cases k with
 |inl i=>obtain⟨t,rfl⟩:=r;exact ZHk P w i t
 |inr x=>obtain⟨t,rfl⟩:=r;exact ZHi P w x t
theorem ZLG{α : Type}{kvs:List (Key×α)}{k:Key}{x : α}:(ZBW kvs k x).length<=kvs.length+1:=by
 unfold ZBW
 split
 ·rw[length_map];omega
 ·rw[length_append];exact le_refl _
section
variable{X:Cx}
theorem ZRF:ZQy X (λo i v H Q=>∃(p:Addr) (kvs:List (Key×V)) (k:Key),o=.ref p/\i=kV k/\H p=some (.dK kvs)/\kvs.length<1000/\Q (upd H p (.dK (ZBW kvs k v)))):=by
 intro pins s σ H o i v ov iv u Q I ro ri rv h;obtain⟨p,kvs,k,rfl,rfl,hp,hl,q⟩:=h;cases ro;obtain⟨hz,lo,vs,rk,hd⟩:=I.hok p _ hp;have hv:vs.length=kvs.length:=by
  have:=congrArg List.length rk.keys;rw[length_map,length_map] at this
  exact this.symm
 refine wpAny_setItem_pairs (knd:=ZBJ X.prog X.w) (hsz:=by rw[hv];exact hz) (kV_is ri) hd λh' dd hs=>⟨_,?_,q⟩
 have he:∃q,h'.get? p=some q:=let ⟨q,_,_,hq,_⟩:=dd;⟨q,hq⟩
 refine I.write (x:=p) (e:=p) (by rw[hp];trivial) (.inl rfl) (λb q hb z=>(hs.2 b hb).trans z) he ⟨?_,lo,_,rk.put k rv,dd⟩;have:=ZLG (kvs:=kvs) (k:=k) (x:=v);rw[sizeLine_eq];omega
theorem ZPO{pos:Pos}:PE X (.Dict [] [] pos) (λ_ H Q=>∀p,H p=none->Q (.ref p) (upd H p (.dK []))):=λpins s σ H Q I h =>
 wpAny_Dict_empty ⟨.ref s.heap.objs.size,_,I.laid (a:=s.heap.objs.size) (o:=.dK []) (t':=s.toks) (λ_ _ q=>get?_push_of_some _ q) (le_refl _) ⟨zero_le _,beq_eq_false_iff_ne.mpr (Ne.symm (ne_of_lt I.big)),[],.nil,Heap.DictOf.new s.heap⟩,rfl,h _ (I.hok.fresh (le_refl _))⟩
end
structure Noted (fr:List Addr) (h h':Heap) (x:Addr) (ox:Obj) (tb:Value) (y:Addr):Prop where
 keep:∀b o,h.get? b=some o->b∉fr->b≠x->tb≠.ref b->h'.get? b=some o
 slot:∀b o,h.get? b=some o->b∈fr->∃sl,h'.get? b=some { o with slots:=sl }
 exc:∃o us,h'.get? x=some o/\o.cls=ox.cls/\o.dict=ox.dict/\o.data=.fields us/\us[1]? = some (.ref y)
 new:h.get? y=none
 tbn:∃o us,h'.get? y=some o/\o.data=.fields us/\us[3]? = some .none
 tbo:∀z,tb=.ref z->∃o us,h'.get? z=some o/\o.data=.fields us/\us[3]? = some .none
theorem ZJP(f:Array Value->Array Value)(o:Obj):(o.mapFields f).dict=o.dict:=by
 obtain⟨c,d,k,sl⟩:=o;cases k <;> rfl
section
variable{M:Model}{A:Around}{E:Value->Shared->Prop}{s:Shared}{base:Heap}{env:Env}{outer:List Env}{L x:Addr}{ox:Obj}{vs:Array Value}{Q:Unit->Shared->Prop}
theorem ZEm{hd:Value}{nx:Bool}(hfr:A.frames=some (env::outer))(hl:s.heap.FunFrames base (env::outer))(hf:env.frame=some L)(hx:s.heap.get? x=some ox)(hv:ox.data=.fields vs)(h1 : 1<vs.size)
  (k:∀ h' y,(∀ b o,s.heap.get? b=some o->b ∉ (env :: outer).filterMap (·.frame)->b ≠ x->h'.get? b=some o)->(∀ b o,s.heap.get? b=some o->b ∈ (env :: outer).filterMap (·.frame)->∃ sl,h'.get? b=some { o with slots:=sl }) ->
   (∃o us,h'.get? x=some o/\o.cls=ox.cls/\o.dict=ox.dict/\o.data=.fields us/\us[1]? = some (.ref y))->s.heap.get? y=none->(∃o us,h'.get? y=some o/\o.data=.fields us/\us[3]? = some .none)->Q () { s with heap:=h' }) :
  wpAny M A (do
   let p ←frameOf env
   let q ←entryPlaceOf L nx
   let r ←EntryCells.newEntry hd p .none (rawInt L) .none q
   setField (.ref x) 1 r) (λ_ t=>wpAny M A (setFlight (.ref x) none) Q E t) E s:=by
 have nx:x∉(env::outer).filterMap (·.frame):=λz=>by
  obtain⟨_,o,e1,e2⟩:=hl.mem z;rw[hx] at e1;cases e1;exact e2 vs hv
 refine wpAny_bind (wpAny_frameOf_fun hfr hl hf λh1' so=>?_);refine wpAny_bind (wpAny_entryPlaceOf λpl hp=>?_);unfold EntryCells.newEntry newFields;refine wpAny_bind (wpAny_newObj_type ?_ (hp.sizeOk5 _ _ _ _ _))
 generalize hob:({ cls:=.type "traceback",dict:=none,data:=.fields ([hd,.ref L,.none,rawInt L,.none]++(if pl.isEmpty then List.replicate 6 Value.none else pl)).toArray }:Obj)=ob
 have x1:h1'.get? x=some ox:=(so.2.1 x nx).trans hx;have x2:(h1'.push ob).get? x=some ox:=get?_push_of_some ob x1;refine wpAny_setField x2 hv h1 ?_;have yx:h1'.objs.size≠x:=ne_of_gt (lt_size x1);have v3:=Obj.data_mapFields hv (·.setIfInBounds 1 (Value.ref h1'.objs.size));have x3:=get?_update_self (Obj.mapFields (·.setIfInBounds 1 (Value.ref h1'.objs.size))) x2 (Obj.isFreed_of_fields v3);have y2:(h1'.push ob).get? h1'.objs.size=some ob:=get?_push_size h1' (by rw[←hob];rfl);have y3:((h1'.push ob).update x (Obj.mapFields (·.setIfInBounds 1 (Value.ref h1'.objs.size)))).get? h1'.objs.size=some ob:=(get?_update_other _ _ (Ne.symm yx)).trans y2;unfold setFlight;refine wpAny_bind (wpAny_field x3 v3 (x:=.ref h1'.objs.size) (by simp[h1]) ?_);rw[if_pos (show(Value.ref h1'.objs.size != Value.none)=true from by simp)];have dob:ob.data=.fields ([hd,.ref L,.none,rawInt L,.none]++(if pl.isEmpty then List.replicate 6 Value.none else pl)).toArray:=by rw[←hob]
 have d3 : 3<([hd,.ref L,.none,rawInt L,.none]++(if pl.isEmpty then List.replicate 6 Value.none else pl)).toArray.size:=by simp only[size_toArray,length_append,length_cons,length_nil];omega
 refine wpAny_setField y3 dob d3 (k _ h1'.objs.size (λb o e nb ne=>?_) (λb o e hb=>?_) ?_ (get?_none_of_le (by rw[so.1];exact le_refl _)) ?_)
 ·have e1:h1'.get? b=some o:=(so.2.1 b nb).trans e
  rw[get?_update_other _ _ (ne_of_gt (lt_size e1)),get?_update_other _ _ (Ne.symm ne)];exact get?_push_of_some _ e1
 ·obtain⟨sl,e1⟩:=so.2.2 b o e
  refine⟨sl,?_⟩;rw[get?_update_other _ _ (ne_of_gt (lt_size e1)),get?_update_other _ _ (λz=>nx (by rw[z];exact hb))];exact get?_push_of_some _ e1
 ·refine⟨_,_,(get?_update_other _ _ yx).trans x3,Obj.cls_mapFields _ _,ZJP _ _,v3,by simp[h1]⟩
 ·have v4:=Obj.data_mapFields dob (·.setIfInBounds 3 ((none:Option Addr).elim Value.none λf=>rawInt f))
  exact⟨_,_,get?_update_self _ y3 (Obj.isFreed_of_fields v4),v4,by simp[d3]⟩
theorem ZKd{tb:Value}(hfr:A.frames=some (env::outer))(hl:s.heap.FunFrames base (env::outer))(hf:env.frame=some L)(hx:s.heap.get? x=some ox)(hv:ox.data=.fields vs)(h1:vs[1]? = some tb)
  (ht:tb=.none∨∃z o us,tb=.ref z/\z≠x/\s.heap.get? z=some o/\o.data=.fields us/\us[3]? = some .none)
  (k:∀h' y,Noted ((env::outer).filterMap (·.frame)) s.heap h' x ox tb y->Q () { s with heap:=h' }) :
  wpAny M A (noteFrame (.ref x) env) (λ_ t=>wpAny M A (setFlight (.ref x) none) Q E t) E s:=by
 have z1 : 1<vs.size:=(Array.getElem?_eq_some_iff.mp h1).1;unfold noteFrame;simp only[hf];refine wpAny_bind (wpAny_field hx hv h1 ?_);rcases ht with rfl|⟨z,o,us,rfl,ne,hz,hu,h3⟩
 ·rw[if_neg (by decide)]
  exact ZEm hfr hl hf hx hv z1 λh' y a b c d e=>k h' y ⟨λq o e1 e2 e3 _=>a q o e1 e2 e3,b,c,d,e,λz q=>by cases q⟩
 ·rw[if_pos (show(Value.ref z != Value.none)=true from by simp)]
  refine wpAny_bind (wpAny_field hz hu h3 ?_);rw[if_neg (show ¬((Value.none == rawInt L)=true) from by simp[rawInt])];refine wpAny_bind (wpAny_setField hz hu (Array.getElem?_eq_some_iff.mp h3).1 ?_);have ot:∀b,b≠z->(s.heap.update z (Obj.mapFields (·.setIfInBounds 3 Value.none))).get? b=s.heap.get? b:=λb hb=>get?_update_other _ _ (Ne.symm hb)
  have nf:∀b,b∈(env::outer).filterMap (·.frame)->b≠z:=λb hb q=>by
   obtain⟨_,o',e1,e2⟩:=hl.mem hb;rw[q,hz] at e1;cases e1;exact e2 us hu
  have v4:=Obj.data_mapFields hu (·.setIfInBounds 3 Value.none);have e4:=get?_update_self (Obj.mapFields (·.setIfInBounds 3 Value.none)) hz (Obj.isFreed_of_fields v4);have l4 : 3<us.size:=(Array.getElem?_eq_some_iff.mp h3).1;refine ZEm (s:={ s with heap:=s.heap.update z (Obj.mapFields (·.setIfInBounds 3 Value.none)) }) hfr (hl.of_keeps λb o' hb hn=>⟨o',(ot b λq=>?_).trans hb,rfl⟩) hf ((ot x (Ne.symm ne)).trans hx) hv z1 λh' y a b c d e=>k h' y ⟨λq o' e1 e2 e3 e5=>a q o' ((ot q λw=>e5 (by rw[w])).trans e1) e2 e3,λq o' e1 e2=>b q o' ((ot q (nf q e2)).trans e1) e2,c,?_,e,λz' q=>?_⟩
  ·rw[q,hz] at hb
   cases hb;exact hn us hu
  ·have:y≠z:=λq=>by
    rw[q] at d;have d':(s.heap.update z (Obj.mapFields (·.setIfInBounds 3 Value.none))).get? z=none:=d;rw[e4] at d';cases d'
   exact(ot y this).symm.trans d
  ·cases q
   exact⟨_,_,a z _ e4 (λw=>nf z w rfl) ne,v4,by simp[l4]⟩
end
noncomputable def XO(x C:Addr)(od:Option Addr)(tb:Value):HO:=.ext λh=>∃o us,h.get? x=some o/\o.cls=.ref C/\o.dict=od/\o.data=.fields us/\us[1]? = some tb
noncomputable def TbO(y:Addr):HO:=.ext λh=>∃o us,h.get? y=some o/\o.data=.fields us/\us[3]? = some .none
theorem ZLy{P:Program}{w:World}{H:Hp}{h:Heap}{x C:Addr}{od:Option Addr}{tb:Value}{o:Obj}{us:Array Value}(e:h.get? x=some o)(c:o.cls=.ref C)(d:o.dict=od)(v:o.data=.fields us)(t:us[1]? = some tb):Zq P w H h x (XO x C od tb) :=
 ⟨⟨o,us,e,c,d,v,t⟩,⟨o,e⟩,λh1 h2 ⟨o,us,e,r⟩ k=>⟨o,us,k o e,r⟩⟩
theorem ZMI{P:Program}{w:World}{H:Hp}{h:Heap}{y:Addr}{o:Obj}{us:Array Value}(e:h.get? y=some o)(v:o.data=.fields us)(t:us[3]? = some .none):Zq P w H h y (TbO y) :=
 ⟨⟨o,us,e,v,t⟩,⟨o,e⟩,λh1 h2 ⟨o,us,e,r⟩ k=>⟨o,us,k o e,r⟩⟩
noncomputable def ZLB(H:Hp)(x:Addr)(tb:Value):Prop:=tb=.none∨∃y,tb=.ref y/\y≠x/\H y=some (TbO y)
section
variable{X:Cx}{pins:List (Addr×Obj)}{σ : St}{H:Hp}{s:Shared}{E:Value->Shared->Prop}{Q:Unit->Shared->Prop}{x C:Addr}{od:Option Addr}{tb:Value}{r:List Env}
theorem ZK7{h':Heap}{ox:Obj}{y:Addr}(I:Inv X pins σ H s)(hs:X.stack=X.env::r)(hx:H x=some (XO x C od tb))(ht:ZLB H x tb)(ec:ox.cls=.ref C)(ed:ox.dict=od)(n:Noted ((X.env::r).filterMap (·.frame)) s.heap h' x ox tb y) :
  Inv X pins σ (upd (upd H x (XO x C od (.ref y))) y (TbO y)) { s with heap:=h' }/\y≠x/\H y=none:=by
 have fe:frs X.stack=(X.env::r).filterMap (·.frame):=by rw[hs];rfl
 have hy:H y=none:=by
  cases q:H y with
  |none=>rfl
  |some u =>
   have:=I.hok.lt q;obtain ⟨o,e⟩:=(show ∃ o,s.heap.get? y=some o from by
    cases e:s.heap.get? y with
    |some o=>exact⟨o,rfl⟩
    |none =>
     have z:=I.hok y u q;cases u with
     |lst _=>obtain⟨_,_,_,_,e'⟩:=z;exact⟨_,e.symm.trans e'⟩
     |tup _=>obtain⟨_,_,_,o,e',_⟩:=z;exact⟨_,e.symm.trans e'⟩
     |dK _=>obtain⟨_,_,_,_,o,_,_,e',_⟩:=z;exact⟨_,e.symm.trans e'⟩
     |dT _=>obtain⟨_,_,_,_,o,_,_,e',_⟩:=z;exact⟨_,e.symm.trans e'⟩
     |set _ _=>obtain⟨o,_,_,_,e',_⟩:=z;exact⟨_,e.symm.trans e'⟩
     |ins _ _ _=>obtain⟨_,_,_,e',_⟩:=z;exact⟨_,e.symm.trans e'⟩
     |own _=>obtain⟨_,e'⟩:=z;exact⟨_,e.symm.trans e'⟩
     |xd _=>obtain⟨_,⟨_,_,_,e',_⟩,_⟩:=z;exact⟨_,e.symm.trans e'⟩
     |rng _ _=>obtain⟨_,_,_,e'⟩:=z;exact⟨_,e.symm.trans e'⟩
     |frz _ _=>obtain⟨e',_⟩:=z;exact⟨_,e.symm.trans e'⟩
     |tbl _=>exact⟨_,e.symm.trans (show s.heap.get? y=some _ from z)⟩
     |met _ _=>exact⟨_,e.symm.trans (show s.heap.get? y=some _ from z)⟩
     |ext _=>obtain⟨_,⟨_,e'⟩,_⟩:=z;exact⟨_,e.symm.trans e'⟩)
   rw[n.new] at e;cases e
 have yx:y≠x:=λq=>by rw[q,hx] at hy;cases hy
 have fre:∀b,b∈(X.env::r).filterMap (·.frame)->H b=none:=λb hb=>I.stkFree b (by rw[fe];exact hb)
 have tbn:∀b,tb=.ref b->H b=some (TbO b):=λb q=>by
  rcases ht with e|⟨z,e,_,e2⟩
  ·rw[e] at q;cases q
  ·rw[e] at q;cases q;exact e2
 have hne:∀{b u},H b=some u->b≠y:=λe q=>by rw[q,hy] at e;cases e
 have up:∀{b u},H b=some u->b≠x->upd (upd H x (XO x C od (.ref y))) y (TbO y) b=some u:=λe q=>by rw[ZD (hne e),ZD q];exact e
 have kp:∀b o,s.heap.get? b=some o->b∉(X.env::r).filterMap (·.frame)->b≠x->tb≠.ref b->h'.get? b=some o:=n.keep;have un:Un (frs X.stack) [] H (upd (upd H x (XO x C od (.ref y))) y (TbO y)) s.heap h':=by
  rw[fe];refine⟨λb o e hb nb _=>kp b o e nb (λq=>by rw[q,hx] at hb;cases hb) (λq=>by rw[tbn b q] at hb;cases hb),λb o e hb nb _=>n.slot b o e nb,λb o e hb _=>?_,λb o e _=>?_,λb xs e=>up e (λq=>?_),λb o u e=>up e (λq=>?_),λb ps e=>⟨#[],by rw[Array.append_empty];exact up e (λq=>by rw[q,hx] at e;cases e)⟩⟩
  ·rw[ZD (λq=>by rw[q,n.new] at e;cases e),ZD (λq=>by rw[q,hx] at hb;cases hb)]
   exact hb
  ·by_cases q:b∈(X.env::r).filterMap (·.frame)
   ·obtain⟨sl,e'⟩:=n.slot b o e q;exact⟨_,e'⟩
   ·by_cases q2:b=x
    ·subst q2;obtain⟨o',_,e',_⟩:=n.exc;exact⟨_,e'⟩
    ·by_cases q3:tb=.ref b
     ·obtain⟨o',_,e',_⟩:=n.tbo b q3;exact⟨_,e'⟩
     ·exact⟨_,kp b o e q q2 q3⟩
  ·rw[q,hx] at e;cases e
  ·rw[q,hx] at e;cases e
 have hok:HOk X.prog X.w (upd (upd H x (XO x C od (.ref y))) y (TbO y)) h':=by
  intro a o e
  by_cases q:a=y
  ·subst q
   rw[ZC] at e;cases e;obtain⟨o',us,e1,e2,e3⟩:=n.tbn;exact ZMI e1 e2 e3
  ·rw[ZD q] at e
   by_cases q2:a=x
   ·subst q2
    rw[ZC] at e;cases e;obtain⟨o',us,e1,e2,e3,e4,e5⟩:=n.exc;exact ZLy e1 (e2.trans ec) (e3.trans ed) e4 e5
   ·rw[ZD q2] at e
    by_cases q3:tb=.ref a
    ·rw[tbn a q3] at e
     cases e;obtain⟨o',us,e1,e2,e3⟩:=n.tbo a q3;exact ZMI e1 e2 e3
    ·refine(I.hok a o e).stay (λb u z hb=>?_) (λb z=>up z λq=>?_) (λb xs z=>up z λq=>?_)
     ·rcases z with z|z
      ·subst z
       exact kp b u hb (λq=>by rw[fre b q] at e;cases e) q2 q3
      ·refine kp b u hb (λq=>by rw[fre b q] at z;cases z) (λq=>by rw[q,hx] at z;cases z) λq=>?_
       rw[tbn b q] at z;cases z
     ·rw[q,hx] at z;cases z
     ·rw[q,hx] at z;cases z
 exact⟨I.call' (s':={ s with heap:=h' }) rfl un hok I.bare λb z=>absurd z (by simp),yx,hy⟩
theorem ZB0(I:Inv X pins σ H s)(hx:H x=some (XO x C od tb)):∃o us,s.heap.get? x=some o/\o.cls=.ref C/\o.dict=od/\o.data=.fields us/\us[1]? = some tb:=(show Zq X.prog X.w H s.heap x (XO x C od tb) from I.hok x _ hx).1
theorem ZHV{L:Addr}(I:Inv X pins σ H s)(hs:X.stack=X.env::r)(hf:X.env.frame=some L)(hx:H x=some (XO x C od tb))(ht:ZLB H x tb)
  (k:∀y s',Inv X pins σ (upd (upd H x (XO x C od (.ref y))) y (TbO y)) s'->y≠x->H y=none->Q () s') :
  wpAny (model X.prog X.w) X.A (noteFrame (.ref x) X.env) (λ_ t=>wpAny (model X.prog X.w) X.A (setFlight (.ref x) none) Q E t) E s:=by
 obtain⟨o,us,e1,e2,e3,e4,e5⟩:=ZB0 I hx;refine ZKd (base:=X.base) (outer:=r) (L:=L) (by rw[←hs];exact I.ok.frames) (by rw[←hs];exact I.stack) hf e1 e4 e5 ?_ λh' y n=>?_
 ·rcases ht with q|⟨z,q,n,ez⟩
  ·exact .inl q
  ·obtain⟨⟨o',us',f1,f2,f3⟩,_⟩:=(show Zq X.prog X.w H s.heap z (TbO z) from I.hok z _ ez)
   exact .inr ⟨z,o',us',q,n,f1,f2,f3⟩
 ·obtain⟨J,a,b⟩:=ZK7 I hs hx ht e2 e3 n
  exact k y _ J a b
end
noncomputable def ZC7(x C:Addr)(od:Option Addr)(H H':Hp):Prop:=(∀b o,b≠x->H b=some o->H' b=some o)/\∃y,y≠x/\H' x=some (XO x C od (.ref y))/\H' y=some (TbO y)
noncomputable def CXR(P:Program)(w:World):CXT:=λouter H s E e s'=>∃x C od y H',e=.ref x/\s'.os=s.os/\AllBare s'.gens/\Un (frs outer) [] H H' s.heap s'.heap/\HOk P w H' s'.heap/\(y≠x/\H' x=some (XO x C od (.ref y))/\H' y=some (TbO y)) /\
 ∀H'',ZC7 x C od H' H''->E (.ref x) none H''
theorem ZCk{x C y:Addr}{od:Option Addr}{tb:Value}{H:Hp}(hx:H x=some (XO x C od tb))(yx:y≠x)(hy:H y=none):ZC7 x C od H (upd (upd H x (XO x C od (.ref y))) y (TbO y)) :=
 ⟨λb o nb e=>by rw[ZD (λq=>by rw[q,hy] at e;cases e),ZD nb];exact e,y,yx,by rw[ZD (Ne.symm yx),ZC],ZC⟩
theorem ZC7.trans{x C:Addr}{od:Option Addr}{H H' H'':Hp}(a:ZC7 x C od H H')(b:ZC7 x C od H' H''):ZC7 x C od H H'':=⟨λc o n e=>b.1 c o n (a.1 c o n e),b.2⟩
section
variable{P:Program}{w:World}{K:PySem.W.Frag}{mg:Str->Option Value}{base:Heap}{N:List Str}{qual:Str}{scope:Scope}{f:Addr}{cdv:Value}{A:Around}{outer:List Env}{s0:Shared}{H0:Hp}{E:XK}
theorem ZPK{pins:List (Addr×Obj)}{σ : St}{H:Hp}{s:Shared}{x C:Addr}{od:Option Addr}{tb:Value}(I:Inv (ZCs (CXR P w) P w K mg base N qual scope f cdv A outer s0 H0 E) pins σ H s)(hx:H x=some (XO x C od tb))(ht:ZLB H x tb)
  (hE:∀H'',ZC7 x C od H H''->E (.ref x) none H''):(ZCs (CXR P w) P w K mg base N qual scope f cdv A outer s0 H0 E).xe (.ref x) s:=by
 show wpAny _ _ (leaving _ _) _ _ _;unfold leaving;refine wpAny_bind (ZHV (X:=ZCs (CXR P w) P w K mg base N qual scope f cdv A outer s0 H0 E) I (r:=outer) rfl rfl hx ht λy s' J yx hy=>?_);exact⟨x,C,od,y,_,rfl,J.os,J.bare,J.base,J.hok,⟨yx,by rw[ZD (Ne.symm yx),ZC],ZC⟩,λH'' l=>hE H'' ((ZCk hx yx hy).trans l)⟩
end
theorem ZQP{P:Program}{w:World}{outer:List Env}{H:Hp}{s:Shared}{e:Value}{s':Shared} : ¬CXR P w outer H s E0 e s':=by
 rintro ⟨x,C,od,y,H',_,_,_,_,_,⟨yx,hx,hy⟩,hE⟩
 exact hE H' ⟨λ_ _ _ e=>e,y,yx,hx,hy⟩
noncomputable def bmV:List Value:=[.type "ValueError",.type "Exception",.type "BaseException",.type "object"]
noncomputable def ZDN(K:PySem.W.Frag)(C:Addr):Bool:=match K.lookup C with
 | some ⟨.type t,_,.cls cd,sl⟩=>t == "type" && (match cd.mro,sl.toList with
  |.ref z::bm,[_,_,_,_,some (.builtin n),_]=>(z == C && n == "ValueError.__new__") && (cd.hasDel == false && cd.hasDict == true) && (PySem.W.tailIn K bmV bm && PySem.W.nsOkIn K cd.ns)
  |_,_=>false)
 |_=>false
theorem ZBx{K:PySem.W.Frag}{C:Addr}(e:ZDN K C=true):∃nm q N bs bm sn sub ab col dd k0 k1 k2 k3 k5,K.lookup C=some (excClassObj nm q C N bs bm true sn sub ab col dd k0 k1 k2 k3 k5 "ValueError.__new__")/\PySem.W.tailIn K bmV bm=true:=by
 unfold ZDN at e
 split at e
 ·rename_i t dd cd sl lk
  rw[Bool.and_eq_true] at e;obtain⟨et,e⟩:=e
  split at e
  ·rename_i z bm k0 k1 k2 k3 n k5 hm hs
   simp only[Bool.and_eq_true,beq_iff_eq] at e et;obtain⟨⟨⟨rfl,rfl⟩,hd1,hd2⟩,ht,_⟩:=e;obtain⟨nm,bs,mro,ns,qn,hd,sn,sub,ab,col,del⟩:=cd;dsimp only at hm hd1 hd2;subst hm hd1 hd2 et;have es:sl = #[k0,k1,k2,k3,some (.builtin "ValueError.__new__"),k5]:=by
    obtain⟨l⟩:=sl;simp only at hs;rw[hs]
   subst es;exact⟨nm,qn,ns,bs,bm,sn,sub,ab,col,dd,k0,k1,k2,k3,k5,lk,ht⟩
  ·cases e
 ·cases e
section
variable{prog:Program}{w:World}{A:Around}{E:Value->Shared->Prop}{K:PySem.W.Frag}{C f:Addr}{h:Heap}{g:Array GenState}{d:Drawn}{t:Nat}{os:OsState}
noncomputable abbrev ZJh(rest:List Value):Obj:={ cls:=.type "tuple",data:=.seq rest.toArray }
noncomputable abbrev ZHC(C:Addr)(t:Addr):Obj:={ cls:=.ref C,data:=.fields #[.ref t,.none,.none,.none,.bool false,.none] }
theorem ZIu{M:Model}{env:Env}{s:Shared}{y:Sem Value}{Q:Flow->Shared->Prop}(ex:ZDN K C=true)(hh:A.handled=none)
  (hy:wpAny M A y (λv s₁=>∃x o us,v=.ref x/\K.In s₁.heap/\s₁.heap.get? x=some o/\o.cls=.ref C/\o.data=.fields us/\us[1]? = some .none/\E (.ref x) s₁) E s) :
  wpAny M A (raiseStmt env (some y) none) Q E s:=by
 obtain⟨nm,q,N,bs,bm,sn,sub,ab,col,dd,k0,k1,k2,k3,k5,lk,tl⟩:=ZBx ex;unfold raiseStmt;refine wpAny_bind (wpAny_mono hy (λv s₁ h₁=>?_) λ_ _ x=>x);obtain⟨x,o,us,rfl,X,hx,hc,hd,h1,hE⟩:=h₁;have hC:=X _ _ lk;have hb:(Value.ref C::bm).contains (.type "BaseException")=true:=by rw[contains_cons,(PySem.W.tail_of_in X tl).hasType (b:=true) rfl,Bool.or_true]
 obtain⟨hp,g,d,tk,os⟩:=s₁;obtain⟨oc,od,ok,osl⟩:=o;dsimp only at hc hd;subst hc hd
 repeat (first|with_reducible refine wpAny_loadPart_at hx ?_|with_reducible refine wpAny_loadPart_at hC ?_|(with_reducible refine wpAny_isSubtype_exc hC ?_;rw[hb])|with_reducible refine wpAny_field hx rfl h1 ?_|wp_step)
 exact wpAny_raiseNew_none hh hE
end
end L2
namespace L2
open PySem PySem.Spec PyProof.Rows H1 Builtin Builtin.ObjectAttr
theorem ZHF{K:PySem.W.Frag}{C:Addr}(e:ZDN K C=true):∃cd bm,PySem.W.clsIn K C=some cd/\cd.mro=.ref C::bm/\cd.hasDict=true/\PySem.W.tailIn K bmV bm=true:=by
 obtain⟨nm,q,N,bs,bm,sn,sub,ab,col,dd,k0,k1,k2,k3,k5,lk,tl⟩:=ZBx e;have:∃cd,PySem.W.clsIn K C=some cd/\cd.mro=.ref C::bm/\cd.hasDict=true:=by
  unfold PySem.W.clsIn;rw[lk];exact⟨_,rfl,rfl,rfl⟩
 obtain⟨cd,a,b,c⟩:=this
 exact⟨cd,bm,a,b,c,tl⟩
section
variable{prog:Program}{w:World}{A:Around}{E:Value->Shared->Prop}{K:PySem.W.Frag}{C x:Addr}{o:Obj}{us:Array Value}{s:Shared}{name:Str}{v:Value}
theorem ZN6{M:Model}{h:Heap}(X:K.In h)(ex:ZDN K C=true){T:String}{b:Bool}(hb:bmV.contains (.type T)=b):PySem.W.Looks M h (isSubtype (.ref C) (.type T)) b:=by
 obtain⟨cd,bm,e1,e2,e3,tl⟩:=ZHF ex;refine PySem.W.looks_mroIn X ?_;unfold PySem.W.mroIn;rw[e1,Option.bind_some,e2,if_neg (by simp),contains_cons,(PySem.W.tail_of_in X tl).hasType hb];rfl
end
end L2
namespace L2
open PySem PySem.Spec PyProof.Rows H1
structure XC0 (K:PySem.W.Frag) (mg:Str->Option Value) (nm:Str) (C:Addr):Prop where
 ns:PySem.W.nsIn K mainGlobals nm=some (some (.ref C))
 mg_:mg nm=some (.ref C)
 ex:ZDN K C=true
 ga:PySem.W.findIn K (.ref C) "__getattribute__" = some (some (.builtin "BaseException.__getattribute__"))
 gh:PySem.W.findIn K (.ref C) "__getattr__" = some none
 cc:PySem.W.findIn K (.ref C) "__class__" = some (some (.builtin "object.__class__"))
 cg:PySem.W.specialIn K (.builtin "object.__class__") "__get__" = some (some (.builtin "getset_descriptor.__get__"))
 ct:PySem.W.takesIn K (.builtin "object.__class__")=some true
section
variable{X:Cx}{pins:List (Addr×Obj)}{σ : St}{H:Hp}{s:Shared}
theorem ZHc{H:Hp}{x:Addr}{o:HO}(h:H x=some o):upd H x o=H:=by
 funext b
 unfold upd
 split
 ·rename_i e;rw[e,h]
 ·rfl
end
section
variable{X:Cx}{pos apos np pos' cpos:Pos}{e1 e2 e o value:Expr}{nm:Str}{B C f:Addr}{ta:TA}{tv te:TE}
noncomputable def ZIf(X:Cx)(E:XK):Prop:=∀(pins:List (Addr×Obj)) (σ : St) (H:Hp) (s:Shared) (x C:Addr) (od:Option Addr) (tb:Value),Inv X pins σ H s->H x=some (XO x C od tb)->ZLB H x tb->(∀H'',ZC7 x C od H H''->E (.ref x) none H'')->X.xe (.ref x) s
end
section
variable{X:Cx}{pins:List (Addr×Obj)}{σ : St}{H:Hp}{s:Shared}
theorem ZKM{M:Model}{A:Around}{E:Value->Shared->Prop}{i:Nat}{x:Str}{pos:Pos}{Q:Unit->Shared->Prop}(I:Inv X pins σ H s)(hN:X.N.Nodup)(hi:X.N[i]? = some x)(hk:X.env.scope.names.lookup x=some .local)
  (h:∀s',Inv X pins (σ.set i none) H s'->Q () s'):wpAny M A (do bindName X.env x .none;unbindBehindTheSuite X.env x pos) Q E s:=by
 refine wpAny_bind (wpAny_bindName (Z8 I hN hi (.inl hk) (v:=.non) rfl (λs1 I1=>?_) (.inr hk)));have hiσ : i<σ.length:=by rw[I.len];exact(List.getElem?_eq_some_iff.mp hi).1
 obtain⟨m,hn,hl⟩:=id I1.loc;have hcls:(X.env.scope.kind == .class || (X.env.scope.kind == .module && X.env.locals != X.env.globals))=false:=by rw[I.ok.kind];rfl
 obtain⟨u,ru,lu⟩:=hl i x .non hi (getElem?_set_self hiσ) (.inl hk);have hm:m x=some u:=by
  rcases lu with ⟨_,e⟩|⟨q,_⟩
  ·exact e
  ·rcases q with q|q <;> (have q:X.env.scope.names.lookup x=_:=q;rw[hk] at q;cases q)
 unfold unbindBehindTheSuite;refine wpAny_onRaise (wpAny_unbindName_local hk hn hm hcls λh' w hn' hs=>h _ ?_);have cne:=I1.cne;obtain⟨oL,_,_,hoL,_⟩:=id hn;have ab:=I1.ok.above;refine⟨I1.ok,I1.os,I1.bare,⟨λb o e n hb hx=>?_,λb o e n hb hx=>?_,I1.base.free,λb o e hx=>?_,I1.base.tups,I1.base.frzs,I1.base.tbls⟩,⟨_,hn',λj y v' e1 e2 e3=>?_⟩,λy c e=>?_,I1.free,I1.freeC,λp hp=>?_,λb ob e=>?_,by rw[length_set];exact I.len⟩
 ·exact(hs.2 b (ne_of_lt (lt_of_lt_of_le (lt_size e) ab))).trans (I1.base.keep b o e n hb hx)
 ·obtain⟨sl,e1⟩:=I1.base.slot b o e n hb hx
  exact⟨sl,(hs.2 b (ne_of_lt (lt_of_lt_of_le (lt_size e) ab))).trans e1⟩
 ·obtain⟨o',e1⟩:=I1.base.there b o e hx
  exact⟨o',(hs.2 b (ne_of_lt (lt_of_lt_of_le (lt_size e) ab))).trans e1⟩
 ·by_cases hj:j=i
  ·subst hj
   rw[getElem?_set_self hiσ] at e2;cases e2
  ·rw[getElem?_set_ne (Ne.symm hj)] at e2
   obtain⟨u',r',q⟩:=hl j y v' e1 (by rw[getElem?_set_ne (Ne.symm hj)];exact e2) e3;refine⟨u',r',?_⟩;rcases q with ⟨k,e⟩|⟨k,c,e,z⟩
   ·refine .inl ⟨k,?_⟩
    have:y≠x:=λe=>hj (ZFC hN e1 (e ▸ hi))
    simp[this,e]
   ·exact .inr ⟨k,c,e,z.sameBut hs (cne y c e)⟩
 ·obtain⟨w',z⟩:=I1.cell y c e
  exact⟨w',z.sameBut hs (cne y c e)⟩
 ·obtain⟨e,n,ne,nf,d⟩:=I1.pin p hp
  exact⟨(hs.2 p.1 ne).trans e,n,ne,nf,d⟩
 ·refine(I1.hok b ob e).stay (λc w' hc q=>(hs.2 c ?_).trans q) (λ_ q=>q) λ_ _ q=>q
  rintro rfl
  rcases hc with rfl|hc
  ·rw[I1.free] at e;cases e
  ·rw[I1.free] at hc;cases hc
noncomputable def XP(X:Cx)(pins:List (Addr×Obj))(F:St->XK)(e:Value)(s':Shared):Prop:=∃x C od tb σ' H',e=.ref x/\Inv X pins σ' H' s'/\H' x=some (XO x C od tb)/\ZLB H' x tb/\∀H'',ZC7 x C od H' H''->F σ' (.ref x) none H''
noncomputable abbrev TB:=Ends->(St->XK)->St->Hp->Prop
noncomputable def PB(X:Cx)(st:Stmt)(t:TB):Prop:=∀(pins:List (Addr×Obj)) (s:Shared) (σ : St) (H:Hp) (D:Ends) (F:St->XK),Inv X pins σ H s->t D F σ H->wpAny (model X.prog X.w) X.A (exec st X.env) (SP X pins D) (XP X pins F) s
noncomputable def PBs(X:Cx)(st:List Stmt)(t:TB):Prop:=∀(pins:List (Addr×Obj)) (s:Shared) (σ : St) (H:Hp) (D:Ends) (F:St->XK),Inv X pins σ H s->t D F σ H->wpAny (model X.prog X.w) X.A (execs st X.env) (SP X pins D) (XP X pins F) s
end
section
variable{X:Cx}{pos p:Pos}{st:Stmt}{e:Expr}{es:List Expr}{x:Str}{t u:TB}{ts:TS}{tc:TT}{ta:TA}{f:Addr}{fd:FuncData}{k:Nat}{ps:List Str}{sp0 sp1:Sp}
theorem ZN1(h1:PB X st t):PBs X [st] t:=by
 intro pins s σ H D F I h;refine wpAny_execs_cons (thn (h1 pins s σ H D F I h) λf s1 q=>?_);cases f with
 |next=>exact wpAny_execs_nil q
 |ret v=>exact q
 |brk=>exact q
 |cont=>exact q
theorem ZJD(hx:∀e s,X.xe e s->False)(F0:FnOk X.prog X.w X.K X.mg X.base CX0 k f fd ps sp0)(F1:FnOk X.prog X.w X.K X.mg X.base (CXR X.prog X.w) k f fd ps sp1)(hr:Room k X.A)(hg:Gl X x)(hm:X.mg x=some (.ref f))(hk:PySem.W.keepIn X.K (.ref f)=true)(hb:ZDv X.K fd ps [])
  (ha:PA X (e::es) ta)(hdb:(x == ("__debug__" : Str))=false)(he:starEach (e::es) X.env=(false,eval e X.env)::starEach es X.env)(hpl:(backTo pos (starEach es X.env)).any (·.1)=false)
  {pins:List (Addr×Obj)}{s:Shared}{σ : St}{H:Hp}{Q:VK}{F:St->XK}(I:Inv X pins σ H s)(h:ta σ H λvs H1=>sp0 vs H1 Q E0∨sp1 vs H1 Q (F σ)) :
  wpAny (model X.prog X.w) X.A (eval (.Call (.Name x p) (e::es) [] pos) X.env) (EP X pins σ Q) (XP X pins F) s:=by
 refine wpAny_Call_Name_kw (ZBv I hg hm ?_ hdb);refine PySem.W.callWith_K (h₀:=X.base) I.ok.mod.kin hk (wpAny_mono (ha pos pins s σ H _ I h) (λus s1 ⟨vs,H1,I1,r,q⟩=>⟨I1.kIn,?_⟩) λe s z=>(hx e s z).elim) he hpl;have go:∀{CX:CXT} {sp:Sp} {EE:XK},FnOk X.prog X.w X.K X.mg X.base CX k f fd ps sp->sp vs H1 Q EE->(∀e s',CX X.stack H1 s1 EE e s'->XP X pins F e s')->wpAny (model X.prog X.w) X.A (call (.ref f) us) (EP X pins σ Q) (XP X pins F) s1:=by
  intro CX sp EE FF hs hcx;have hl:(us++[]).length=ps.length:=by rw[append_nil,←r.length];exact FF.len _ _ _ _ hs
  have hbb:=hb s1 us I1.kIn hl;rw[append_nil] at hbb;refine wpAny_call (codeAny_mono (FF.run X.A X.stack s1 H1 ⟨us,[]⟩ us vs Q EE hr I1.env0 hbb r hs) λr s' hq=>?_);cases r with
  |error e=>exact hcx e s' hq
  |ok fl =>
   cases fl with
   |ret u=>exact I1.after hq
   |next=>exact False.elim hq
   |brk=>exact False.elim hq
   |cont=>exact False.elim hq
 rcases q with q|q
 ·exact go F0 q λe s' z=>False.elim z
 ·refine go F1 q ?_
  rintro e s' ⟨x,C,od,y,H',rfl,os,bare,un,hok,⟨yx,hx',hy⟩,hE⟩
  exact⟨x,C,od,.ref y,σ,H',rfl,I1.call' (ch:=[]) os un hok bare λb z=>absurd z (by simp),hx',.inr ⟨y,rfl,yx,hy⟩,hE⟩
theorem ZRI{i:Nat}{y:Str}{pos' py:Pos}(hN:X.N.Nodup)(hi:X.N[i]? = some y)(hy:X.env.scope.names.lookup y=some .local)(hx:∀e s,X.xe e s->False)(F0:FnOk X.prog X.w X.K X.mg X.base CX0 k f fd ps sp0)(F1:FnOk X.prog X.w X.K X.mg X.base (CXR X.prog X.w) k f fd ps sp1)(hr:Room k X.A)(hg:Gl X x)(hm:X.mg x=some (.ref f))(hk:PySem.W.keepIn X.K (.ref f)=true)(hb:ZDv X.K fd ps [])
  (ha:PA X (e::es) ta)(hdb:(x == ("__debug__" : Str))=false:=by decide)(he:starEach (e::es) X.env=(false,eval e X.env)::starEach es X.env:=by rfl)(hpl:(backTo pos (starEach es X.env)).any (·.1)=false:=by rfl)(hs:swapsWith (.Call (.Name x p) (e::es) [] pos) (some (.Name y py)) pos'.line X.env=pure false:=by rfl) :
  PB X (.Assign [.Name y py] (.Call (.Name x p) (e::es) [] pos) pos') (λD F σ H=>ta σ H λvs H1=>sp0 vs H1 (λv H2=>D.nx (σ.set i (some v)) H2) E0∨sp1 vs H1 (λv H2=>D.nx (σ.set i (some v)) H2) (F σ)):=by
 intro pins s σ H D F I h;refine wpAny_Assign_Name (thn (ZJD hx F0 F1 hr hg hm hk hb ha hdb he hpl I h) λv s1 ⟨z,H1,I1,r1,q1⟩=>?_) hs;exact Z8 I1 hN hi (.inl hy) r1 (λs2 I2=>⟨_,H1,I2,q1⟩) (.inr hy)
noncomputable abbrev Cx.caught(X:Cx)(x:Addr):Cx:={ X with A:=X.A.mark (some (.ref x)),calm:=false }
theorem Cx.Ok.caught{X:Cx}(ok:X.Ok)(x:Addr):(X.caught x).Ok :=
 ⟨ok.mod,ok.kind,ok.glob,ok.blt,ok.above,ok.inj,ok.has,ok.cab,(λz=>by cases z),ok.frames,ok.stk,ok.exf,ok.bs,ok.bsz,ok.noex,ok.exfs,ok.funs,ok.frf⟩
theorem Inv.caught{pins:List (Addr×Obj)}{σ : St}{H:Hp}{s:Shared}(I:Inv X pins σ H s)(x:Addr):Inv (X.caught x) pins σ H s:=⟨I.ok.caught x,I.os,I.bare,I.base,I.loc,I.cell,I.free,I.freeC,I.pin,I.hok,I.len⟩
theorem Inv.uncaught{pins pins':List (Addr×Obj)}{σ σ':St}{H H':Hp}{s s':Shared}{x:Addr}(J:Inv X pins' σ' H' s')(I:Inv (X.caught x) pins σ H s):Inv X pins σ H s:=⟨J.ok,I.os,I.bare,I.base,I.loc,I.cell,I.free,I.freeC,I.pin,I.hok,I.len⟩
theorem ZQj{body suite:List Stmt}{b0:Stmt}{cn n:Str}{cnp hpos:Pos}{i:Nat}{r:List Env}{L B:Addr}{tb:TB}{tsu:TS}(hN:X.N.Nodup)(hi:X.N[i]? = some n)(hn:X.env.scope.names.lookup n=some .local)(hx:∀e s,X.xe e s->False)(hs:X.stack=X.env::r)(hf:X.env.frame=some L)(hg:Gl X cn)(hm:X.mg cn=some (.ref B))(hB:ZDN X.K B=true)
  (hb:PBs X body tb)(hsu:∀x,PSs (X.caught x) (b0::suite) tsu)(hdb:(cn == ("__debug__" : Str))=false:=by decide) :
  PS X (.Try body [.ExceptHandler (some (.Name cn cnp)) (some n) (b0::suite) hpos] [] [] pos)
   (λD σ H=>tb { nx:=D.nx,rt:=λ_ _=>False } (λσ' v _ H'=>∃x C od y,v=.ref x/\H' x=some (XO x C od y)/\ZDN X.K C=true/\PySem.W.mroIn X.K C (.ref B)=some true/\tsu { nx:=λσ2 H2=>D.nx (σ2.set i none) H2,rt:=λ_ _=>False } (σ'.set i (some (.ref x))) H') σ H):=by
 intro pins s σ H D I h;refine wpAny_Try_except (wpAny_mono (hb pins s σ H _ _ I h) (λf s1 q=>?_) λe s1 q=>?_)
 ·cases f with
  |next=>exact wpAny_execs_nil q
  |ret v=>obtain⟨_,_,_,_,_,z⟩:=q;exact z.elim
  |brk=>obtain⟨_,_,_,z⟩:=q;exact z.elim
  |cont=>obtain⟨_,_,_,z⟩:=q;exact z.elim
 ·obtain⟨x,C,od,tb',σ1,H1,rfl,I1,hx1,ht1,hE⟩:=q
  refine ZHV I1 hs hf hx1 ht1 λy s2 I2 yx hy=>?_
  obtain⟨x',C',od',y',ev,hx2,exC,sub,q2⟩:=hE _ (ZCk hx1 yx hy);cases ev;have I2c:Inv (X.caught x) pins σ1 _ s2:=I2.caught x;obtain⟨ox,us,g1,g2,g3,g4,g5⟩:=ZB0 I2 hx2;refine wpAny_handleBy_cons (codeAny_handlers_test (ZBv (X:=X.caught x) I2c hg hm ?_ hdb)) (by intro q;cases q);obtain⟨nm,q,N,bs,bm,sn,subb,ab,col,dd,k0,k1,k2,k3,k5,lk,tl⟩:=ZBx hB;have KB:=I2.kIn;have hBo:=KB _ _ lk;have hcB:(Value.ref B::bm).contains (.type "BaseException")=true:=by rw[contains_cons,(PySem.W.tail_of_in KB tl).hasType (b:=true) rfl,Bool.or_true]
  have LS:PySem.W.Looks (model X.prog X.w) s2.heap (isSubtype (.ref C') (.ref B)) true:=PySem.W.looks_mroIn KB sub;obtain⟨hp,gg,d,tk,os⟩:=s2;have f1:=tc_notTuple;unfold excMatches
  repeat (first|(with_reducible refine wpAny_loadPart_at g1 ?_;rw[g2])|with_reducible refine wpAny_loadPart_at hBo ?_|(with_reducible refine wpAny_isSubtype_exc hBo ?_;rw[hcB])|with_reducible refine LS.at ?_|wp_step)
  refine codeAny_handlers_suite_as ?_;have hx3:upd (upd H1 x (XO x C od (.ref y))) y (TbO y) x=some (XO x C od (.ref y)):=by rw[ZD (Ne.symm yx),ZC]
  obtain⟨oz,uz,z1,z2,z3,z4,z5⟩:=ZB0 I2 hx3;obtain⟨⟨oy,uy,y1,y2,y3⟩,_⟩:=(show Zq X.prog X.w (upd (upd H1 x (XO x C od (.ref y))) y (TbO y)) hp y (TbO y) from I2.hok y _ ZC);have l3 : 3<uy.size:=(Array.getElem?_eq_some_iff.mp y3).1;unfold setFlight;refine wpAny_bind (wpAny_field z1 z4 z5 ?_);rw[if_pos (show(Value.ref y != Value.none)=true from by simp)];refine wpAny_setField y1 y2 l3 ?_;have v4:=Obj.data_mapFields y2 (·.setIfInBounds 3 ((none:Option Addr).elim Value.none λf=>rawInt f));have e4:=get?_update_self (Obj.mapFields (·.setIfInBounds 3 ((none:Option Addr).elim Value.none λf=>rawInt f))) y1 (Obj.isFreed_of_fields v4);have J:=I2.write (x:=y) (e:=y) (o:=TbO y) (t':=tk) (h':=hp.update y (Obj.mapFields (·.setIfInBounds 3 ((none:Option Addr).elim Value.none λf=>rawInt f)))) (by rw[ZC];exact True.intro) (.inl rfl)
   (λb u nb e=>(get?_update_other _ _ (Ne.symm nb)).trans e) ⟨_,e4⟩ (ZMI e4 v4 (by simp[l3]))
  rw[ZHc ZC] at J;refine Z8 J hN hi (.inl hn) (v:=.ref x) rfl (λs4 I4=>?_) (.inr hn);refine wpAny_mono (hsu x pins s4 _ _ _ (I4.caught x) q2) (λf s5 q=>?_) λe s z=>(hx e s z).elim
  cases f with
  |next =>
   obtain⟨σ',H',I5,q5⟩:=q;exact ZKM (I4.uncaught I5) hN hi hn λs6 I6=>⟨_,_,I6,q5⟩
  |ret v=>obtain⟨_,_,_,_,_,z⟩:=q;exact z.elim
  |brk=>obtain⟨_,_,_,z⟩:=q;exact z.elim
  |cont=>obtain⟨_,_,_,z⟩:=q;exact z.elim
end
end L2
namespace L2
open PySem PySem.Spec PyProof.Rows H1 Builtin Builtin.ObjectAttr
section
variable{prog:Program}{w:World}{A:Around}{E:Value->Shared->Prop}{K:PySem.W.Frag}{mg:Str->Option Value}{C x f:Addr}{o:Obj}{us:Array Value}{s:Shared}{nm name:Str}{v:Value}
noncomputable def XAt(C x:Addr)(h:Heap):Prop:=∃o od us,PySem.W.InstAt h x o C od/\o.data=.fields us
theorem ZP5{Q:Option Value->Shared->Prop}(xc:XC0 K mg nm C)(X:K.In s.heap)(J:XAt C x s.heap)(h:Q (some (.ref C)) { s with toks:=s.toks+1 }):wpAny (model prog w) A (getAttr? (.ref x) "__class__") Q E s:=by
 obtain⟨o,od,us,J,hv⟩:=J;obtain⟨cd,bm,e1,e2,e3,tl⟩:=ZHF xc.ex;have FB:=PySem.F.attr_ValueError;have sub:PySem.W.Looks (model prog w) s.heap (isInstance (.ref x) (.type "BaseException")) true:=J.type.andThen (ZN6 X xc.ex rfl);have hf:PySem.W.findObj K C od "__class__" = some (.bind (.builtin "getset_descriptor.__get__") (.builtin "object.__class__")):=by
  unfold PySem.W.findObj;rw[e1,Option.bind_some,xc.cc,Option.bind_some];dsimp only;rw[xc.cg,Option.bind_some];dsimp only;rw[xc.ct,Option.bind_some]
 have x1:(onTheHeap (Value.ref C) && Value.builtin "BaseException.__getattribute__" == Value.builtin "object.__getattribute__")=false:=by
  rw[show(Value.builtin "BaseException.__getattribute__" == Value.builtin "object.__getattribute__")=false from by decide +kernel];rfl
 have hm:PySem.W.mroIn K C (.type "object")=some true:=by
  unfold PySem.W.mroIn;rw[e1,Option.bind_some,e2,if_neg (by simp),contains_cons,(PySem.W.tail_of_in X tl).hasType (X:="object") (b:=true) rfl];rfl
 have L1:=PySem.W.looks_findIn (M:=model prog w) X xc.ga;have L2:=PySem.W.looks_findIn (M:=model prog w) X xc.gh;have L3:=PySem.W.looks_find (M:=model prog w) X J hf;obtain⟨hp,g,d,t,os⟩:=s;unfold getAttr? getAttrBy? getAttrBy;refine wpAny_bind (wpAny_mkText (wpAny_bind (wpAny_attempt (wpAny_holding (wpAny_bind (J.type.at (wpAny_bind (L1.at ?_))))))));dsimp only;rw[x1,if_neg Bool.false_ne_true];unfold getAttrByItsOwn hookBefore;rw[if_pos (show onTheHeap (Value.ref C)=true from rfl)];refine wpAny_bind (L2.at ?_);unfold callGetattribute;rw[show(false && onTheHeap (Value.builtin "BaseException.__getattribute__"))=false from rfl,if_neg Bool.false_ne_true];unfold boundAndCalled;refine wpAny_bind (wpAny_attempt (wpAny_holding (wpAny_bind (wpAny_of_eq (FB.ga.bind (.ref x)) ?_))));refine wpAny_call (codeAny_call_builtin FB.ga.plain PySem.F.entry_bexc_ga (@PySem.W.check_slot (model prog w) _ _ _ "BaseException.__getattribute__" "BaseException" "__getattribute__" (.ref x) [.str "__class__" t] [] _ (by decide +kernel) (by decide +kernel) sub (PySem.F.args_bexc_ga (.ref x) (.str "__class__" t)) ?_));unfold Builtin.«object.__getattribute__»;refine wpAny_bind (wpAny_pure (wpAny_bind (wpAny_pure (wpAny_bind (J.type.at (wpAny_bind (L3.at ?_)))))));show wpAny _ _ (bindTo _ _ _ _) _ _ _;unfold bindTo;dsimp only;refine wpAny_bind (wpAny_holding (wpAny_call (PySem.W.class_get (s:=⟨hp,g,d,t+1,os⟩) X J hm ?_)));refine wpAny_pure ?_;exact PySem.W.handed_on rfl (wpAny_pure h)
theorem ZQp(xc:XC0 K mg nm C):PySem.W.KitX K (.ref x) (.ref C) (XAt C x) where
 ty:=λ_ _ _ J=>by obtain⟨o,od,us,J,_⟩:=J;exact J.type
 it:=λ_ _ X _=>by
  obtain⟨nm',q',N,bs,bm,sn,sub,ab,col,dd,k0,k1,k2,k3,k5,lk,tl⟩:=ZBx xc.ex;intro A' Q' E' s' k q;unfold isType loadHead;exact wpAny_bind (wpAny_loadPart (k _ _ (X _ _ lk)) (wpAny_pure q))
 ne:=λh tp dd its n sl X htp=>by
  obtain⟨nm',q',N,bs,bm,sn,sub,ab,col,dd,k0,k1,k2,k3,k5,lk,tl⟩:=ZBx xc.ex;refine Bool.eq_false_iff.mpr λq=>?_
  have e:C=tp:=Value.ref.inj (beq_iff_eq.mp q);subst e;have z:=congrArg (λo=>o.map Obj.cls) ((X _ _ lk).symm.trans htp);simp[excClassObj] at z
 ca:=λX J k=>ZP5 xc X J k
end
section
variable{X:Cx}{pos p np pos' np2 tp:Pos}{e:Expr}{te:TE}{nm y y2:Str}{C f D D2:Addr}
theorem XO.at_{pins:List (Addr×Obj)}{σ : St}{H:Hp}{s:Shared}{x:Addr}{od:Option Addr}{tb:Value}{fs:List (Str×V)}(I:Inv X pins σ H s)(hx:H x=some (XO x C od tb))(hd:∀dx,od=some dx->H dx=some (.xd fs)):XAt C x s.heap:=by
 obtain⟨o,us,e1,e2,e3,e4,e5⟩:=ZB0 I hx;cases od with
 |none=>exact⟨o,none,us,⟨e1,e2,by unfold PySem.W.notCls;rw[e4],by rw[e3];trivial⟩,e4⟩
 |some dx =>
  obtain⟨mA,⟨od,_,_,k1,_⟩,_⟩:=(show Zq X.prog X.w H s.heap dx (.xd fs) from I.hok dx _ (hd dx rfl));exact⟨o,some od,us,⟨e1,e2,by unfold PySem.W.notCls;rw[e4],by rw[e3];exact k1⟩,e4⟩
noncomputable def ZIB(H:Hp)(v:V)(C:Addr)(t:Option Int):Prop:=∃x od tb,v=.ref x/\H x=some (XO x C od tb)/\match t with|none=>od=none|some n=>∃dx,od=some dx/\H dx=some (.xd [("turn",.int n)])
theorem ZIB.at_{pins:List (Addr×Obj)}{σ : St}{H:Hp}{s:Shared}{v:V}{t:Option Int}(I:Inv X pins σ H s)(h:ZIB H v C t):∃x,v=.ref x/\XAt C x s.heap:=by
 obtain⟨x,od,tb,rfl,hx,ht⟩:=h;refine⟨x,rfl,XO.at_ (fs:=match t with|none=>[]|some n=>[("turn",.int n)]) I hx λdx e=>?_⟩;cases t with
 |none=>rw[show od=none from ht] at e;cases e
 |some n =>
  obtain⟨dx',e1,e2⟩:=ht;rw[e1] at e;cases e;exact e2
theorem ZO1{b:Bool}{t:Option Int}{T:String}(xc:XC0 X.K X.mg nm C)(hm:X.mg y=none)(hy:bootBuiltins y=some (.type T))(hk:PySem.W.kitOne X.K (.ref C) (.type T)=some b)(hgi:Gl X "isinstance")(hmi:X.mg "isinstance" = none)(hg:Gl X y)(he:PE X e te)(hdb:(y == ("__debug__" : Str))=false:=by decide)(hyn:y≠"__name__":=by decide)
  (hs:starEach [e,.Name y np] X.env=(false,eval e X.env)::starEach [.Name y np] X.env:=by rfl)(hs2:starEach [.Name y np] X.env=(false,eval (.Name y np) X.env)::starEach [] X.env:=by rfl)(hpl:(backTo pos (starEach [.Name y np] X.env)).any (·.1)=false:=by rfl) :
  PE X (.Call (.Name "isinstance" p) [e,.Name y np] [] pos) (λσ H Q=>te σ H λv H1=>ZIB H1 v C t/\Q (.bl b) H1):=by
 intro pins s σ H Q I h;refine wpAny_Call_Name_kw (ZAv I hgi hmi (by rfl) ?_);refine PyProof.Rows.callWith_builtin1 (spliced_more (thn (he pins s σ H _ I h) λv s1 ⟨z,H1,I1,r1,hz,q1⟩=>spliced_more (ZAv I1 hg hm hy ?_ hyn hdb) hs2) hs) hs hpl;refine spliced_none ?_;obtain⟨x,rfl,hx⟩:=hz.at_ I1;obtain rfl:v=Value.ref x:=r1;exact PySem.W.kia_one (ZQp xc) I1.kIn hx hk (λz=>nomatch z) λtk=>⟨.bl _,H1,I1.tok tk,rfl,q1⟩
theorem ZJ6(hm:X.mg y=some (.ref D))(hg:Gl X y)(hdb:(y == ("__debug__" : Str))=false:=by decide):PE X (.Name y np) (λ_ H Q=>Q (.ref D) H):=λpins s σ H Q I h=>ZBv I hg hm ⟨.ref D,H,I,rfl,h⟩ hdb
theorem ZOU{a2:Expr}{ta:TA}{b:Bool}{t:Option Int}(xc:XC0 X.K X.mg nm C)(hk:PySem.W.kitAny X.K (.ref C) [.ref D,.ref D2]=some b)(hgi:Gl X "isinstance")(hmi:X.mg "isinstance" = none)(ha:PA X [e,a2] ta)
  (hs:starEach [e,a2] X.env=(false,eval e X.env)::starEach [a2] X.env:=by rfl)(hpl:(backTo pos (starEach [a2] X.env)).any (·.1)=false:=by rfl) :
  PE X (.Call (.Name "isinstance" p) [e,a2] [] pos) (λσ H Q=>ta σ H λvs H1=>∃v p,vs=[v,.ref p]/\ZIB H1 v C t/\H1 p=some (.tup [.ref D,.ref D2])/\Q (.bl b) H1):=by
 intro pins s σ H Q I h;refine wpAny_Call_Name_kw (ZAv I hgi hmi (by rfl) ?_);refine PyProof.Rows.callWith_builtin1 (thn (ha pos pins s σ H _ I h) λus s1 ⟨vs,H1,I1,r1,v,q,ev,hz,hq,q1⟩=>?_) hs hpl;subst ev;obtain⟨u,w',rfl,ru,rw'⟩:=ZJ0 r1;obtain rfl:w'=Value.ref q:=rw';obtain⟨x,rfl,hx⟩:=hz.at_ I1;obtain rfl:u=Value.ref x:=ru;obtain⟨its,rv,⟨o,k1,k2,n,k3⟩,_⟩:=I1.tuple (SqT.of hq);obtain⟨w1,w2,rfl,rw1,rw2⟩:=ZJ0 rv;obtain rfl:w1=Value.ref D:=rw1;obtain rfl:w2=Value.ref D2:=rw2;obtain⟨oc,od,ok,osl⟩:=o;dsimp only at k2 k3;subst k2 k3;exact PySem.W.kia_tup (ZQp xc) I1.kIn hx k1 hk (λz=>nomatch z) λtk=>⟨.bl _,H1,I1.tok tk,rfl,q1⟩
end
end L2
namespace L2
open PySem PySem.Spec PyProof.Rows H1
noncomputable def TbG(y:Addr)(v:Value):HO:=.ext λh=>∃o us,h.get? y=some o/\o.data=.fields us/\us[3]? = some v
theorem ZMX{P:Program}{w:World}{H:Hp}{h:Heap}{y:Addr}{v:Value}{o:Obj}{us:Array Value}(e:h.get? y=some o)(d:o.data=.fields us)(t:us[3]? = some v):Zq P w H h y (TbG y v) :=
 ⟨⟨o,us,e,d,t⟩,⟨o,e⟩,λh1 h2 ⟨o,us,e,r⟩ k=>⟨o,us,k o e,r⟩⟩
theorem ZIM{e:Value}{a b:Env}(h:a.frame=b.frame):noteFrame e a=noteFrame e b:=by
 unfold noteFrame PySem.frameOf;rw[h]
structure NotedF (fr:List Addr) (h h':Heap) (x:Addr) (ox:Obj) (y:Addr) (v:Value):Prop where
 keep:∀b o,h.get? b=some o->b∉fr->b≠x->h'.get? b=some o
 slot:∀b o,h.get? b=some o->b∈fr->∃sl,h'.get? b=some { o with slots:=sl }
 exc:∃o us,h'.get? x=some o/\o.cls=ox.cls/\o.dict=ox.dict/\o.data=.fields us/\us[1]? = some (.ref y)
 new:h.get? y=none
 tbn:∃o us,h'.get? y=some o/\o.data=.fields us/\us[3]? = some v
section
variable{M:Model}{A:Around}{E:Value->Shared->Prop}{s:Shared}{base:Heap}{env:Env}{outer:List Env}{L x:Addr}{ox:Obj}{vs:Array Value}{Q:Unit->Shared->Prop}
theorem ZF8{hd:Value}{nx:Bool}(hfr:A.frames=some (env::outer))(hl:s.heap.FunFrames base (env::outer))(hf:env.frame=some L)(hx:s.heap.get? x=some ox)(hv:ox.data=.fields vs)(h1 : 1<vs.size)
  (k:∀h' y,NotedF ((env::outer).filterMap (·.frame)) s.heap h' x ox y (rawInt L)->Q () { s with heap:=h' }) :
  wpAny M A (do
   let p ←PySem.frameOf env
   let q ←entryPlaceOf L nx
   let r ←EntryCells.newEntry hd p .none (rawInt L) .none q
   setField (.ref x) 1 r) Q E s:=by
 have nx:x∉(env::outer).filterMap (·.frame):=λz=>by
  obtain⟨_,o,e1,e2⟩:=hl.mem z;rw[hx] at e1;cases e1;exact e2 vs hv
 refine wpAny_bind (wpAny_frameOf_fun hfr hl hf λh1' so=>?_);refine wpAny_bind (wpAny_entryPlaceOf λpl hp=>?_);unfold EntryCells.newEntry newFields;refine wpAny_bind (wpAny_newObj_type ?_ (hp.sizeOk5 _ _ _ _ _))
 generalize hob:({ cls:=.type "traceback",dict:=none,data:=.fields ([hd,.ref L,.none,rawInt L,.none]++(if pl.isEmpty then List.replicate 6 Value.none else pl)).toArray }:Obj)=ob
 have x1:h1'.get? x=some ox:=(so.2.1 x nx).trans hx;have x2:(h1'.push ob).get? x=some ox:=get?_push_of_some ob x1;refine wpAny_setField x2 hv h1 ?_;have yx:h1'.objs.size≠x:=ne_of_gt (lt_size x1);have v3:=Obj.data_mapFields hv (·.setIfInBounds 1 (Value.ref h1'.objs.size));have x3:=get?_update_self (Obj.mapFields (·.setIfInBounds 1 (Value.ref h1'.objs.size))) x2 (Obj.isFreed_of_fields v3);have y2:(h1'.push ob).get? h1'.objs.size=some ob:=get?_push_size h1' (by rw[←hob];rfl);have y3:((h1'.push ob).update x (Obj.mapFields (·.setIfInBounds 1 (Value.ref h1'.objs.size)))).get? h1'.objs.size=some ob:=(get?_update_other _ _ (Ne.symm yx)).trans y2;have dob:ob.data=.fields ([hd,.ref L,.none,rawInt L,.none]++(if pl.isEmpty then List.replicate 6 Value.none else pl)).toArray:=by rw[←hob]
 refine k _ h1'.objs.size ⟨λb o e nb ne=>?_,λb o e hb=>?_,?_,get?_none_of_le (by rw[so.1];exact le_refl _),?_⟩
 ·have e1:h1'.get? b=some o:=(so.2.1 b nb).trans e
  rw[get?_update_other _ _ (Ne.symm ne)];exact get?_push_of_some _ e1
 ·obtain⟨sl,e1⟩:=so.2.2 b o e
  refine⟨sl,?_⟩;rw[get?_update_other _ _ (λz=>nx (by rw[z];exact hb))];exact get?_push_of_some _ e1
 ·refine⟨_,_,x3,Obj.cls_mapFields _ _,ZJP _ _,v3,by simp[h1]⟩
 ·exact⟨_,_,y3,dob,by simp⟩
end
section
variable{X:Cx}{pins:List (Addr×Obj)}{σ : St}{H:Hp}{s:Shared}{E:Value->Shared->Prop}{Q:Unit->Shared->Prop}{x C y:Addr}{od:Option Addr}{tb v:Value}{r:List Env}{e0:Env}{L:Addr}
theorem ZEf{h':Heap}{ox:Obj}(I:Inv X pins σ H s)(hs:X.stack=e0::r)(hx:H x=some (XO x C od tb))(ec:ox.cls=.ref C)(ed:ox.dict=od)(n:NotedF ((e0::r).filterMap (·.frame)) s.heap h' x ox y v) :
  Inv X pins σ (upd (upd H x (XO x C od (.ref y))) y (TbG y v)) { s with heap:=h' }/\y≠x/\H y=none:=by
 have fe:frs X.stack=(e0::r).filterMap (·.frame):=by rw[hs];rfl
 have hy:H y=none:=by
  cases q:H y with
  |none=>rfl
  |some u =>
   have:=I.hok.lt q;obtain ⟨o,e⟩:=(show ∃ o,s.heap.get? y=some o from by
    cases e:s.heap.get? y with
    |some o=>exact⟨o,rfl⟩
    |none =>
     have z:=I.hok y u q;cases u with
     |lst _=>obtain⟨_,_,_,_,e'⟩:=z;exact⟨_,e.symm.trans e'⟩
     |tup _=>obtain⟨_,_,_,o,e',_⟩:=z;exact⟨_,e.symm.trans e'⟩
     |dK _=>obtain⟨_,_,_,_,o,_,_,e',_⟩:=z;exact⟨_,e.symm.trans e'⟩
     |dT _=>obtain⟨_,_,_,_,o,_,_,e',_⟩:=z;exact⟨_,e.symm.trans e'⟩
     |set _ _=>obtain⟨o,_,_,_,e',_⟩:=z;exact⟨_,e.symm.trans e'⟩
     |ins _ _ _=>obtain⟨_,_,_,e',_⟩:=z;exact⟨_,e.symm.trans e'⟩
     |own _=>obtain⟨_,e'⟩:=z;exact⟨_,e.symm.trans e'⟩
     |xd _=>obtain⟨_,⟨_,_,_,e',_⟩,_⟩:=z;exact⟨_,e.symm.trans e'⟩
     |rng _ _=>obtain⟨_,_,_,e'⟩:=z;exact⟨_,e.symm.trans e'⟩
     |frz _ _=>obtain⟨e',_⟩:=z;exact⟨_,e.symm.trans e'⟩
     |tbl _=>exact⟨_,e.symm.trans (show s.heap.get? y=some _ from z)⟩
     |met _ _=>exact⟨_,e.symm.trans (show s.heap.get? y=some _ from z)⟩
     |ext _=>obtain⟨_,⟨_,e'⟩,_⟩:=z;exact⟨_,e.symm.trans e'⟩)
   rw[n.new] at e;cases e
 have yx:y≠x:=λq=>by rw[q,hx] at hy;cases hy
 have fre:∀b,b∈(e0::r).filterMap (·.frame)->H b=none:=λb hb=>I.stkFree b (by rw[fe];exact hb)
 have hne:∀{b u},H b=some u->b≠y:=λe q=>by rw[q,hy] at e;cases e
 have up:∀{b u},H b=some u->b≠x->upd (upd H x (XO x C od (.ref y))) y (TbG y v) b=some u:=λe q=>by rw[ZD (hne e),ZD q];exact e
 have kp:∀b o,s.heap.get? b=some o->b∉(e0::r).filterMap (·.frame)->b≠x->h'.get? b=some o:=n.keep;have un:Un (frs X.stack) [] H (upd (upd H x (XO x C od (.ref y))) y (TbG y v)) s.heap h':=by
  rw[fe];refine⟨λb o e hb nb _=>kp b o e nb (λq=>by rw[q,hx] at hb;cases hb),λb o e hb nb _=>n.slot b o e nb,λb o e hb _=>?_,λb o e _=>?_,λb xs e=>up e (λq=>?_),λb o u e=>up e (λq=>?_),λb ps e=>⟨#[],by rw[Array.append_empty];exact up e (λq=>by rw[q,hx] at e;cases e)⟩⟩
  ·rw[ZD (λq=>by rw[q,n.new] at e;cases e),ZD (λq=>by rw[q,hx] at hb;cases hb)]
   exact hb
  ·by_cases q:b∈(e0::r).filterMap (·.frame)
   ·obtain⟨sl,e'⟩:=n.slot b o e q;exact⟨_,e'⟩
   ·by_cases q2:b=x
    ·subst q2;obtain⟨o',_,e',_⟩:=n.exc;exact⟨_,e'⟩
    ·exact⟨_,kp b o e q q2⟩
  ·rw[q,hx] at e;cases e
  ·rw[q,hx] at e;cases e
 have hok:HOk X.prog X.w (upd (upd H x (XO x C od (.ref y))) y (TbG y v)) h':=by
  intro a o e
  by_cases q:a=y
  ·subst q
   rw[ZC] at e;cases e;obtain⟨o',us,e1,e2,e3⟩:=n.tbn;exact ZMX e1 e2 e3
  ·rw[ZD q] at e
   by_cases q2:a=x
   ·subst q2
    rw[ZC] at e;cases e;obtain⟨o',us,e1,e2,e3,e4,e5⟩:=n.exc;exact ZLy e1 (e2.trans ec) (e3.trans ed) e4 e5
   ·rw[ZD q2] at e
    refine(I.hok a o e).stay (λb u z hb=>?_) (λb z=>up z λq=>?_) (λb xs z=>up z λq=>?_)
    ·rcases z with z|z
     ·subst z
      exact kp b u hb (λq=>by rw[fre b q] at e;cases e) q2
     ·refine kp b u hb (λq=>by rw[fre b q] at z;cases z) (λq=>by rw[q,hx] at z;cases z)
    ·rw[q,hx] at z;cases z
    ·rw[q,hx] at z;cases z
 exact⟨I.call' (s':={ s with heap:=h' }) rfl un hok I.bare λb z=>absurd z (by simp),yx,hy⟩
theorem ZGM(I:Inv X pins σ H s)(hy:H y=some (TbG y v)):∃o us,s.heap.get? y=some o/\o.data=.fields us/\us[3]? = some v:=(show Zq X.prog X.w H s.heap y (TbG y v) from I.hok y _ hy).1
theorem ZEQ{fr:Value}(I:Inv X pins σ H s)(hy:H y=some (TbG y v))(k:∀s',Inv X pins σ (upd H y (TbG y fr)) s'->Q () s'):wpAny (model X.prog X.w) X.A (setField (.ref y) 3 fr) Q E s:=by
 obtain ⟨oy,uy,y1,y2,y3⟩:=ZGM I hy;have l3 : 3 < uy.size:=(Array.getElem?_eq_some_iff.mp y3).1;refine wpAny_setField y1 y2 l3 ?_;have v4:=Obj.data_mapFields y2 (·.setIfInBounds 3 fr);have e4:=get?_update_self (Obj.mapFields (·.setIfInBounds 3 fr)) y1 (Obj.isFreed_of_fields v4);exact k _ (I.write (x:=y) (e:=y) (o:=TbG y fr) (t':=s.toks) (h':=s.heap.update y (Obj.mapFields (·.setIfInBounds 3 fr))) (by rw [hy]; exact True.intro) (.inl rfl)
  (λb u nb e=>(get?_update_other _ _ (Ne.symm nb)).trans e) ⟨_,e4⟩ (ZMX e4 v4 (by simp[l3])))
theorem ZBQ{fr:Option Addr}(I:Inv X pins σ H s)(hx:H x=some (XO x C od (.ref y)))(hy:H y=some (TbG y v))(k:∀s',Inv X pins σ (upd H y (TbG y (fr.elim .none λf=>rawInt f))) s'->Q () s'):wpAny (model X.prog X.w) X.A (setFlight (.ref x) fr) Q E s:=by
 obtain⟨o,us,e1,e2,e3,e4,e5⟩:=ZB0 I hx;unfold setFlight;refine wpAny_bind (wpAny_field e1 e4 e5 ?_);rw[if_pos (show(Value.ref y != Value.none)=true from by simp)];exact ZEQ I hy k
theorem ZJ5{env:Env}(I:Inv X pins σ H s)(hs:X.stack=e0::r)(he:env.frame=e0.frame)(hf:e0.frame=some L)(hx:H x=some (XO x C od tb))(ht:tb=.none∨∃y v,tb=.ref y/\y≠x/\H y=some (TbG y v)/\(v == rawInt L)=false)
  (k:∀y s' H',(H'=H∨∃z,tb=.ref z/\H'=upd H z (TbG z .none))->Inv X pins σ (upd (upd H' x (XO x C od (.ref y))) y (TbG y (rawInt L))) s'->y≠x->H' y=none->Q () s') :
  wpAny (model X.prog X.w) X.A (noteFrame (.ref x) env) Q E s:=by
 rw[ZIM he];obtain⟨o,us,e1,e2,e3,e4,e5⟩:=ZB0 I hx;unfold noteFrame;simp only[hf];refine wpAny_bind (wpAny_field e1 e4 e5 ?_);rcases ht with rfl|⟨z,v,rfl,ne,hz,hv⟩
 ·rw[if_neg (by decide)]
  refine ZF8 (base:=X.base) (outer:=r) (by rw[←hs];exact I.ok.frames) (by rw[←hs];exact I.stack) hf e1 e4 (Array.getElem?_eq_some_iff.mp e5).1 λh' y n=>?_
  obtain⟨J,a,b⟩:=ZEf I hs hx e2 e3 n;exact k y _ H (.inl rfl) J a b
 ·rw[if_pos (show(Value.ref z != Value.none)=true from by simp)]
  obtain⟨o',us',f1,f2,f3⟩:=ZGM I hz;refine wpAny_bind (wpAny_field f1 f2 f3 ?_);rw[if_neg (by rw[hv];decide)];refine wpAny_bind (ZEQ I hz λs1 I1=>?_);have hx1:upd H z (TbG z .none) x=some (XO x C od (.ref z)):=by rw[ZD (Ne.symm ne)];exact hx
  obtain⟨o,us,e1,e2,e3,e4,e5⟩:=ZB0 I1 hx1;refine ZF8 (base:=X.base) (outer:=r) (by rw[←hs];exact I1.ok.frames) (by rw[←hs];exact I1.stack) hf e1 e4 (Array.getElem?_eq_some_iff.mp e5).1 λh' y n=>?_
  obtain⟨J,a,b⟩:=ZEf I1 hs hx1 e2 e3 n;exact k y _ _ (.inr ⟨z,rfl,rfl⟩) J a b
end
section
variable{X:Cx}{E:XK}{x C y:Addr}{od:Option Addr}{tb v:Value}
noncomputable def ZD9(X:Cx)(E:XK):Prop:=∀(pins:List (Addr×Obj)) (σ : St) (H:Hp) (s:Shared) (x C y:Addr) (od:Option Addr) (tb v:Value),Inv X pins σ (upd (upd H x (XO x C od (.ref y))) y (TbG y v)) s->H x=some (XO x C od tb)->y≠x->H y=none->(∀H'',ZC7 x C od H H''->E (.ref x) none H'')->X.xe (.ref x) s
theorem ZIh{α : Type}{what:String}{pins:List (Addr×Obj)}{σ : St}{H:Hp}{s:Shared}{cenv:Env}{Q : α->Shared->Prop}(LG:ZD9 X E)(I:Inv X pins σ (upd (upd H x (XO x C od (.ref y))) y (TbG y v)) s)(hx:H x=some (XO x C od tb))(yx:y≠x)(hy:H y=none)
  (hE:∀H'',ZC7 x C od H H''->E (.ref x) none H''):wpAny (model X.prog X.w) X.A (PySem.passOn what (.ref x) cenv:Sem α) Q X.xe s:=by
 have hx1:upd (upd H x (XO x C od (.ref y))) y (TbG y v) x=some (XO x C od (.ref y)):=by rw[ZD (Ne.symm yx),ZC]
 obtain⟨o,us,e1,e2,e3,e4,e5⟩:=ZB0 I hx1;unfold PySem.passOn;refine wpAny_bind (wpAny_field e1 e4 e5 ?_);rw[if_neg (show ¬(Value.ref y == Value.none)=true from by simp)];refine wpAny_bind (ZBQ I hx1 ZC λs' J=>?_);rw[ZD8] at J;exact wpAny_throw (LG pins σ H s' x C y od tb _ J hx yx hy hE)
end
section
variable{P:Program}{w:World}{K:PySem.W.Frag}{mg:Str->Option Value}{base:Heap}{N:List Str}{qual:Str}{scope:Scope}{f:Addr}{cdv:Value}{A:Around}{outer:List Env}{s0:Shared}{H0:Hp}{E:XK}
theorem ZRX:ZD9 (ZCs (CXR P w) P w K mg base N qual scope f cdv A outer s0 H0 E) E:=by
 intro pins σ H s x C y od tb v I hx yx hy hE;have hx1:upd (upd H x (XO x C od (.ref y))) y (TbG y v) x=some (XO x C od (.ref y)):=by rw[ZD (Ne.symm yx),ZC]
 show wpAny _ _ (leaving _ _) _ _ _;unfold leaving
 by_cases hv:(v == rawInt s0.heap.objs.size)=true
 ·obtain⟨o,us,e1,e2,e3,e4,e5⟩:=ZB0 I hx1
  obtain⟨o',us',f1,f2,f3⟩:=ZGM (v:=v) I ZC;have hn:wpAny (model P w) (A.deeper (envOfC qual scope s0.heap.objs.size f cdv)) (noteFrame (.ref x) (envOfC qual scope s0.heap.objs.size f cdv)) (λ_ s'=>s'=s) (λ_ _=>False) s:=by
   unfold noteFrame;refine wpAny_bind (wpAny_field e1 e4 e5 ?_);rw[if_pos (show(Value.ref y != Value.none)=true from by simp)];refine wpAny_bind (wpAny_field f1 f2 f3 ?_);rw[if_pos hv];exact wpAny_pure rfl
  refine wpAny_bind (wpAny_mono hn (λ_ s' e=>?_) λ_ _ z=>z.elim);subst e;refine ZBQ I hx1 ZC λs' J=>?_
  rw[ZD8] at J;exact⟨x,C,od,y,_,rfl,J.os,J.bare,J.base,J.hok,⟨yx,by rw[ZD (Ne.symm yx),ZC],ZC⟩,λH'' l=>hE H'' ((ZCk hx yx hy).trans l)⟩
 ·have hv:(v == rawInt s0.heap.objs.size)=false:=Bool.eq_false_iff.mpr hv
  refine wpAny_bind (ZJ5 (X:=ZCs (CXR P w) P w K mg base N qual scope f cdv A outer s0 H0 E) (e0:=envOfC qual scope s0.heap.objs.size f cdv) (r:=outer) I rfl rfl rfl hx1 (.inr ⟨y,v,rfl,yx,ZC,hv⟩) λy2 s' H' hH J y2x hy2=>?_);have eH:H'=upd (upd H x (XO x C od (.ref y))) y (TbG y v)∨H'=upd (upd H x (XO x C od (.ref y))) y (TbG y .none):=by
   rcases hH with h|⟨z,ez,h⟩
   ·exact .inl h
   ·cases ez
    rw[ZD8] at h;exact .inr h
  have hx2:upd (upd H' x (XO x C od (.ref y2))) y2 (TbG y2 (rawInt s0.heap.objs.size)) x=some (XO x C od (.ref y2)):=by rw[ZD (Ne.symm y2x),ZC]
  refine ZBQ J hx2 ZC λs2 J2=>?_
  rw[ZD8] at J2;have hH0:∀b o,b≠x->H b=some o->H' b=some o:=λb o nb e=>by
   have n1:b≠y:=λq=>by rw[q,hy] at e;cases e
   rcases eH with h|h <;> (rw[h,ZD n1,ZD nb];exact e)
  have lk:ZC7 x C od H (upd (upd H' x (XO x C od (.ref y2))) y2 (TbO y2)):=⟨λb o nb e=>by
   have e':=hH0 b o nb e;have n2:b≠y2:=λq=>by rw[q,hy2] at e';cases e'
   rw[ZD n2,ZD nb];exact e',y2,y2x,by rw[ZD (Ne.symm y2x),ZC],ZC⟩
  exact⟨x,C,od,y2,_,rfl,J2.os,J2.bare,J2.base,J2.hok,⟨y2x,by rw[ZD (Ne.symm y2x),ZC],ZC⟩,λH'' l=>hE H'' (lk.trans l)⟩
end
noncomputable def PEX(X:Cx)(F:XK)(e:Expr)(t:TE):Prop:=∀(pins:List (Addr×Obj)) (s:Shared) (σ : St) (H:Hp) (Q:VK),Inv X pins σ H s->t σ H Q->wpAny (model X.prog X.w) X.A (eval e X.env) (EP X pins σ Q) (XP X pins λ_=>F) s
theorem PEX.imp{X:Cx}{F:XK}{e:Expr}{t u:TE}(h:PEX X F e t)(k:∀σ H Q,u σ H Q->t σ H Q):PEX X F e u:=λpins s σ H Q I q=>h pins s σ H Q I (k σ H Q q)
theorem ZRW{X:Cx}{F:XK}{e:Expr}{t:TE}(hx:∀e s,X.xe e s->False)(h:PE X e t):PEX X F e t:=λpins s σ H Q I q=>wpAny_mono (h pins s σ H Q I q) (λ_ _ z=>z) λ_ _ z=>(hx _ _ z).elim
theorem ZH5{F:XK}{Y:Cx}{tg elt iter:Expr}{ifs:List Expr}{scope:Scope}{pos:Pos}{it D:Addr}{J:It}{fp:List Addr}{tn:Nat->Heap->Prop}{g:TG}{tt:TT}{te:TE}{σ0:St}{Q:VK}{R:Result->Shared->Prop}{H:Hp}{s:Shared}
  (hc:Y.calm=true)(T:Turn Y.prog Y.w Y.K tg J fp it tn)(hfp:∀H,(∀b∈fp,H b=none)->∀b∈fp,ZCw Y [] H b)(hg:PG Y tg g)(ht:PTs Y ifs tt)(he:PEX Y F elt te)(hxe:∀e s,¬Y.xe e s)(hX:∀pins e s,XP Y pins (λ_=>F) e s->notedBy (model Y.prog Y.w) Y.A Y.env (λx s'=>R (.error x) s') e s)
  (hR:∀H' s',Inv Y [] σ0 H' s'->Q (.ref D) H'->R (.ok .next) s')(I:Inv Y [] σ0 H s)(st:tn 0 s.heap)(fr:∀b∈fp,H b=none)(hw:ZEL J g tt te σ0 D Q H) :
  codeAny (model Y.prog Y.w) Y.A (.compLoop (.ListComp elt [⟨tg,iter,ifs,0⟩] scope pos) 0 (.ref it) (.ref D) Y.env) R s:=by
 obtain⟨W,⟨m0,w0⟩,turn⟩:=hw;refine codeAny_loop rfl (λn s'=>∃i H' acc,Inv Y [] σ0 H' s'/\tn i s'.heap/\(∀b∈fp,H' b=none)/\W i n acc H') ?_ m0 ⟨0,H,[],I,st,fr,w0⟩
 rintro n s3 ⟨i,H3,acc,I3,st3,fr3,w3⟩
 show wpAny _ Y.A ((compTurn (.ListComp elt [⟨tg,iter,ifs,0⟩] scope pos) 0 (.ref it) (.ref D) Y.env).onRaise (λx=>do noteFrame x Y.env;theTreesLotGoes x)) _ _ s3;refine wpAny_noted ?_;rw[compTurn_list];refine wpAny_bind (wpAny_standAt (wpAny_bind ?_));rcases turn i n acc H3 w3 with ⟨stop,qn⟩|⟨go,N,hN,step⟩
 ·refine thn (T.done Y rfl rfl rfl hc i [] s3 σ0 H3 _ I3 (hfp H3 fr3) st3 stop) λr s4 ⟨hr,I4⟩=>?_
  subst hr;exact wpAny_pure (hR H3 s4 I4 qn)
 ·refine thn (T.item Y rfl rfl rfl hc i [] s3 σ0 H3 _ I3 (hfp H3 fr3) st3 go) λr s4 ⟨u,hr,h4⟩=>?_
  subst hr;refine wpAny_bind (thn h4 λ_ s5 ⟨x,H5,I5,r5,y5,st5,fr5⟩=>?_);have I5':Inv Y (ZCE fp s5.heap) σ0 H5 s5:=by
   have q:=I5.pinned (hfp H5 fr5) (T.obj _ _ st5)
   rwa [nil_append] at q
  have again:∀{σ7:St} {H7:Hp} {acc7:List V} {s7:Shared},Inv Y (ZCE fp s5.heap) σ7 H7 s7->Wk σ0 σ7->N acc7 H7->∃m,m<n/\∃i H' acc,Inv Y [] σ0 H' s7/\tn i s7.heap/\(∀b∈fp,H' b=none)/\W i m acc H':=λ{σ7 H7 acc7 s7} I7 wk n7=>by
   obtain⟨m',hm,w7⟩:=hN acc7 H7 n7;have I8:Inv Y [] σ0 H7 s7:=(I7.weak wk.1 wk.2).pins_of λp hp=>nomatch hp
   refine⟨m',hm,i+1,H7,acc7,I8,T.keep _ _ _ st5 λb hb o e=>(I7.pin (b,o) (mem_append_right _ (ZAQ hb e))).1,λb hb=>?_,w7⟩;obtain⟨o,e,d⟩:=T.obj _ _ st5 b hb;exact(I7.pin (b,o) (mem_append_right _ (ZAQ hb e))).2.1
  refine wpAny_bind (wpAny_mono (hg _ s5 σ0 H5 x u _ I5' r5 (step x H5 y5)) (λ_ s6 ⟨σ6,H6,I6,wk,q6⟩=>?_) λ_ _ z=>(hxe _ _ z).elim);refine wpAny_bind (wpAny_mono (ht _ s6 σ6 H6 _ I6 q6) (λok s7 ⟨H7,I7,q7⟩=>?_) λ_ _ z=>(hxe _ _ z).elim);cases ok with
  |false=>exact wpAny_pure ⟨rfl,again I7 wk q7⟩
  |true =>
   refine wpAny_bind (wpAny_bind (wpAny_mono (he _ s7 σ6 H7 _ I7 q7) (λy s8 ⟨v,H8,I8,r8,hD,hz,q8⟩=>?_) λ_ _ z=>hX _ _ _ z));refine wpAny_bind (wpAny_mono (ZDR _ s8 σ6 H8 (.ref D) [v] (.ref D) [y] (λ_ H9=>N (acc++[v]) H9) I8 rfl (.cons r8 .nil) ⟨D,acc,v,rfl,rfl,hD,hz,q8⟩) (λ_ s9 ⟨_,H9,I9,_,q9⟩=>?_) λ_ _ z=>(hxe _ _ z).elim);exact wpAny_pure (wpAny_pure ⟨rfl,again I9 wk q9⟩)
section
variable{X:Cx}{tg elt iter:Expr}{ifs:List Expr}{scope sc:Scope}{pos:Pos}{wi:TI}{g:TG}{tt:TT}{te:TE}{N NX:List Str}{own:Nat}{cap:List Nat}
theorem ZHD{F:XK}{r:List Env}{L:Addr}(hst:X.stack=X.env::r)(hfr:X.env.frame=some L){pins:List (Addr×Obj)}{σ : St}{s2:Shared}{itv:Value}{Q:VK}{E:Value->Shared->Prop}{R:Value->Addr->Result->Shared->Prop}{cl:List (Str×Addr)}(hc:X.calm=true)(hsc:X.env.scope=sc)(hNX:X.N=NX)(co:CapOk sc scope NX N own cap)
  (hsub:∀x c,cl.lookup x=some c->X.env.cells.lookup x=some c)(hall:∀x,(x,NameKind.free)∈scope.names->(cl.lookup x).isSome=true)
  (hb:∀cl C s0 H0 fp,PG (blk X N (compEnvC scope cl C X.env) s0 H0 fp) tg g/\PTs (blk X N (compEnvC scope cl C X.env) s0 H0 fp) ifs tt/\PEX (blk X N (compEnvC scope cl C X.env) s0 H0 fp) F elt te)
  (h2:PIE X pins σ tg (λJ H1=>∀D,H1 D=none->ZEL J g tt te (ZCT own cap σ) D Q (upd H1 D (.lst []))) itv s2)
  (hR:∀D C H' s',ZCw X pins H' C->(∃m,s'.heap.Ns C m)->(∀h',Heap.SameBut C s'.heap h'->Inv X pins σ H' { s' with heap:=h' })->Q (.ref D) H'->R (.ref D) C (.ok .next) s')
  (hRX:∀D C H' s' x C' od tb y,(∃m,s'.heap.Ns C m)->(∀h',Heap.SameBut C s'.heap h'->Inv X pins σ (upd (upd H' x (XO x C' od (.ref y))) y (TbG y (rawInt L))) { s' with heap:=h' })->H' x=some (XO x C' od tb)->y≠x->H' y=none->(∀H'',ZC7 x C' od H' H''->F (.ref x) none H'')->R (.ref D) C (.error (.ref x)) s') :
  wpAny (model X.prog X.w) X.A (newList []) (λ acc s3=>wpAny (model X.prog X.w) X.A (newFunctionEnv scope X.env.globals cl [] X.env.qual none .none (some X.env)) (λ cenv s4 =>
   codeAny (model X.prog X.w) X.A (.compStart (.ListComp elt [⟨tg,iter,ifs,0⟩] scope pos) 0 itv acc { cenv with scope:=relabel scope X.env }) (R acc cenv.locals) s4) E s3) E s2:=by
 obtain⟨it,fp,tn,J,H2,rfl,I2,T,st2,f2,hloop⟩:=h2;refine wpAny_newObj_type (wpAny_newFunctionEnv co.nocell (by intro y hy;simp at hy) (λh1 hns hsb=>?_) co.kind);have fD:H2 s2.heap.objs.size=none:=I2.hok.fresh (le_refl _);have I3:Inv X pins σ (upd H2 s2.heap.objs.size (.lst [])) { s2 with heap:=s2.heap.push { cls:=.type "list",data:=.seq ([]:List Value).toArray } }:=I2.laid (t':=s2.toks) (λb u e=>get?_push_of_some _ e) (le_refl _) ⟨zero_le _,[],0,.nil,get?_push_size _ rfl⟩;have hq:=hloop s2.heap.objs.size fD
 generalize hHD:s2.heap.objs.size=D at *
 generalize hs3:s2.heap.push { cls:=.type "list",data:=.seq ([]:List Value).toArray }=h3 at *
 dsimp only at hns hsb ⊢;have hsz:h3.objs.size=D+1:=by rw[←hs3,size_push,hHD]
 have ob2:∀b∈fp,∃o,s2.heap.get? b=some o:=λb hb'=>let ⟨o,e,_⟩:=T.obj _ _ st2 b hb';⟨o,e⟩
 have k23:∀b o,s2.heap.get? b=some o->h3.get? b=some o:=λb o e=>by rw[←hs3];exact get?_push_of_some _ e
 have k34:∀b o,h3.get? b=some o->h1.get? b=some o:=λb o e=>(hsb.2 b (ne_of_lt (lt_size e))).trans (get?_push_of_some _ e)
 have f3:∀b∈fp,ZCw X pins (upd H2 D (.lst [])) b:=λb hb'=>by
  obtain⟨o,e⟩:=ob2 b hb';exact⟨by rw[ZD (ne_of_lt (by rw[←hHD];exact lt_size e))];exact(f2 b hb').1,(f2 b hb').2⟩
 have ob3:∀b∈fp,∃o,h3.get? b=some o:=λb hb'=>let ⟨o,e⟩:=ob2 b hb';⟨o,k23 b o e⟩
 have hhas:∀x,((compEnvC scope cl h3.objs.size X.env).kindOf x=some .cell∨(compEnvC scope cl h3.objs.size X.env).kindOf x=some .free)->∃c,(compEnvC scope cl h3.objs.size X.env).cells.lookup x=some c:=λx hx=>by
  have q:∃k,(k=NameKind.cell∨k=NameKind.free)/\(relabel scope X.env).names.lookup x=some k:=by
   rcases hx with z|z
   ·exact⟨_,.inl rfl,z⟩
   ·exact⟨_,.inr rfl,z⟩
  obtain⟨k,hk,e⟩:=q;obtain⟨k0,e0,r0⟩:=ZA7 e;have hm:=PySem.mem_of_lookup e0;have hf0:k0=.free:=by
   rcases r0 with z|z
   ·rcases hk with y|y
    ·exact absurd (z.symm.trans y) (co.nocell _ hm)
    ·exact z.symm.trans y
   ·exact z.1
  subst hf0;have:=hall x hm;exact Option.isSome_iff_exists.mp this
 have hcap:∀(i:Nat) (x:Str) (v:V),N[i]? = some x->(ZCT own cap σ)[i]? = some (some v)->((compEnvC scope cl h3.objs.size X.env).kindOf x=some .cell∨(compEnvC scope cl h3.objs.size X.env).kindOf x=some .free)/\X.env.kindOf x≠some .local/\Vis X.env.scope x/\∃j:Nat,X.N[j]? = some x/\σ[j]? = some (some v):=λi x v e1 e2=>by
  unfold ZCT at e2
  by_cases hi:i<own
  ·rw[getElem?_append_left (by simpa using hi),getElem?_replicate] at e2
   split at e2 <;> cases e2
  ·rw[getElem?_append_right (by simpa using hi),length_replicate,getElem?_map] at e2
   cases ej:cap[i-own]? with
   |none=>rw[ej] at e2;cases e2
   |some j =>
    rw[ej] at e2;have e3:(σ[j]?).join=some v:=Option.some.inj e2;have hd:(N.drop own)[i-own]? = some x:=by rw[List.getElem?_drop,show own+(i-own)=i by omega];exact e1
    have hz:(x,j)∈(N.drop own).zip cap:=mem_of_getElem? (i:=i-own) (by rw[List.getElem?_zip_eq_some];exact⟨hd,ej⟩);obtain⟨c1,c2,c3⟩:=co.caps (x,j) hz;have c3':X.env.kindOf x=some .cell∨X.env.kindOf x=some .free:=by unfold Env.kindOf;rw[hsc];exact c3
    refine⟨Z5 c2,λz=>?_,?_,j,by rw[hNX];exact c1,?_⟩
    ·rcases c3' with y|y <;> (rw[y] at z;cases z)
    ·rcases c3' with y|y
     ·exact .inr (.inl y)
     ·exact .inr (.inr y)
    ·cases es : σ[j]? with
     |none=>rw[es] at e3;cases e3
     |some w=>rw[es] at e3;exact congrArg some e3
 have I4:Inv (blk X N (compEnvC scope cl h3.objs.size X.env) { s2 with heap:=h3 } (upd H2 D (.lst [])) fp) [] (ZCT own cap σ) (upd H2 D (.lst [])) { s2 with heap:=h1,toks:=s2.toks+([]:List (Str×Value)).length } :=
  ZJK I3 f3 ob3 (le_refl _) co.kind rfl rfl hsub hhas k34 hns (by unfold ZCT;rw[length_append,length_replicate,length_map,co.len]) hcap
 obtain⟨hg,ht,he⟩:=hb cl h3.objs.size { s2 with heap:=h3 } (upd H2 D (.lst [])) fp;have loop:codeAny (model X.prog X.w) X.A (.compLoop (.ListComp elt [⟨tg,iter,ifs,0⟩] scope pos) 0 (.ref it) (.ref D) (compEnvC scope cl h3.objs.size X.env)) (R (.ref D) h3.objs.size) { s2 with heap:=h1,toks:=s2.toks+([]:List (Str×Value)).length }:=by
  refine ZH5 (Y:=blk X N (compEnvC scope cl h3.objs.size X.env) { s2 with heap:=h3 } (upd H2 D (.lst [])) fp) (Q:=Q) hc T (λH0 fr b hb'=>?_) hg ht he (λ_ _ z=>z) (λpins' e s' z=>?_) (λH' s' J' q=>?_) I4 (T.keep _ _ _ st2 λb _ o e=>k34 b o (k23 b o e)) (λb hb'=>(f3 b hb').1) hq
  ·obtain⟨o,e⟩:=ob3 b hb'
   exact⟨fr b hb',ne_of_lt (lt_size e),λz=>(List.mem_cons.mp (I3.stkSub b z)).elim (f3 b hb').2.1 (f3 b hb').2.2.1,.inl hb',λx c ec=>(f3 b hb').2.2.2.2.1 x c (hsub x c ec),λp hp=>nomatch hp⟩
  ·obtain⟨x,C',od,tb,σ',H',rfl,J,hx,ht,hE⟩:=z
   refine ZJ5 (X:=blk X N (compEnvC scope cl h3.objs.size X.env) { s2 with heap:=h3 } (upd H2 D (.lst [])) fp) (e0:=X.env) (r:=r) J hst rfl hfr hx (ht.imp id λ⟨y,a,b,c⟩=>⟨y,.none,a,b,c,by simp[rawInt]⟩) λy s1 H1 hH J1 yx hy=>?_
   have eH:H1=H':=by
    rcases hH with h|⟨z,ez,h⟩
    ·exact h
    ·rcases ht with q|⟨z',q,_,hz'⟩
     ·rw[q] at ez;cases ez
     ·rw[q] at ez
      cases ez;rw[h];exact ZHc hz'
   subst eH;have J2:=J1.pins_of (pins':=[]) λp hp=>nomatch hp
   exact hRX D h3.objs.size H1 s1 x C' od tb y (let ⟨m,hm,_⟩:=J2.loc;⟨m,hm⟩) (λh' sb=>ZGT (env:=compEnvC scope cl h3.objs.size X.env) I3 f3 (le_refl _) J2 sb) hx yx hy hE
  ·exact hR D h3.objs.size H' s' (I3.fpOk (le_refl _) J'.free) (let ⟨m,hm,_⟩:=J'.loc;⟨m,hm⟩) (λh' sb=>ZGT (env:=compEnvC scope cl h3.objs.size X.env) I3 f3 (le_refl _) J' sb) q
 exact codeAny_compStart_list loop (T.self _ 0 _ _ _ (T.keep _ _ _ st2 λb _ o e=>k34 b o (k23 b o e)) loop)
theorem ZND{F:XK}{r:List Env}{L:Addr}(LG:ZD9 X F)(hst:X.stack=X.env::r)(hfr:X.env.frame=some L)(hc:X.calm=true)(hi:PI X tg iter wi)(hsc:X.env.scope=sc)(hNX:X.N=NX)
  (hb:∀cl C s0 H0 fp,PG (blk X N (compEnvC scope cl C X.env) s0 H0 fp) tg g/\PTs (blk X N (compEnvC scope cl C X.env) s0 H0 fp) ifs tt/\PEX (blk X N (compEnvC scope cl C X.env) s0 H0 fp) F elt te)
  (co:ZBU sc scope NX N own cap=true)(hs:∀x,foldedSetIterable iter X.env x=pure x:=by intro _;rfl):PE X (.ListComp elt [⟨tg,iter,ifs,0⟩] scope pos) (ZFD own cap wi g tt te):=by
 intro pins s σ H Q I h;have co:=ZEc co;obtain⟨cl,hcl,hsub,hall⟩:=ZBM (env:=X.env) (scope:=scope) λy hy e=>I.ok.has y.1 (by unfold Env.kindOf;rw[hsc];exact co.free y hy e)
 rw[eval_ListComp];refine wpAny_comprehension_free (use:=none) rfl hs hcl co.kind co.names (thn (hi pins s σ H _ I h) λv s1 h1=>thn h1 λitv s2 h2=>?_);refine ZHD (F:=F) (Q:=Q) (R:=λacc C=>compPost (model X.prog X.w) X.A X.xe none (EP X pins σ Q) acc C) hst hfr hc hsc hNX co hsub hall hb h2 (λD C H' s' _ ⟨m,hm⟩ hi' q=>?_) λD C H' s' x C' od tb y ⟨m,hm⟩ hi' hx yx hy hE=>⟨m,hm,λh' sb cenv hc=>ZIh LG (hi' h' sb) hx yx hy hE⟩
 exact⟨m,hm,λh' sb=>⟨.ref D,H',hi' h' sb,rfl,q⟩⟩
end
section
variable{prog:Program}{w:World}{A:Around}{E:Value->Shared->Prop}{K:PySem.W.Frag}{C:Addr}{h:Heap}{g:Array GenState}{d:Drawn}{t:Nat}{os:OsState}
theorem ZPU{rest:List Value}{Q:Fin->Shared->Prop}(X:K.In h)(ex:ZDN K C=true)(hi:PySem.W.findIn K (.ref C) "__init__" = some (some (.builtin "ValueError.__init__")))(hz:rest.length<=sizeLine)
  (hq:∀h' e,h.objs.size<=e->Heap.MadeExcOf h h' e (.ref C) rest->Q (.done (.ret (.ref e))) ⟨h',g,d,t,os⟩) :
  wpAny (model prog w) A (Builtin.«type.__call__» ⟨.ref C::rest,[]⟩) Q E ⟨h,g,d,t,os⟩:=by
 obtain⟨nm,q,N,bs,bm,sn,sub,ab,col,dd,k0,k1,k2,k3,k5,lk,tl⟩:=ZBx ex;have F:=PySem.F.excBase_ValueError;have hC:=X _ _ lk;have T:OwnTail h bmV bm:=PySem.W.tail_of_in X tl
 repeat (first|with_reducible refine wpAny_loadPart_at hC ?_|with_reducible refine wpAny_madeBy_exc hC ?_|wp_step)
 refine codeAny_call_builtin_code (Code.quiet_builtin _ F.quiet) (wpAny_check_new_subT F T hC ?_);refine codeAny_exc_new_subT F T hC ?_ hz;show wpAny _ _ _ _ _ _;have kp:∀b o,h.get? b=some o->((h.push (ZJh rest)).push (ZHC C h.objs.size)).get? b=some o:=λb o e=>get?_push_of_some _ (get?_push_of_some _ e)
 have X1:K.In ((h.push (ZJh rest)).push (ZHC C h.objs.size)):=X.keeps kp;have hC1:=kp _ _ hC;have T1:OwnTail ((h.push (ZJh rest)).push (ZHC C h.objs.size)) bmV bm:=T.keeps kp;have hg:((h.push (ZJh rest)).push (ZHC C h.objs.size)).get? (h.objs.size+1)=some (ZHC C h.objs.size):=by heap_get
 have hc:(Value.ref C::bm).contains (.ref C)=true:=by simp
 unfold isInstance
 repeat (first|with_reducible refine wpAny_loadPart_at hg ?_|(with_reducible refine wpAny_isSubtype_exc hC1 ?_;rw[hc])|wp_step)
 refine(PySem.W.looks_findIn X1 hi).here ?_;refine wpAny_holding (wpAny_bind (wpAny_of_eq (F.init.bind _) ?_));refine wpAny_bind (wpAny_call (codeAny_call_builtin F.init.plain F.initEntry (wpAny_check_init_subT F T1 hC1 hg rfl ?_)))
 wp_walk
 refine hq _ _ (le_succ _) ⟨λb o hb=>?_,get?_none_of_le (le_succ _),h.objs.size+2,?_,get?_none_of_le (by omega),?_⟩
 ·rw[get?_update_other _ _ (ne_of_gt (lt_succ_of_lt (lt_size hb)))]
  exact get?_push_of_some _ (get?_push_of_some _ (get?_push_of_some _ hb))
 ·rw[get?_update_self _ (get?_push_of_some _ hg) rfl]
  simp only[size_push];rfl
 ·rw[get?_update_other _ _ (show h.objs.size+1≠h.objs.size+2 by omega)]
  exact Heap.get?_push_at (by simp only[size_push]) rfl
theorem ZMm{rest:List Value}{Q:Value->Shared->Prop}(X:K.In h)(ex:ZDN K C=true)(hi:PySem.W.findIn K (.ref C) "__init__" = some (some (.builtin "ValueError.__init__")))(hz:rest.length<=sizeLine)
  (hq:∀h' e,h.objs.size<=e->Heap.MadeExcOf h h' e (.ref C) rest->Q (.ref e) ⟨h',g,d,t,os⟩) :
  wpAny (model prog w) A (call (.ref C) rest) Q E ⟨h,g,d,t,os⟩:=by
 obtain⟨nm,q,N,bs,bm,sn,sub,ab,col,dd,k0,k1,k2,k3,k5,lk,tl⟩:=ZBx ex;have f1:=tc_lookup;have f2:=tc_bind (.ref C);have hC:=X _ _ lk;have hT:(⟨h,g,d,t,os⟩:Shared).TypeIs (.ref C) "type":=⟨_,hC,rfl⟩;refine wpAny_call (codeAny_of_tree ?_);show wpAny _ _ (callAny (.ref C) _) _ _ _
 repeat (any_goals (first|assumption|with_reducible refine wpAny_loadPart_at hC ?_|wp_step))
 refine⟨rfl,?_⟩;exact codeAny_call_builtin_at (Code.quiet_builtin _ (by decide +kernel)) entry_typeCall (wpAny_check_type_call_sub hC (ZPU X ex hi hz hq))
end
structure XCl (K:PySem.W.Frag) (mg:Str->Option Value) (nm:Str) (C:Addr):Prop where
 b:XC0 K mg nm C
 kp:PySem.W.keepIn K (.ref C)=true
 it:PySem.W.findIn K (.ref C) "__init__" = some (some (.builtin "ValueError.__init__"))
section
variable{X:Cx}{pos np cpos:Pos}{e:Expr}{nm:Str}{C:Addr}{ta:TA}
theorem ZJ9{E:XK}(xc:XCl X.K X.mg nm C)(hc:X.calm=true)(L:ZIf X E)(hg:Gl X nm)(ha:PA X [e] ta)(hdb:(nm == ("__debug__" : Str))=false:=by decide)
  (he:starEach [e] X.env=(false,eval e X.env)::starEach [] X.env:=by rfl)(hpl:(backTo cpos (starEach [] X.env)).any (·.1)=false:=by rfl) :
  PS X (.Raise (some (.Call (.Name nm np) [e] [] cpos)) none pos) (λ_ σ H=>ta σ H λvs H1=>vs.length=1/\∀x,H1 x=none->∀H'',ZC7 x C none (upd H1 x (XO x C none .none)) H''->E (.ref x) none H''):=by
 intro pins s σ H D I h;rw[arm_exec_Raise];refine wpAny_bind (wpAny_standAt (ZIu (K:=X.K) (C:=C) xc.b.ex (I.ok.hd hc) ?_));refine wpAny_bind (wpAny_mono (wpAny_Call_Name_kw (ZBv I hg xc.b.mg_ ?_ hdb)) (λv s3 h3=>wpAny_bind (wpAny_standAt (wpAny_pure h3))) λ_ _ x=>x);refine PySem.W.callWith_K (h₀:=X.base) I.ok.mod.kin xc.kp (thn (ha cpos pins s σ H _ I h) λus s1 ⟨vs,H1,I1,r,hv,q⟩=>⟨I1.kIn,?_⟩) he hpl;have hl:us.length=1:=by rw[←r.length];exact hv
 obtain⟨hp,gg,dr,tk,os⟩:=s1;refine ZMm (g:=gg) (d:=dr) (t:=tk) (os:=os) I1.kIn xc.b.ex xc.it (by rw[nil_append,hl];decide) λh' e hle hm=>?_
 obtain⟨t,ht,_,_⟩:=hm.there;have h0:H1 e=none:=I1.hok.fresh hle;have I2:Inv X pins σ (upd H1 e (XO e C none .none)) ⟨h',gg,dr,tk,os⟩:=I1.laid (t':=tk) hm.keeps hle (ZLy ht rfl rfl rfl rfl);exact⟨e,_,_,rfl,I2.kIn,ht,rfl,rfl,rfl,L pins σ _ _ e C none .none I2 ZC (.inl rfl) λH'' l=>q e h0 H'' l⟩
end
inductive W where
 |dat (d:PyData)
 |ref (n:Nat)
 |inp (ns:List Int)
 |ty (n:String)
 |tup (ws:List W)
 |exc (nm:Str) (t:Option Int)
structure CD where
 nm:Str
 fs:List Str
inductive Cell where
 |pl (ds:List PyData)
 |rl (ws:List W)
 |ob (c:CD) (ws:List W)
 |dk (kvs:List (Key×W))
noncomputable abbrev G:=List Cell
structure Rh where
 c:List Addr
 h:List Addr
noncomputable def Rh.mem(ρ : Rh)(a:Addr):Prop:=a∈ρ.c∨a∈ρ.h
noncomputable abbrev Sd:=List (Option W)
noncomputable def KL(K:PySem.W.Frag)(a:Addr)(xs:List V):Prop:=∃(o:Obj) (its:Array Value) (n:Nat),K.lookup a=some o/\o.cls=.type "list"/\o.dict=none/\o.data=.seq its n/\its.size<=sizeLine/\ZK xs its.toList
noncomputable def KT(K:PySem.W.Frag)(a:Addr)(xs:List V):Prop:=∃(o:Obj) (its:Array Value) (n:Nat),K.lookup a=some o/\o.cls=.type "tuple"/\o.data=.seq its n/\its.size<=sizeLine/\ZK xs its.toList
noncomputable def FzL(K:PySem.W.Frag)(ρ : Rh)(H:Hp)(a:Addr)(xs:List V):Prop:=(Rd H a (.lst xs)/\¬ρ.mem a)∨KL K a xs
noncomputable def FzT(K:PySem.W.Frag)(ρ : Rh)(H:Hp)(a:Addr)(xs:List V):Prop:=(Rd H a (.tup xs)/\¬ρ.mem a)∨KT K a xs
theorem FzL.sq{K:PySem.W.Frag}{ρ : Rh}{H:Hp}{a:Addr}{xs:List V}(h:FzL K ρ H a xs):SqL K H a xs:=h.elim (λz=>.inl z.1) .inr
theorem FzT.sq{K:PySem.W.Frag}{ρ : Rh}{H:Hp}{a:Addr}{xs:List V}(h:FzT K ρ H a xs):SqT K H a xs:=h.elim (λz=>.inl z.1) .inr
mutual
inductive RelD (K:PySem.W.Frag) (ρ : Rh) (H:Hp):V->PyData->Prop
 |non:RelD K ρ H .non .none
 |bl (b:Bool):RelD K ρ H (.bl b) (.bool b)
 |int (i:Int):RelD K ρ H (.int i) (.int i)
 |str (x:Str):RelD K ρ H (.str x) (.str x)
 |tup {a:Addr} {xs:List V} {ds:List PyData}:FzT K ρ H a xs->RelDL K ρ H xs ds->RelD K ρ H (.ref a) (.tuple ds)
 |lst {a:Addr} {xs:List V} {ds:List PyData}:H a=some (.lst xs)->¬ρ.mem a->RelDL K ρ H xs ds->RelD K ρ H (.ref a) (.list ds)
 |dct {a:Addr}:H a=some (ZLR a)->¬ρ.mem a->RelD K ρ H (.ref a) (.dict [])
inductive RelDL (K:PySem.W.Frag) (ρ : Rh) (H:Hp):List V->List PyData->Prop
 |nil:RelDL K ρ H [] []
 |cons {x:V} {d:PyData} {xs:List V} {ds:List PyData}:RelD K ρ H x d->RelDL K ρ H xs ds->RelDL K ρ H (x::xs) (d::ds)
end
noncomputable def ZC8(K:PySem.W.Frag)(ρ : Rh)(H:Hp)(x:Addr)(nm:Str)(t:Option Int):Prop:=∃C od y,PySem.W.nsIn K mainGlobals nm=some (some (.ref C))/\(H x=some (XO x C od (.ref y))/\¬ρ.mem x) /\
 (t=none->od=none)/\∀n,t=some n->∃dx,od=some dx/\H dx=some (.xd [("turn",.int n)])/\¬ρ.mem dx
mutual
inductive Rel (K:PySem.W.Frag) (ρ : Rh) (H:Hp):V->W->Prop
 |dat {v:V} {d:PyData}:RelD K ρ H v d->Rel K ρ H v (.dat d)
 |ref {a:Addr} {n:Nat} : ρ.c[n]? = some a->Rel K ρ H (.ref a) (.ref n)
 |inp {a:Addr} {ns:List Int}:FzL K ρ H a (ns.map V.int)->Rel K ρ H (.ref a) (.inp ns)
 |ty {n:String}:Rel K ρ H (.ty n) (.ty n)
 |exc {x:Addr} {nm:Str} {t:Option Int}:ZC8 K ρ H x nm t->Rel K ρ H (.ref x) (.exc nm t)
 |tup {a:Addr} {xs:List V} {ws:List W}:FzT K ρ H a xs->RelL K ρ H xs ws->Rel K ρ H (.ref a) (.tup ws)
inductive RelL (K:PySem.W.Frag) (ρ : Rh) (H:Hp):List V->List W->Prop
 |nil:RelL K ρ H [] []
 |cons {v:V} {x:W} {vs:List V} {xs:List W}:Rel K ρ H v x->RelL K ρ H vs xs->RelL K ρ H (v::vs) (x::xs)
end
inductive RelF (K:PySem.W.Frag) (ρ : Rh) (H:Hp):List Str->List (Str×V)->List W->Prop
 |nil {ns:List Str}:RelF K ρ H ns [] []
 |cons {f:Str} {ns:List Str} {v:V} {x:W} {vs:List (Str×V)} {xs:List W}:Rel K ρ H v x->RelF K ρ H ns vs xs->RelF K ρ H (f::ns) ((f,v)::vs) (x::xs)
inductive RelK (K:PySem.W.Frag) (ρ : Rh) (H:Hp):List (Key×V)->List (Key×W)->Prop
 |nil:RelK K ρ H [] []
 |cons {k:Key} {v:V} {x:W} {vs:List (Key×V)} {xs:List (Key×W)}:Rel K ρ H v x->RelK K ρ H vs xs->RelK K ρ H ((k,v)::vs) ((k,x)::xs)
noncomputable def Zv(K:PySem.W.Frag)(ρ : Rh)(H:Hp)(a:Addr):Cell->Prop
 |.pl ds=>∃vs,H a=some (.lst vs)/\RelDL K ρ H vs ds
 |.rl ws=>∃vs,H a=some (.lst vs)/\RelL K ρ H vs ws
 |.ob c fs=>∃C dx vs,PySem.W.nsIn K mainGlobals c.nm=some (some (.ref C))/\H a=some (.ins C dx vs)/\RelF K ρ H c.fs vs fs
 |.dk ws=>∃vs,H a=some (.dK vs)/\RelK K ρ H vs ws
noncomputable def kdO:HO->Nat
 |.lst _=>0
 |.ins _ _ _=>1
 |_=>2
structure Stp (ρ : Rh) (H:Hp) (ρ':Rh) (H':Hp):Prop where
 pre:∃r,ρ'.c = ρ.c++r
 hid : ρ'.h = ρ.h
 frm:∀a o,H a=some o->a∉ρ.c->H' a=some o
 fre:∀a∈ρ'.c,a∈ρ.c∨H a=none
 kd:∀a o,H a=some o->∃o',H' a=some o'/\kdO o'=kdO o
section
variable{K:PySem.W.Frag}{ρ ρ' ρ2:Rh}{H H' H2:Hp}
theorem Stp.refl:Stp ρ H ρ H:=⟨⟨[],(append_nil _).symm⟩,rfl,λ_ _ h _=>h,λ_ h=>.inl h,λa o h=>⟨o,h,rfl⟩⟩
theorem Stp.ninc{a:Addr}{o:HO}(s:Stp ρ H ρ' H')(h:H a=some o)(n:a∉ρ.c):a∉ρ'.c:=λz=>(s.fre a z).elim n λe=>by rw[h] at e;cases e
theorem Stp.nin{a:Addr}{o:HO}(s:Stp ρ H ρ' H')(h:H a=some o)(n : ¬ρ.mem a) : ¬ρ'.mem a:=λz=>z.elim (s.ninc h λq=>n (.inl q)) λz=>n (.inr (by rw[←s.hid];exact z))
theorem Stp.trans(s:Stp ρ H ρ' H')(t:Stp ρ' H' ρ2 H2):Stp ρ H ρ2 H2:=by
 refine⟨?_,t.hid.trans s.hid,λa o h n=>t.frm a o (s.frm a o h n) (s.ninc h n),λa h=>?_,λa o h=>?_⟩
 ·obtain⟨r,e⟩:=s.pre
  obtain⟨q,e'⟩:=t.pre;exact⟨r++q,by rw[e',e,append_assoc]⟩
 ·rcases t.fre a h with z|z
  ·exact s.fre a z
  ·by_cases n:a∈ρ.c
   ·exact .inl n
   ·cases e:H a with
    |none=>exact .inr rfl
    |some o=>rw[s.frm a o e n] at z;cases z
 ·obtain⟨o1,h1,k1⟩:=s.kd a o h
  obtain⟨o2,h2,k2⟩:=t.kd a o1 h1;exact⟨o2,h2,k2.trans k1⟩
theorem Stp.same(s:Same H H'):Stp ρ H ρ H':=⟨⟨[],(append_nil _).symm⟩,rfl,λa o h _=>s a o h,λ_ h=>.inl h,λa o h=>⟨o,s a o h,rfl⟩⟩
theorem Rd.stp{a:Addr}{u:HO}(s:Stp ρ H ρ' H')(h:Rd H a u)(n : ¬ρ.mem a):Rd H' a u/\¬ρ'.mem a:=by
 rcases h with h|⟨o,h⟩
 ·exact⟨.inl (s.frm _ _ h λz=>n (.inl z)),s.nin h n⟩
 ·exact⟨.inr ⟨o,s.frm _ _ h λz=>n (.inl z)⟩,s.nin h n⟩
theorem FzL.mono{a:Addr}{xs:List V}(s:Stp ρ H ρ' H')(h:FzL K ρ H a xs):FzL K ρ' H' a xs:=h.elim (λz=>.inl (Rd.stp s z.1 z.2)) .inr
theorem FzT.mono{a:Addr}{xs:List V}(s:Stp ρ H ρ' H')(h:FzT K ρ H a xs):FzT K ρ' H' a xs:=h.elim (λz=>.inl (Rd.stp s z.1 z.2)) .inr
mutual
theorem RelD.mono(s:Stp ρ H ρ' H'):∀{v:V} {d:PyData},RelD K ρ H v d->RelD K ρ' H' v d
 |_,_,.non=>.non
 |_,_,.bl b=>.bl b
 |_,_,.int i=>.int i
 |_,_,.str x=>.str x
 |_,_,.tup h hl=>.tup (h.mono s) (RelDL.mono s hl)
 |_,_,.lst h n hl=>.lst (s.frm _ _ h λz=>n (.inl z)) (s.nin h n) (RelDL.mono s hl)
 |_,_,.dct h n=>.dct (s.frm _ _ h λz=>n (.inl z)) (s.nin h n)
theorem RelDL.mono(s:Stp ρ H ρ' H'):∀{vs:List V} {ds:List PyData},RelDL K ρ H vs ds->RelDL K ρ' H' vs ds
 |_,_,.nil=>.nil
 |_,_,.cons h hl=>.cons (RelD.mono s h) (RelDL.mono s hl)
end
theorem ZC8.mono{x:Addr}{nm:Str}{t:Option Int}(s:Stp ρ H ρ' H')(h:ZC8 K ρ H x nm t):ZC8 K ρ' H' x nm t:=by
 obtain⟨C,od,y,e,⟨hx,nx⟩,h0,ha⟩:=h;refine⟨C,od,y,e,⟨s.frm _ _ hx λz=>nx (.inl z),s.nin hx nx⟩,h0,λn q=>?_⟩;obtain⟨dx,e1,e2,e3⟩:=ha n q;exact⟨dx,e1,s.frm _ _ e2 λz=>e3 (.inl z),s.nin e2 e3⟩
theorem ZC8.less{x:Addr}{nm:Str}{t:Option Int}(s:∀a,ρ'.mem a->ρ.mem a)(h:ZC8 K ρ H x nm t):ZC8 K ρ' H x nm t:=by
 obtain⟨C,od,y,e,⟨hx,nx⟩,h0,ha⟩:=h;refine⟨C,od,y,e,⟨hx,λz=>nx (s _ z)⟩,h0,λn q=>?_⟩;obtain⟨dx,e1,e2,e3⟩:=ha n q;exact⟨dx,e1,e2,λz=>e3 (s _ z)⟩
theorem ZDM(s:Stp ρ H ρ' H'){a:Addr}{n:Nat}(h : ρ.c[n]? = some a) : ρ'.c[n]? = some a:=by
 obtain⟨r,e⟩:=s.pre;rw[e,getElem?_append_left (List.getElem?_eq_some_iff.mp h).1];exact h
mutual
theorem Rel.mono(s:Stp ρ H ρ' H'):∀{v:V} {x:W},Rel K ρ H v x->Rel K ρ' H' v x
 |_,_,.dat h=>.dat (h.mono s)
 |_,_,.ref h=>.ref (ZDM s h)
 |_,_,.inp h=>.inp (h.mono s)
 |_,_,.ty=>.ty
 |_,_,.exc h=>.exc (h.mono s)
 |_,_,.tup h t=>.tup (h.mono s) (RelL.mono s t)
theorem RelL.mono(s:Stp ρ H ρ' H'):∀{vs:List V} {xs:List W},RelL K ρ H vs xs->RelL K ρ' H' vs xs
 |_,_,.nil=>.nil
 |_,_,.cons h t=>.cons (Rel.mono s h) (RelL.mono s t)
end
theorem RelF.mono(s:Stp ρ H ρ' H'):∀{ns:List Str} {vs:List (Str×V)} {xs:List W},RelF K ρ H ns vs xs->RelF K ρ' H' ns vs xs
 |_,_,_,.nil=>.nil
 |_,_,_,.cons h t=>.cons (h.mono s) (t.mono s)
theorem RelK.mono(s:Stp ρ H ρ' H'):∀{vs:List (Key×V)} {xs:List (Key×W)},RelK K ρ H vs xs->RelK K ρ' H' vs xs
 |_,_,.nil=>.nil
 |_,_,.cons h t=>.cons (h.mono s) (t.mono s)
theorem FzL.less{a:Addr}{xs:List V}(s:∀a,ρ'.mem a->ρ.mem a)(h:FzL K ρ H a xs):FzL K ρ' H a xs:=h.elim (λz=>.inl ⟨z.1,λq=>z.2 (s _ q)⟩) .inr
theorem FzT.less{a:Addr}{xs:List V}(s:∀a,ρ'.mem a->ρ.mem a)(h:FzT K ρ H a xs):FzT K ρ' H a xs:=h.elim (λz=>.inl ⟨z.1,λq=>z.2 (s _ q)⟩) .inr
mutual
theorem RelD.less(s:∀a,ρ'.mem a->ρ.mem a):∀{v:V} {d:PyData},RelD K ρ H v d->RelD K ρ' H v d
 |_,_,.non=>.non
 |_,_,.bl b=>.bl b
 |_,_,.int i=>.int i
 |_,_,.str x=>.str x
 |_,_,.tup h hl=>.tup (h.less s) (RelDL.less s hl)
 |_,_,.lst h n hl=>.lst h (λz=>n (s _ z)) (RelDL.less s hl)
 |_,_,.dct h n=>.dct h λz=>n (s _ z)
theorem RelDL.less(s:∀a,ρ'.mem a->ρ.mem a):∀{vs:List V} {ds:List PyData},RelDL K ρ H vs ds->RelDL K ρ' H vs ds
 |_,_,.nil=>.nil
 |_,_,.cons h hl=>.cons (RelD.less s h) (RelDL.less s hl)
end
mutual
theorem Rel.less(hc : ρ'.c = ρ.c)(s:∀a,ρ'.mem a->ρ.mem a):∀{v:V} {x:W},Rel K ρ H v x->Rel K ρ' H v x
 |_,_,.dat h=>.dat (h.less s)
 |_,_,.ref h=>.ref (by rw[hc];exact h)
 |_,_,.inp h=>.inp (h.less s)
 |_,_,.ty=>.ty
 |_,_,.exc h=>.exc (h.less s)
 |_,_,.tup h t=>.tup (h.less s) (RelL.less hc s t)
theorem RelL.less(hc : ρ'.c = ρ.c)(s:∀a,ρ'.mem a->ρ.mem a):∀{vs:List V} {xs:List W},RelL K ρ H vs xs->RelL K ρ' H vs xs
 |_,_,.nil=>.nil
 |_,_,.cons h t=>.cons (Rel.less hc s h) (RelL.less hc s t)
end
theorem RelF.less(hc : ρ'.c = ρ.c)(s:∀a,ρ'.mem a->ρ.mem a):∀{ns:List Str} {vs:List (Str×V)} {xs:List W},RelF K ρ H ns vs xs->RelF K ρ' H ns vs xs
 |_,_,_,.nil=>.nil
 |_,_,_,.cons h t=>.cons (h.less hc s) (t.less hc s)
theorem RelK.less(hc : ρ'.c = ρ.c)(s:∀a,ρ'.mem a->ρ.mem a):∀{vs:List (Key×V)} {xs:List (Key×W)},RelK K ρ H vs xs->RelK K ρ' H vs xs
 |_,_,.nil=>.nil
 |_,_,.cons h t=>.cons (h.less hc s) (t.less hc s)
theorem RelDL.length:∀{vs:List V} {ds:List PyData},RelDL K ρ H vs ds->vs.length=ds.length
 |_,_,.nil=>rfl
 |_,_,.cons _ h=>by rw[length_cons,length_cons,h.length]
theorem RelDL.getD:∀{vs:List V} {ds:List PyData} {i:Nat} {d:PyData},RelDL K ρ H vs ds->ds[i]? = some d->∃v,vs[i]? = some v/\RelD K ρ H v d
 |_,_,_,_,.nil,h=>by simp at h
 |_,_,0,_,.cons t _,h=>by cases h;exact⟨_,rfl,t⟩
 |_,_,i+1,_,.cons _ t,h=>t.getD (i:=i) (by simpa using h)
theorem RelDL.append:∀{vs us:List V} {ds es:List PyData},RelDL K ρ H vs ds->RelDL K ρ H us es->RelDL K ρ H (vs++us) (ds++es)
 |_,_,_,_,.nil,h=>h
 |_,_,_,_,.cons t r,h=>.cons t (r.append h)
theorem RelDL.set{v:V}{d:PyData}(t:RelD K ρ H v d):∀{vs:List V} {ds:List PyData} (i:Nat),RelDL K ρ H vs ds->RelDL K ρ H (vs.set i v) (ds.set i d)
 |_,_,_,.nil=>.nil
 |_,_,0,.cons _ r=>.cons t r
 |_,_,i+1,.cons u r=>.cons u (RelDL.set t i r)
theorem RelDL.take:∀{vs:List V} {ds:List PyData} (n:Nat),RelDL K ρ H vs ds->RelDL K ρ H (vs.take n) (ds.take n)
 |_,_,0,_=>.nil
 |_,_,_+1,.nil=>.nil
 |_,_,n+1,.cons r t=>.cons r (RelDL.take n t)
theorem RelDL.drop:∀{vs:List V} {ds:List PyData} (n:Nat),RelDL K ρ H vs ds->RelDL K ρ H (vs.drop n) (ds.drop n)
 |_,_,0,r=>r
 |_,_,_+1,.nil=>.nil
 |_,_,n+1,.cons _ t=>RelDL.drop n t
theorem RelDL.rep{vs:List V}{ds:List PyData}(t:RelDL K ρ H vs ds):∀k:Nat,RelDL K ρ H (List.replicate k vs).flatten (List.replicate k ds).flatten
 |0=>.nil
 |k+1=>by rw[replicate_succ,replicate_succ,flatten_cons,flatten_cons];exact t.append (t.rep k)
theorem RelDL.ofInts:∀{ns:List Int},RelDL K ρ H (ns.map V.int) (ns.map .int)
 |[]=>.nil
 |n::ns=>.cons (.int n) RelDL.ofInts
theorem RelL.length:∀{vs:List V} {ws:List W},RelL K ρ H vs ws->vs.length=ws.length
 |_,_,.nil=>rfl
 |_,_,.cons _ h=>by rw[length_cons,length_cons,h.length]
theorem RelL.append:∀{vs us:List V} {ds es:List W},RelL K ρ H vs ds->RelL K ρ H us es->RelL K ρ H (vs++us) (ds++es)
 |_,_,_,_,.nil,h=>h
 |_,_,_,_,.cons t r,h=>.cons t (r.append h)
theorem RelL.set{v:V}{d:W}(t:Rel K ρ H v d):∀{vs:List V} {ds:List W} (i:Nat),RelL K ρ H vs ds->RelL K ρ H (vs.set i v) (ds.set i d)
 |_,_,_,.nil=>.nil
 |_,_,0,.cons _ r=>.cons t r
 |_,_,i+1,.cons u r=>.cons u (RelL.set t i r)
theorem RelL.getD:∀{vs:List V} {ds:List W} {i:Nat} {d:W},RelL K ρ H vs ds->ds[i]? = some d->∃v,vs[i]? = some v/\Rel K ρ H v d
 |_,_,_,_,.nil,h=>by simp at h
 |_,_,0,_,.cons t _,h=>by cases h;exact⟨_,rfl,t⟩
 |_,_,i+1,_,.cons _ t,h=>t.getD (i:=i) (by simpa using h)
theorem Zv.mono(s:Stp ρ H ρ' H'){a:Addr}{c:Cell}(e:H' a=H a)(h:Zv K ρ H a c):Zv K ρ' H' a c:=by
 cases c with
 |pl ds=>obtain⟨vs,h1,h2⟩:=h;exact⟨vs,by rw[e];exact h1,h2.mono s⟩
 |rl ws=>obtain⟨vs,h1,h2⟩:=h;exact⟨vs,by rw[e];exact h1,h2.mono s⟩
 |dk ws=>obtain⟨vs,h1,h2⟩:=h;exact⟨vs,by rw[e];exact h1,h2.mono s⟩
 |ob c fs=>obtain⟨C,dx,vs,h0,h1,h2⟩:=h;exact⟨C,dx,vs,h0,by rw[e];exact h1,h2.mono s⟩
theorem Zv.less(hc : ρ'.c = ρ.c)(s:∀a,ρ'.mem a->ρ.mem a){a:Addr}{c:Cell}(h:Zv K ρ H a c):Zv K ρ' H a c:=by
 cases c with
 |pl ds=>obtain⟨vs,h1,h2⟩:=h;exact⟨vs,h1,h2.less s⟩
 |rl ws=>obtain⟨vs,h1,h2⟩:=h;exact⟨vs,h1,h2.less hc s⟩
 |dk ws=>obtain⟨vs,h1,h2⟩:=h;exact⟨vs,h1,h2.less hc s⟩
 |ob c fs=>obtain⟨C,dx,vs,h0,h1,h2⟩:=h;exact⟨C,dx,vs,h0,h1,h2.less hc s⟩
theorem Zv.has{a:Addr}{c:Cell}(h:Zv K ρ H a c):∃o,H a=some o:=by
 cases c with
 |pl ds=>obtain⟨vs,h1,h2⟩:=h;exact⟨_,h1⟩
 |rl ws=>obtain⟨vs,h1,h2⟩:=h;exact⟨_,h1⟩
 |dk ws=>obtain⟨vs,h1,h2⟩:=h;exact⟨_,h1⟩
 |ob c fs=>obtain⟨C,dx,vs,h0,h1,h2⟩:=h;exact⟨_,h1⟩
structure HR (K:PySem.W.Frag) (ρ : Rh) (H:Hp) (g:G):Prop where
 len : ρ.c.length=g.length
 nd : ρ.c.Nodup
 ce:∀(n:Nat) (c:Cell),g[n]? = some c->∃a,ρ.c[n]? = some a/\Zv K ρ H a c
 hid:∀a∈ρ.h,a∉ρ.c/\∃o,H a=some o
theorem HR.at_{g:G}(h:HR K ρ H g):∀(n:Nat) (ds:List PyData),g[n]? = some (.pl ds)->∃a vs,ρ.c[n]? = some a/\H a=some (.lst vs)/\RelDL K ρ H vs ds:=λn ds e=>by
 obtain⟨a,h1,vs,h2,h3⟩:=h.ce n _ e;exact⟨a,vs,h1,h2,h3⟩
theorem HR.has{g:G}(h:HR K ρ H g){a:Addr}(ha:a∈ρ.c):∃o,H a=some o:=by
 obtain⟨n,hn⟩:=List.mem_iff_getElem?.mp ha;have hl:=(List.getElem?_eq_some_iff.mp hn).1;rw[h.len] at hl;obtain⟨a',e,hv⟩:=h.ce n _ (getElem?_eq_getElem hl);rw[hn] at e;cases e;exact hv.has
theorem HR.nin{g:G}(h:HR K ρ H g){p:Addr}(hp:H p=none) : ¬ρ.mem p:=λz=>by
 rcases z with z|z
 ·obtain⟨vs,e⟩:=h.has z
  rw[hp] at e;cases e
 ·obtain⟨_,o,e⟩:=h.hid _ z
  rw[hp] at e;cases e
theorem HR.same{g:G}(s:Same H H')(h:HR K ρ H g):HR K ρ H' g:=⟨h.len,h.nd,λn ds e=>by
 obtain⟨a,h1,h2⟩:=h.ce n ds e;obtain⟨o,h3⟩:=h2.has;exact⟨a,h1,h2.mono (Stp.same s) (by rw[h3];exact s _ _ h3)⟩,λa z=>by
 obtain⟨h1,o,e⟩:=h.hid a z;exact⟨h1,o,s _ _ e⟩⟩
noncomputable def Rh.add(ρ : Rh)(p:Addr):Rh:=⟨ρ.c++[p],ρ.h⟩
theorem HR.allocC{g:G}(h:HR K ρ H g){p:Addr}(hp:H p=none){o:HO}{c:Cell}(t:Stp ρ H (ρ.add p) (upd H p o)->Zv K (ρ.add p) (upd H p o) p c):HR K (ρ.add p) (upd H p o) (g++[c])/\Stp ρ H (ρ.add p) (upd H p o):=by
 have s:Stp ρ H (ρ.add p) (upd H p o):=⟨⟨[p],rfl⟩,rfl,λa o e _=>by rw[ZD (ZG e hp)];exact e,λa z=>by
  rcases List.mem_append.mp z with z|z
  ·exact .inl z
  ·rw[List.mem_singleton.mp z];exact .inr hp,λa u e=>⟨u,by rw[ZD (ZG e hp)];exact e,rfl⟩⟩
 refine⟨⟨by show(ρ.c++[p]).length=_;rw[length_append,length_append,h.len];rfl,?_,λn d e=>?_,λa z=>?_⟩,s⟩
 ·show(ρ.c++[p]).Nodup
  rw[nodup_append];refine⟨h.nd,by simp,λa ha b hb=>?_⟩;rw[List.mem_singleton.mp hb];intro z;rw[z] at ha;exact h.nin hp (.inl ha)
 ·show ∃a,(ρ.c++[p])[n]? = some a/\_
  by_cases hn:n<g.length
  ·rw[getElem?_append_left hn] at e
   obtain⟨a,h1,h2⟩:=h.ce n d e;obtain⟨u,h3⟩:=h2.has;exact⟨a,by rw[getElem?_append_left (by rw[h.len];exact hn)];exact h1,h2.mono s (ZD (ZG h3 hp))⟩
  ·have hl:n<(g++[c]).length:=(List.getElem?_eq_some_iff.mp e).1
   have hn':n=g.length:=by rw[length_append] at hl;simp at hl;omega
   rw[hn',getElem?_append_right (le_refl _)] at e;simp at e;subst e;refine⟨p,?_,t s⟩;rw[hn',←h.len,getElem?_append_right (le_refl _)];simp
 ·obtain⟨h1,u,e⟩:=h.hid a z
  refine⟨λq=>?_,u,by rw[ZD (ZG e hp)];exact e⟩;rcases List.mem_append.mp q with q|q
  ·exact h1 q
  ·rw[List.mem_singleton.mp q] at e;rw[e] at hp;cases hp
theorem HR.alloc{g:G}(h:HR K ρ H g){p:Addr}(hp:H p=none){vs:List V}{ds:List PyData}(t:RelDL K ρ H vs ds):HR K (ρ.add p) (upd H p (.lst vs)) (g++[.pl ds])/\Stp ρ H (ρ.add p) (upd H p (.lst vs)):=h.allocC hp λs=>⟨vs,ZC,t.mono s⟩
theorem HR.writeC{g:G}(h:HR K ρ H g){n:Nat}{a:Addr}(ha : ρ.c[n]? = some a){o:HO}{c:Cell}(hk:∀u,H a=some u->kdO o=kdO u)(t:Stp ρ H ρ (upd H a o)->Zv K ρ (upd H a o) a c):HR K ρ (upd H a o) (g.set n c)/\Stp ρ H ρ (upd H a o):=by
 have hm:a∈ρ.c:=mem_of_getElem? ha;have s:Stp ρ H ρ (upd H a o):=⟨⟨[],(append_nil _).symm⟩,rfl,λb o e nb=>by rw[ZD (λz=>nb (by rw[z];exact hm))];exact e,λ_ z=>.inl z,λb u e=>by
  by_cases q:b=a
  ·subst q;exact⟨o,ZC,hk u e⟩
  ·exact⟨u,by rw[ZD q];exact e,rfl⟩⟩
 refine⟨⟨by rw[length_set,h.len],h.nd,λm d e=>?_,λb z=>?_⟩,s⟩
 ·by_cases hnm:n=m
  ·subst hnm
   have hl:n<g.length:=by have:=(List.getElem?_eq_some_iff.mp e).1;rw[length_set] at this;exact this
   rw[getElem?_set_self hl] at e;cases e;exact⟨a,ha,t s⟩
  ·rw[getElem?_set_ne hnm] at e
   obtain⟨b,h1,h2⟩:=h.ce m d e;have:b≠a:=λz=>by
    rw[z] at h1;have l1:=(List.getElem?_eq_some_iff.mp h1).1;have e1:=(List.getElem?_eq_some_iff.mp h1).2;have l2:=(List.getElem?_eq_some_iff.mp ha).1;have e2:=(List.getElem?_eq_some_iff.mp ha).2;rcases Nat.lt_or_gt_of_ne hnm with q|q
    ·exact(List.pairwise_iff_getElem.mp h.nd n m l2 l1 q) (by rw[e1,e2])
    ·exact(List.pairwise_iff_getElem.mp h.nd m n l1 l2 q) (by rw[e1,e2])
   exact⟨b,h1,h2.mono s (ZD this)⟩
 ·obtain⟨h1,u,e⟩:=h.hid b z
  exact⟨h1,u,by rw[ZD (λq=>h1 (by rw[q];exact hm))];exact e⟩
theorem HR.write{g:G}(h:HR K ρ H g){n:Nat}{a:Addr}(ha : ρ.c[n]? = some a){us:List V}(hl:H a=some (.lst us)){vs:List V}{ds:List PyData}(t:RelDL K ρ H vs ds):HR K ρ (upd H a (.lst vs)) (g.set n (.pl ds))/\Stp ρ H ρ (upd H a (.lst vs)):=h.writeC ha (λu e=>by rw[hl] at e;cases e;rfl) λs=>⟨vs,ZC,t.mono s⟩
theorem ZAO{g:G}(h:HR K ρ H g){p:Addr}{o:HO}(hp:H p=none):Same H (upd H p o)/\HR K ρ (upd H p o) g/\¬ρ.mem p:=⟨H1.Same.upd hp,h.same (H1.Same.upd hp),h.nin hp⟩
noncomputable def Rh.hide(ρ : Rh)(p:Addr):Rh:=⟨ρ.c,p::ρ.h⟩
theorem FzL.hide{a p:Addr}{xs:List V}(hp:H p=none)(h:FzL K ρ H a xs):FzL K (ρ.hide p) (upd H p o) a xs:=by
 rcases h with ⟨h,n⟩|h
 ·have hn:a≠p:=by
   rcases h with h|⟨_,h⟩ <;> exact ZG h hp
  refine .inl ⟨?_,λz=>z.elim (λq=>n (.inl q)) λq=>(List.mem_cons.mp q).elim hn λq=>n (.inr q)⟩;unfold Rd;rw[ZD hn];exact h
 ·exact .inr h
theorem FzT.hide{a p:Addr}{xs:List V}(hp:H p=none)(h:FzT K ρ H a xs):FzT K (ρ.hide p) (upd H p o) a xs:=by
 rcases h with ⟨h,n⟩|h
 ·have hn:a≠p:=by
   rcases h with h|⟨_,h⟩ <;> exact ZG h hp
  refine .inl ⟨?_,λz=>z.elim (λq=>n (.inl q)) λq=>(List.mem_cons.mp q).elim hn λq=>n (.inr q)⟩;unfold Rd;rw[ZD hn];exact h
 ·exact .inr h
mutual
theorem RelD.hide{p:Addr}{o:HO}(hp:H p=none):∀{v:V} {d:PyData},RelD K ρ H v d->RelD K (ρ.hide p) (upd H p o) v d
 |_,_,.non=>.non
 |_,_,.bl b=>.bl b
 |_,_,.int i=>.int i
 |_,_,.str x=>.str x
 |_,_,.tup h hl=>.tup (h.hide hp) (RelDL.hide hp hl)
 |_,_,.lst h n hl=>.lst (by rw[ZD (ZG h hp)];exact h) (λz=>z.elim (λq=>n (.inl q)) λq=>(List.mem_cons.mp q).elim (ZG h hp) λq=>n (.inr q)) (RelDL.hide hp hl)
 |_,_,.dct h n=>.dct (by rw[ZD (ZG h hp)];exact h) λz=>z.elim (λq=>n (.inl q)) λq=>(List.mem_cons.mp q).elim (ZG h hp) λq=>n (.inr q)
theorem RelDL.hide{p:Addr}{o:HO}(hp:H p=none):∀{vs:List V} {ds:List PyData},RelDL K ρ H vs ds->RelDL K (ρ.hide p) (upd H p o) vs ds
 |_,_,.nil=>.nil
 |_,_,.cons h hl=>.cons (RelD.hide hp h) (RelDL.hide hp hl)
end
theorem ZC8.hide{p:Addr}{o:HO}{x:Addr}{nm:Str}{t:Option Int}(hp:H p=none)(h:ZC8 K ρ H x nm t):ZC8 K (ρ.hide p) (upd H p o) x nm t:=by
 obtain⟨C,od,y,e,⟨hx,nx⟩,h0,ha⟩:=h;have nm:∀a u,H a=some u->¬ρ.mem a->¬(ρ.hide p).mem a:=λa u e n z=>z.elim (λq=>n (.inl q)) λq=>(List.mem_cons.mp q).elim (ZG e hp) λq=>n (.inr q)
 refine⟨C,od,y,e,⟨by rw[ZD (ZG hx hp)];exact hx,nm _ _ hx nx⟩,h0,λn q=>?_⟩;obtain⟨dx,e1,e2,e3⟩:=ha n q;exact⟨dx,e1,by rw[ZD (ZG e2 hp)];exact e2,nm _ _ e2 e3⟩
mutual
theorem Rel.hide{p:Addr}{o:HO}(hp:H p=none):∀{v:V} {x:W},Rel K ρ H v x->Rel K (ρ.hide p) (upd H p o) v x
 |_,_,.dat h=>.dat (h.hide hp)
 |_,_,.ref h=>.ref h
 |_,_,.inp h=>.inp (h.hide hp)
 |_,_,.ty=>.ty
 |_,_,.exc h=>.exc (h.hide hp)
 |_,_,.tup h t=>.tup (h.hide hp) (RelL.hide hp t)
theorem RelL.hide{p:Addr}{o:HO}(hp:H p=none):∀{vs:List V} {xs:List W},RelL K ρ H vs xs->RelL K (ρ.hide p) (upd H p o) vs xs
 |_,_,.nil=>.nil
 |_,_,.cons h t=>.cons (Rel.hide hp h) (RelL.hide hp t)
end
theorem RelF.hide{p:Addr}{o:HO}(hp:H p=none):∀{ns:List Str} {vs:List (Str×V)} {xs:List W},RelF K ρ H ns vs xs->RelF K (ρ.hide p) (upd H p o) ns vs xs
 |_,_,_,.nil=>.nil
 |_,_,_,.cons h t=>.cons (h.hide hp) (t.hide hp)
theorem RelK.hide{p:Addr}{o:HO}(hp:H p=none):∀{vs:List (Key×V)} {xs:List (Key×W)},RelK K ρ H vs xs->RelK K (ρ.hide p) (upd H p o) vs xs
 |_,_,.nil=>.nil
 |_,_,.cons h t=>.cons (h.hide hp) (t.hide hp)
theorem Zv.hide{p:Addr}{o:HO}(hp:H p=none){a:Addr}{c:Cell}(h:Zv K ρ H a c):Zv K (ρ.hide p) (upd H p o) a c:=by
 obtain⟨u,hu⟩:=h.has;have e:upd H p o a=H a:=ZD (ZG hu hp);cases c with
 |pl ds=>obtain⟨vs,h1,h2⟩:=h;exact⟨vs,by rw[e];exact h1,h2.hide hp⟩
 |rl ws=>obtain⟨vs,h1,h2⟩:=h;exact⟨vs,by rw[e];exact h1,h2.hide hp⟩
 |dk ws=>obtain⟨vs,h1,h2⟩:=h;exact⟨vs,by rw[e];exact h1,h2.hide hp⟩
 |ob c fs=>obtain⟨C,dx,vs,h0,h1,h2⟩:=h;exact⟨C,dx,vs,h0,by rw[e];exact h1,h2.hide hp⟩
theorem HR.hide{g:G}{p:Addr}{o:HO}(hp:H p=none)(h:HR K ρ H g):HR K (ρ.hide p) (upd H p o) g:=⟨h.len,h.nd,λn ds e=>by
 obtain⟨a,h1,h2⟩:=h.ce n ds e;exact⟨a,h1,h2.hide hp⟩,λa z=>by
 rcases List.mem_cons.mp z with rfl|z
 ·exact⟨λq=>h.nin hp (.inl q),o,ZC⟩
 ·obtain⟨h1,u,e⟩:=h.hid a z
  exact⟨h1,u,by rw[ZD (ZG e hp)];exact e⟩⟩
theorem FzL.grow{a p:Addr}{xs:List V}(hp:p∈ρ.h)(h:FzL K ρ H a xs):FzL K ρ (upd H p o) a xs:=by
 rcases h with ⟨h,n⟩|h
 ·refine .inl ⟨?_,n⟩
  unfold Rd;rw[ZD λz=>n (.inr (by rw[z];exact hp))];exact h
 ·exact .inr h
theorem FzT.grow{a p:Addr}{xs:List V}(hp:p∈ρ.h)(h:FzT K ρ H a xs):FzT K ρ (upd H p o) a xs:=by
 rcases h with ⟨h,n⟩|h
 ·refine .inl ⟨?_,n⟩
  unfold Rd;rw[ZD λz=>n (.inr (by rw[z];exact hp))];exact h
 ·exact .inr h
mutual
theorem RelD.grow{p:Addr}{o:HO}(hp:p∈ρ.h):∀{v:V} {d:PyData},RelD K ρ H v d->RelD K ρ (upd H p o) v d
 |_,_,.non=>.non
 |_,_,.bl b=>.bl b
 |_,_,.int i=>.int i
 |_,_,.str x=>.str x
 |_,_,.tup h hl=>.tup (h.grow hp) (RelDL.grow hp hl)
 |_,_,.lst h n hl=>.lst (by rw[ZD λz=>n (.inr (by rw[z];exact hp))];exact h) n (RelDL.grow hp hl)
 |_,_,.dct h n=>.dct (by rw[ZD λz=>n (.inr (by rw[z];exact hp))];exact h) n
theorem RelDL.grow{p:Addr}{o:HO}(hp:p∈ρ.h):∀{vs:List V} {ds:List PyData},RelDL K ρ H vs ds->RelDL K ρ (upd H p o) vs ds
 |_,_,.nil=>.nil
 |_,_,.cons h hl=>.cons (RelD.grow hp h) (RelDL.grow hp hl)
end
theorem ZC8.grow{p:Addr}{o:HO}{x:Addr}{nm:Str}{t:Option Int}(hp:p∈ρ.h)(h:ZC8 K ρ H x nm t):ZC8 K ρ (upd H p o) x nm t:=by
 obtain⟨C,od,y,e,⟨hx,nx⟩,h0,ha⟩:=h;refine⟨C,od,y,e,⟨by rw[ZD λz=>nx (.inr (by rw[z];exact hp))];exact hx,nx⟩,h0,λn q=>?_⟩;obtain⟨dx,e1,e2,e3⟩:=ha n q;exact⟨dx,e1,by rw[ZD λz=>e3 (.inr (by rw[z];exact hp))];exact e2,e3⟩
mutual
theorem Rel.grow{p:Addr}{o:HO}(hp:p∈ρ.h):∀{v:V} {x:W},Rel K ρ H v x->Rel K ρ (upd H p o) v x
 |_,_,.dat h=>.dat (h.grow hp)
 |_,_,.ref h=>.ref h
 |_,_,.inp h=>.inp (h.grow hp)
 |_,_,.ty=>.ty
 |_,_,.exc h=>.exc (h.grow hp)
 |_,_,.tup h t=>.tup (h.grow hp) (RelL.grow hp t)
theorem RelL.grow{p:Addr}{o:HO}(hp:p∈ρ.h):∀{vs:List V} {xs:List W},RelL K ρ H vs xs->RelL K ρ (upd H p o) vs xs
 |_,_,.nil=>.nil
 |_,_,.cons h t=>.cons (Rel.grow hp h) (RelL.grow hp t)
end
theorem RelF.grow{p:Addr}{o:HO}(hp:p∈ρ.h):∀{ns:List Str} {vs:List (Str×V)} {xs:List W},RelF K ρ H ns vs xs->RelF K ρ (upd H p o) ns vs xs
 |_,_,_,.nil=>.nil
 |_,_,_,.cons h t=>.cons (h.grow hp) (t.grow hp)
theorem RelK.grow{p:Addr}{o:HO}(hp:p∈ρ.h):∀{vs:List (Key×V)} {xs:List (Key×W)},RelK K ρ H vs xs->RelK K ρ (upd H p o) vs xs
 |_,_,.nil=>.nil
 |_,_,.cons h t=>.cons (h.grow hp) (t.grow hp)
theorem HR.grow{g:G}{p:Addr}{o:HO}(hp:p∈ρ.h)(h:HR K ρ H g):HR K ρ (upd H p o) g:=⟨h.len,h.nd,λn ds e=>by
 obtain⟨a,h1,h2⟩:=h.ce n ds e;have eh:upd H p o a=H a:=ZD λz=>(h.hid p hp).1 (by rw[←z];exact mem_of_getElem? h1)
 refine⟨a,h1,?_⟩;cases ds with
 |pl ds=>obtain⟨vs,h1,h2⟩:=h2;exact⟨vs,by rw[eh];exact h1,h2.grow hp⟩
 |rl ws=>obtain⟨vs,h1,h2⟩:=h2;exact⟨vs,by rw[eh];exact h1,h2.grow hp⟩
 |dk ws=>obtain⟨vs,h1,h2⟩:=h2;exact⟨vs,by rw[eh];exact h1,h2.grow hp⟩
 |ob c fs=>obtain⟨C,dx,vs,h0,h1,h2⟩:=h2;exact⟨C,dx,vs,h0,by rw[eh];exact h1,h2.grow hp⟩,λa z=>by
 obtain⟨h1,u,e⟩:=h.hid a z
 by_cases q:a=p
 ·subst q;exact⟨h1,o,ZC⟩
 ·exact⟨h1,u,by rw[ZD q];exact e⟩⟩
theorem HR.shown{g:G}{p:Addr}(h:HR K (ρ.hide p) H g):HR K ρ H g:=⟨h.len,h.nd,λn ds e=>by
 obtain⟨a,h1,h2⟩:=h.ce n ds e;exact⟨a,h1,h2.less (ρ':=ρ) (ρ:=ρ.hide p) rfl (λ_ z=>z.elim .inl λq=>.inr (mem_cons_of_mem _ q))⟩,λa z=>h.hid a (mem_cons_of_mem _ z)⟩
end
structure Rst (K:PySem.W.Frag) (ρ : Rh) (H:Hp) (σ : St) (sd:Sd) (g:G):Prop where
 len : σ.length=sd.length
 env:∀(i:Nat) (x:W),sd[i]? = some (some x)->∃v,σ[i]? = some (some v)/\Rel K ρ H v x
 hr:HR K ρ H g
theorem Rst.step{K:PySem.W.Frag}{ρ ρ':Rh}{H H':Hp}{σ : St}{sd:Sd}{g g':G}(r:Rst K ρ H σ sd g)(s:Stp ρ H ρ' H')(h:HR K ρ' H' g'):Rst K ρ' H' σ sd g':=⟨r.len,λi x e=>by
 obtain⟨v,h1,h2⟩:=r.env i x e;exact⟨v,h1,h2.mono s⟩,h⟩
theorem Rst.set{K:PySem.W.Frag}{ρ : Rh}{H:Hp}{σ : St}{sd:Sd}{g:G}(r:Rst K ρ H σ sd g){v:V}{x:W}(t:Rel K ρ H v x)(i:Nat):Rst K ρ H (σ.set i (some v)) (sd.set i (some x)) g:=⟨by rw[length_set,length_set,r.len],λj y e=>by
 by_cases hj:i=j
 ·subst hj
  have hl:i<sd.length:=by have:=(List.getElem?_eq_some_iff.mp e).1;rw[length_set] at this;exact this
  rw[getElem?_set_self hl] at e;cases e;exact⟨v,by rw[getElem?_set_self (by rw[r.len];exact hl)],t⟩
 ·rw[getElem?_set_ne hj] at e
  obtain⟨u,h1,h2⟩:=r.env j y e;exact⟨u,by rw[getElem?_set_ne hj];exact h1,h2⟩,r.hr⟩
noncomputable abbrev DE:=Sd->G->Option (W×G)
noncomputable abbrev DB:=Sd->G->Option (Bool×G)
noncomputable abbrev DA:=Sd->G->Option (List W×G)
noncomputable def Pv(K:PySem.W.Frag)(ρ : Rh)(H:Hp)(x:W)(g:G)(Q:VK):Prop:=∀v H' ρ',Stp ρ H ρ' H'->HR K ρ' H' g->Rel K ρ' H' v x->Q v H'
theorem Pv.step{K:PySem.W.Frag}{ρ ρ':Rh}{H H':Hp}{x:W}{g:G}{Q:VK}(p:Pv K ρ H x g Q)(s:Stp ρ H ρ' H'):Pv K ρ' H' x g Q:=λv H2 ρ2 s2 h r=>p v H2 ρ2 (s.trans s2) h r
noncomputable def tE(K:PySem.W.Frag)(d:DE):TE:=λσ H Q=>∃ρ sd g x g',Rst K ρ H σ sd g/\d sd g=some (x,g')/\Pv K ρ H x g' Q
noncomputable def tT(K:PySem.W.Frag)(d:DB):TT:=λσ H Q=>∃ρ sd g b g',Rst K ρ H σ sd g/\d sd g=some (b,g')/\∀H' ρ',Stp ρ H ρ' H'->HR K ρ' H' g'->Q b H'
noncomputable def tA(K:PySem.W.Frag)(d:DA):TA:=λσ H Q=>∃ρ sd g xs g',Rst K ρ H σ sd g/\d sd g=some (xs,g')/\∀vs H' ρ',Stp ρ H ρ' H'->HR K ρ' H' g'->RelL K ρ' H' vs xs->Q vs H'
theorem PE.imp{X:Cx}{e:Expr}{t u:TE}(h:PE X e t)(k:∀σ H Q,u σ H Q->t σ H Q):PE X e u:=λpins s σ H Q I q=>h pins s σ H Q I (k σ H Q q)
theorem PT.imp{X:Cx}{e:Expr}{t u:TT}(h:PT X e t)(k:∀σ H Q,u σ H Q->t σ H Q):PT X e u:=λpins s σ H Q I q=>h pins s σ H Q I (k σ H Q q)
theorem PW.imp{X:Cx}{e:Expr}{t u:TT}(h:PW X e t)(k:∀σ H Q,u σ H Q->t σ H Q):PW X e u:=λwh pins s σ H Q I q=>h wh pins s σ H Q I (k σ H Q q)
theorem PA.imp{X:Cx}{e:List Expr}{t u:TA}(h:PA X e t)(k:∀σ H Q,u σ H Q->t σ H Q):PA X e u:=λpos pins s σ H Q I q=>h pos pins s σ H Q I (k σ H Q q)
theorem PS.imp{X:Cx}{e:Stmt}{t u:TS}(h:PS X e t)(k:∀D σ H,u D σ H->t D σ H):PS X e u:=λpins s σ H D I q=>h pins s σ H D I (k D σ H q)
theorem PSs.imp{X:Cx}{e:List Stmt}{t u:TS}(h:PSs X e t)(k:∀D σ H,u D σ H->t D σ H):PSs X e u:=λpins s σ H D I q=>h pins s σ H D I (k D σ H q)
theorem OpR.imp{X:Cx}{f:Value->Value->Sem Value}{r r':R2}(h:OpR X f r)(k:∀x y H Q,r' x y H Q->r x y H Q):OpR X f r':=λpins s σ H x y v u Q I rx ry q=>h pins s σ H x y v u Q I rx ry (k x y H Q q)
theorem ZN.imp{X:Cx}{f:Value}{r r':List V->Hp->VK->Prop}(h:ZN X f r)(k:∀xs H Q,r' xs H Q->r xs H Q):ZN X f r':=λpins s σ H xs us Q I rx q=>h pins s σ H xs us Q I rx (k xs H Q q)
noncomputable def ZB(i:Nat):DE:=λsd g=>match sd.getD i none with|some x=>some (x,g)|none=>none
noncomputable def dC(d:PyData):DE:=λ_ g=>some (.dat d,g)
noncomputable def dOp(f:W->W->G->Option (W×G))(da db:DE):DE:=λsd g=>(da sd g).bind λp=>(db sd p.2).bind λq=>f p.1 q.1 q.2
noncomputable def dUn(f:W->G->Option (W×G))(da:DE):DE:=λsd g=>(da sd g).bind λp=>f p.1 p.2
noncomputable def bW:W×G->Option (Bool×G)
 |(.dat (.bool b),g)=>some (b,g)
 |_=>none
noncomputable def dB(d:DE):DB:=λsd g=>(d sd g).bind bW
noncomputable def ZDW(d:DB):DB:=λsd g=>(d sd g).map λp=>(!p.1,p.2)
noncomputable def ZHM(d e:DB):DB:=λsd g=>(d sd g).bind λp=>if p.1=true then e sd p.2 else some (false,p.2)
noncomputable def dOr(d e:DB):DB:=λsd g=>(d sd g).bind λp=>if p.1=true then some (true,p.2) else e sd p.2
noncomputable def dIf(c:DB)(a b:DE):DE:=λsd g=>(c sd g).bind λp=>if p.1=true then a sd p.2 else b sd p.2
noncomputable def ZE:DA:=λ_ g=>some ([],g)
noncomputable def ZA(d:DE)(a:DA):DA:=λsd g=>(d sd g).bind λp=>(a sd p.2).map λq=>(p.1::q.1,q.2)
noncomputable def dF(f:List W->G->Option (W×G))(a:DA):DE:=λsd g=>(a sd g).bind λp=>f p.1 p.2
noncomputable def dats:List W->Option (List PyData)
 |[]=>some []
 |.dat d::r=>(dats r).map λds=>d::ds
 |_::_=>none
noncomputable def ZDz(ws:List W)(g:G):Option (W×G):=(dats ws).bind λds=>if ds.length<=1000 then some (.dat (.tuple ds),g) else none
noncomputable def ZDy(ws:List W)(g:G):Option (W×G):=(dats ws).bind λds=>if ds.length<=1000 then some (.dat (.list ds),g) else none
noncomputable def ZDp(ws:List W)(g:G):Option (W×G):=(dats ws).bind λds=>if ds.length<=1000 then some (.ref g.length,g++[.pl ds]) else none
noncomputable def rOp(K:PySem.W.Frag)(f:W->W->G->Option (W×G)):R2:=λx y H Q=>∃ρ a b g z g',HR K ρ H g/\Rel K ρ H x a/\Rel K ρ H y b/\f a b g=some (z,g')/\Pv K ρ H z g' Q
noncomputable def rF(K:PySem.W.Frag)(f:List W->G->Option (W×G)):List V->Hp->VK->Prop:=λxs H Q=>∃ρ ws g z g',HR K ρ H g/\RelL K ρ H xs ws/\f ws g=some (z,g')/\Pv K ρ H z g' Q
theorem bnd{α β : Type}{o:Option α}{f : α->Option β}{y : β}(h:o.bind f=some y):∃x,o=some x/\f x=some y:=by
 cases o with
 |none=>cases h
 |some x=>exact⟨x,rfl,h⟩
theorem mp{α β : Type}{o:Option α}{f : α->β}{y : β}(h:o.map f=some y):∃x,o=some x/\f x=y:=by
 cases o with
 |none=>cases h
 |some x=>exact⟨x,rfl,Option.some.inj h⟩
theorem ZDF{K:PySem.W.Frag}{ρ : Rh}{H:Hp}{ws:List W}:∀{vs:List V} {ds:List PyData},RelL K ρ H vs ws->dats ws=some ds->RelDL K ρ H vs ds:=by
 induction ws with
 |nil=>intro vs ds t e;cases t;cases e;exact .nil
 |cons w r ih =>
  intro vs ds t e;cases t with
  |cons h t =>
   cases h with
   |dat h =>
    obtain⟨x,e1,rfl⟩:=mp e;exact .cons h (ih t e1)
   |_=>cases e
section
variable{X:Cx}{a b c e:Expr}{es:List Expr}{da db dc d:DE}{ta tb:DB}{aa:DA}{pos p2:Pos}{f f':W->W->G->Option (W×G)}
theorem ZRo(i:Nat){x:Str}{pos:Pos}(hN:X.N[i]? = some x:=by rfl)(hv:Vis X.env.scope x:=by first|exact Or.inl rfl|exact Or.inr (Or.inl rfl)|exact Or.inr (Or.inr rfl))(hd:(x == ("__debug__" : Str))=false:=by decide)
  (hcd:(x == ("__classdict__" : Str))=false:=by decide):PE X (.Name x pos) (tE X.K (ZB i)):=(ZQd hN hv hd hcd).imp λσ H Q ⟨ρ,sd,g,y,g',r,e,q⟩=>by
 unfold ZB at e;cases h:sd.getD i none with
 |none=>rw[h] at e;cases e
 |some z =>
  rw[h] at e;cases e;have h':sd[i]? = some (some y):=by
   rw[List.getD_eq_getElem?_getD] at h;cases k:sd[i]? with
   |none=>rw[k] at h;cases h
   |some w=>rw[k] at h;exact congrArg some h
  obtain⟨v,h1,h2⟩:=r.env i y h';exact⟨v,h1,q v H ρ .refl r.hr h2⟩
theorem ZK6{v:V}{d:PyData}(h:PE X e (tC v))(r:∀ρ H,RelD X.K ρ H v d):PE X e (tE X.K (dC d)):=h.imp λσ H Q ⟨ρ,sd,g,y,g',hr,e,q⟩=>by
 cases e;exact q v H ρ .refl hr.hr (.dat (r ρ H))
theorem ZRt{i j pos}:PE X (.Constant (.int i) j pos) (tE X.K (dC (.int i))):=ZK6 ZIe λ_ _=>.int i
theorem de_bl{b j pos}:PE X (.Constant (.bool b) j pos) (tE X.K (dC (.bool b))):=ZK6 pe_bl λ_ _=>.bl b
theorem ZRN{j pos}:PE X (.Constant .none j pos) (tE X.K (dC .none)):=ZK6 ZQw λ_ _=>.non
theorem ZQB{x j pos}:PE X (.Constant (.str x) j pos) (tE X.K (dC (.str x))):=ZK6 ZQe λ_ _=>.str x
theorem ZM4{x:Str}{n:Int}(hg:Gl X x)(h:ZOz X.mg x n)(hd:(x == ("__debug__" : Str))=false:=by decide):PE X (.Name x pos) (tE X.K (dC (.int n))):=ZK6 (ZMx hg h hd) λ_ _=>.int n
theorem ZJz{σ : St}{H:Hp}{Q:VK}(h:tE X.K (dOp f da db) σ H Q):tOp (rOp X.K f) (tE X.K da) (tE X.K db) σ H Q:=by
 obtain⟨ρ,sd,g,x,g',r,e,q⟩:=h;obtain⟨⟨y,g1⟩,e1,e⟩:=bnd e;obtain⟨⟨z,g2⟩,e2,e⟩:=bnd e;refine⟨ρ,sd,g,y,g1,r,e1,λv H1 ρ1 s1 h1 r1=>⟨ρ1,sd,g1,z,g2,r.step s1 h1,e2,λw H2 ρ2 s2 h2 r2=>?_⟩⟩;exact⟨ρ2,y,z,g2,x,g',h2,r1.mono s2,r2,e,q.step (s1.trans s2)⟩
theorem de_op{op:Operator}(ho:OpR X (binaryOp op) (rOp X.K f))(ha:PE X a (tE X.K da))(hb:PE X b (tE X.K db)):PE X (.BinOp a op b pos) (tE X.K (dOp f da db)):=(ZPq ho ha hb).imp λ_ _ _ h=>ZJz h
theorem ZRp{op:CmpOp}(ho:OpR X (compareOp op) (rOp X.K f))(ha:PE X a (tE X.K da))(hb:PE X b (tE X.K db))(hm:behindInMarks op b=false):PE X (.Compare a [op] [b] pos) (tE X.K (dOp f da db)):=(ZOE ho ha hb hm).imp λ_ _ _ h=>ZJz h
theorem de_ix(ho:IxR X (rOp X.K f))(ha:PE X a (tE X.K da))(hb:PE X b (tE X.K db))(hs:ZGf b):PE X (.Subscript a b pos) (tE X.K (dOp f da db)):=(pe_ix ho ha hb hs).imp λ_ _ _ h=>ZJz h
theorem ZEV{K:PySem.W.Frag}{ρ : Rh}{H:Hp}{v:V}{x:W}{g g':G}{k:Bool}(r:Rel K ρ H v x)(h:bW (x,g)=some (k,g')):v=.bl k/\g=g':=by
 cases r with
 |ref _=>cases h
 |inp _=>cases h
 |ty=>cases h
 |exc _=>cases h
 |tup _ _=>cases h
 |dat r =>
  cases r with
  |bl c=>cases h;exact⟨rfl,rfl⟩
  |_=>cases h
theorem ZGa{σ : St}{H:Hp}{Q:Bool->Hp->Prop}{t:TE}(k:∀σ H Q,tE X.K d σ H Q->t σ H Q)(h:tT X.K (dB d) σ H Q):ZLO t σ H Q:=by
 obtain⟨ρ,sd,g,b,g',r,e,q⟩:=h;obtain⟨⟨y,g1⟩,e1,e⟩:=bnd e;refine k _ _ _ ⟨ρ,sd,g,y,g1,r,e1,λv H1 ρ1 s1 h1 r1=>?_⟩;obtain⟨rfl,rfl⟩:=ZEV r1 e;exact⟨b,rfl,q H1 ρ1 s1 h1⟩
theorem ZQJ{op:CmpOp}(ho:OpR X (compareOp op) (rOp X.K f))(ha:PE X a (tE X.K da))(hb:PE X b (tE X.K db))(hm:behindInMarks op b=false):PT X (.Compare a [op] [b] pos) (tT X.K (dB (dOp f da db))):=(ZOf ho ha hb hm).imp λ_ _ _ h=>ZGa (λ_ _ _ h=>ZJz h) h
theorem ZRj(h:PE X e (tE X.K d))(he:∀whole,isTrue e X.env whole=(do let v ←whole;standAt e.pos;holding [v] (truthy v)):=by intro _;rfl):PT X e (tT X.K (dB d)):=(ZQR h he).imp λ_ _ _ h=>ZGa (λ_ _ _ h=>h) h
noncomputable def ZCt(f f':W->W->G->Option (W×G))(da db dc:DE):DE:=λsd g=>(da sd g).bind λp=>(db sd p.2).bind λq=>(f p.1 q.1 q.2).bind λz=>(bW z).bind λk=>if k.1=true then (dc sd k.2).bind λu=>f' q.1 u.1 u.2 else some (.dat (.bool false),k.2)
theorem ZM7{σ : St}{H:Hp}{Q:VK}(h:tE X.K (ZCt f f' da db dc) σ H Q):ZNQ (rOp X.K f) (rOp X.K f') (tE X.K da) (tE X.K db) (tE X.K dc) σ H Q:=by
 obtain⟨ρ,sd,g,x,g',r,e,q⟩:=h;obtain⟨⟨y,g1⟩,e1,e⟩:=bnd e;obtain⟨⟨z,g2⟩,e2,e⟩:=bnd e;obtain⟨⟨u,g3⟩,e3,e⟩:=bnd e;obtain⟨⟨k,g4⟩,e4,e⟩:=bnd e;refine⟨ρ,sd,g,y,g1,r,e1,λv H1 ρ1 s1 h1 r1=>⟨ρ1,sd,g1,z,g2,r.step s1 h1,e2,λw H2 ρ2 s2 h2 r2=>⟨ρ2,y,z,g2,u,g3,h2,r1.mono s2,r2,e3,λt H3 ρ3 s3 h3 r3=>?_⟩⟩⟩;obtain⟨rfl,rfl⟩:=ZEV r3 e4;refine⟨k,rfl,?_⟩;have s13:=s1.trans (s2.trans s3);cases k with
 |true =>
  obtain⟨⟨u2,g5⟩,e5,e⟩:=bnd e;exact⟨ρ3,sd,g3,u2,g5,r.step s13 h3,e5,λt4 H4 ρ4 s4 h4 r4=>⟨ρ4,z,u2,g5,x,g',h4,(r2.mono s3).mono s4,r4,e,q.step (s13.trans s4)⟩⟩
 |false =>
  cases e;exact q (.bl false) H3 ρ3 s13 h3 (.dat (.bl false))
theorem ZLg{op op':CmpOp}(ho:OpR X (compareOp op) (rOp X.K f))(ho':OpR X (compareOp op') (rOp X.K f'))(ha:PE X a (tE X.K da))(hb:PE X b (tE X.K db))(hc:PE X c (tE X.K dc))(hm:lastMarks [op,op'] [b,c]=false:=by with_unfolding_all rfl) :
  PT X (.Compare a [op,op'] [b,c] pos) (tT X.K (dB (ZCt f f' da db dc))):=(ZNg ho ho' ha hb hc hm).imp λ_ _ _ h=>ZGa (λ_ _ _ h=>ZM7 h) h
theorem ZRz(h:PT X a (tT X.K ta)):PT X (.UnaryOp .Not a pos) (tT X.K (ZDW ta)):=(ZR8 h).imp λσ H Q ⟨ρ,sd,g,b,g',r,e,q⟩=>by
 obtain⟨⟨y,g1⟩,e1,e⟩:=mp e;cases e;exact⟨ρ,sd,g,y,g1,r,e1,q⟩
theorem ZOl(h:PT X a (tT X.K ta)):PW X (.BoolOp .And [a] pos) (tT X.K ta):=ZPB h
theorem ZRa(h:PT X a (tT X.K ta)):PW X (.BoolOp .Or [a] pos) (tT X.K ta):=ZRh h
theorem ZQZ{rest:List Expr}(ha:PT X a (tT X.K ta))(hb:PW X (.BoolOp .And (b::rest) pos) (tT X.K tb)):PW X (.BoolOp .And (a::b::rest) pos) (tT X.K (ZHM ta tb)):=(ZQ4 ha hb).imp λσ H Q ⟨ρ,sd,g,b,g',r,e,q⟩=>by
 obtain⟨⟨y,g1⟩,e1,e⟩:=bnd e;refine⟨ρ,sd,g,y,g1,r,e1,λH1 ρ1 s1 h1=>?_⟩;cases y with
 |true=>exact⟨ρ1,sd,g1,b,g',r.step s1 h1,e,λH2 ρ2 s2 h2=>q H2 ρ2 (s1.trans s2) h2⟩
 |false=>cases e;exact q H1 ρ1 s1 h1
theorem dw_or{rest:List Expr}(ha:PT X a (tT X.K ta))(hb:PW X (.BoolOp .Or (b::rest) pos) (tT X.K tb)):PW X (.BoolOp .Or (a::b::rest) pos) (tT X.K (dOr ta tb)):=(pw_or ha hb).imp λσ H Q ⟨ρ,sd,g,b,g',r,e,q⟩=>by
 obtain⟨⟨y,g1⟩,e1,e⟩:=bnd e;refine⟨ρ,sd,g,y,g1,r,e1,λH1 ρ1 s1 h1=>?_⟩;cases y with
 |false=>exact⟨ρ1,sd,g1,b,g',r.step s1 h1,e,λH2 ρ2 s2 h2=>q H2 ρ2 (s1.trans s2) h2⟩
 |true=>cases e;exact q H1 ρ1 s1 h1
noncomputable def ZB3(a b:DE):DE:=λsd g=>((a sd g).bind bW).bind λp=>if p.1=true then b sd p.2 else some (.dat (.bool false),p.2)
noncomputable def ZK5(a b:DE):DE:=λsd g=>((a sd g).bind bW).bind λp=>if p.1=true then some (.dat (.bool true),p.2) else b sd p.2
noncomputable def ZFh(a:DE):DE:=λsd g=>((a sd g).bind bW).map λp=>(.dat (.bool !p.1),p.2)
theorem ZRg{op}(h:PE X a (tE X.K da)):PE X (.BoolOp op [a] pos) (tE X.K da):=ZRQ h
theorem ZQM{rest:List Expr}(ha:PE X a (tE X.K da))(hb:PE X (.BoolOp .And (b::rest) pos) (tE X.K db)):PE X (.BoolOp .And (a::b::rest) pos) (tE X.K (ZB3 da db)):=(ZRK ha hb).imp λσ H Q ⟨ρ,sd,g,x,g',r,e,q⟩=>by
 obtain⟨⟨k,g2⟩,e1,e⟩:=bnd e;obtain⟨⟨y,g1⟩,e1,e2⟩:=bnd e1;refine⟨ρ,sd,g,y,g1,r,e1,λv H1 ρ1 s1 h1 r1=>?_⟩;obtain⟨rfl,rfl⟩:=ZEV r1 e2;refine⟨k,rfl,?_⟩;cases k with
 |true=>exact⟨ρ1,sd,g1,x,g',r.step s1 h1,e,q.step s1⟩
 |false=>cases e;exact q _ H1 ρ1 s1 h1 (.dat (.bl false))
theorem de_or{rest:List Expr}(ha:PE X a (tE X.K da))(hb:PE X (.BoolOp .Or (b::rest) pos) (tE X.K db)):PE X (.BoolOp .Or (a::b::rest) pos) (tE X.K (ZK5 da db)):=(pe_or ha hb).imp λσ H Q ⟨ρ,sd,g,x,g',r,e,q⟩=>by
 obtain⟨⟨k,g2⟩,e1,e⟩:=bnd e;obtain⟨⟨y,g1⟩,e1,e2⟩:=bnd e1;refine⟨ρ,sd,g,y,g1,r,e1,λv H1 ρ1 s1 h1 r1=>?_⟩;obtain⟨rfl,rfl⟩:=ZEV r1 e2;refine⟨k,rfl,?_⟩;cases k with
 |false=>exact⟨ρ1,sd,g1,x,g',r.step s1 h1,e,q.step s1⟩
 |true=>cases e;exact q _ H1 ρ1 s1 h1 (.dat (.bl true))
theorem ZQc(ha:PE X a (tE X.K da)):PE X (.UnaryOp .Not a pos) (tE X.K (ZFh da)):=(ZR5 ha).imp λσ H Q ⟨ρ,sd,g,x,g',r,e,q⟩=>by
 obtain⟨⟨k,g2⟩,e1,e⟩:=mp e;obtain⟨⟨y,g1⟩,e1,e2⟩:=bnd e1;refine⟨ρ,sd,g,y,g1,r,e1,λv H1 ρ1 s1 h1 r1=>?_⟩;obtain⟨rfl,rfl⟩:=ZEV r1 e2;cases e;exact⟨k,rfl,q _ H1 ρ1 s1 h1 (.dat (.bl _))⟩
theorem de_if(hc:PT X c (tT X.K ta))(ha:PE X a (tE X.K da))(hb:PE X b (tE X.K db)):PE X (.IfExp c a b pos) (tE X.K (dIf ta da db)):=(ZLx hc ha hb).imp λσ H Q ⟨ρ,sd,g,x,g',r,e,q⟩=>by
 obtain⟨⟨k,g1⟩,e1,e⟩:=bnd e;refine⟨ρ,sd,g,k,g1,r,e1,λH1 ρ1 s1 h1=>?_⟩;cases k with
 |true=>exact⟨ρ1,sd,g1,x,g',r.step s1 h1,e,q.step s1⟩
 |false=>exact⟨ρ1,sd,g1,x,g',r.step s1 h1,e,q.step s1⟩
theorem ZEk:PA X [] (tA X.K ZE):=ZGy.imp λσ H Q ⟨ρ,sd,g,xs,g',r,e,q⟩=>by
 cases e;exact q [] H ρ .refl r.hr .nil
theorem ZCS(ha:PE X e (tE X.K d))(hr:PA X es (tA X.K aa))(hs:starEach (e::es) X.env=(false,eval e X.env)::starEach es X.env:=by rfl):PA X (e::es) (tA X.K (ZA d aa)):=(ZCL ha hr hs).imp λσ H Q ⟨ρ,sd,g,xs,g',r,e,q⟩=>by
 obtain⟨⟨y,g1⟩,e1,e⟩:=bnd e;obtain⟨⟨ys,g2⟩,e2,e⟩:=mp e;cases e;exact⟨ρ,sd,g,y,g1,r,e1,λv H1 ρ1 s1 h1 r1=>⟨ρ1,sd,g1,ys,g2,r.step s1 h1,e2,λvs H2 ρ2 s2 h2 r2=>q (v::vs) H2 ρ2 (s1.trans s2) h2 (.cons (r1.mono s2) r2)⟩⟩
theorem ZQH{x1}(h:PA X es (tA X.K aa)):PE X (.Tuple es x1 pos) (tE X.K (dF ZDz aa)):=(ZIH h).imp λσ H Q ⟨ρ,sd,g,x,g',r,e,q⟩=>by
 obtain⟨⟨ws,g1⟩,e1,e⟩:=bnd e;refine⟨ρ,sd,g,ws,g1,r,e1,λvs H1 ρ1 s1 h1 r1=>?_⟩;obtain⟨ds,e2,e⟩:=bnd e;have rd:=ZDF r1 e2
 by_cases hz:ds.length<=1000
 ·simp only[if_pos hz] at e
  cases e;refine⟨by rw[rd.length];exact le_of_lt (ZS hz),λp hp=>?_⟩;obtain⟨sm,hr2,hn⟩:=ZAO (o:=.tup vs) h1 hp;exact q _ _ ρ1 (s1.trans (.same sm)) hr2 (.dat (.tup (.inl ⟨.inl ZC,hn⟩) (rd.mono (.same sm))))
 ·simp only[if_neg hz] at e
  cases e
theorem ZQ3(h:PA X es (tA X.K aa)):PE X (.List es pos) (tE X.K (dF ZDy aa)):=(ZIL h).imp λσ H Q ⟨ρ,sd,g,x,g',r,e,q⟩=>by
 obtain⟨⟨ws,g1⟩,e1,e⟩:=bnd e;refine⟨ρ,sd,g,ws,g1,r,e1,λvs H1 ρ1 s1 h1 r1=>?_⟩;obtain⟨ds,e2,e⟩:=bnd e;have rd:=ZDF r1 e2
 by_cases hz:ds.length<=1000
 ·simp only[if_pos hz] at e
  cases e;refine⟨by rw[rd.length];exact le_of_lt (ZS hz),λp hp=>?_⟩;obtain⟨sm,hr2,hn⟩:=ZAO (o:=.lst vs) h1 hp;exact q _ _ ρ1 (s1.trans (.same sm)) hr2 (.dat (.lst ZC hn (rd.mono (.same sm))))
 ·simp only[if_neg hz] at e
  cases e
theorem ZPT(h:PA X es (tA X.K aa)):PE X (.List es pos) (tE X.K (dF ZDp aa)):=(ZIL h).imp λσ H Q ⟨ρ,sd,g,x,g',r,e,q⟩=>by
 obtain⟨⟨ws,g1⟩,e1,e⟩:=bnd e;refine⟨ρ,sd,g,ws,g1,r,e1,λvs H1 ρ1 s1 h1 r1=>?_⟩;obtain⟨ds,e2,e⟩:=bnd e;have rd:=ZDF r1 e2
 by_cases hz:ds.length<=1000
 ·simp only[if_pos hz] at e
  cases e;refine⟨by rw[rd.length];exact le_of_lt (ZS hz),λp hp=>?_⟩;obtain⟨hr2,st⟩:=h1.alloc hp rd;exact q _ _ _ (s1.trans st) hr2 (.ref (by show(ρ1.c++[p])[_]? = _;rw[←h1.len];simp))
 ·simp only[if_neg hz] at e
  cases e
theorem ZSX{fn:List W->G->Option (W×G)}{σ : St}{H:Hp}{Q:VK}(h:tE X.K (dF fn aa) σ H Q):tA X.K aa σ H λvs H1=>rF X.K fn vs H1 Q:=by
 obtain⟨ρ,sd,g,x,g',r,e,q⟩:=h;obtain⟨⟨ws,g1⟩,e1,e⟩:=bnd e;exact⟨ρ,sd,g,ws,g1,r,e1,λvs H1 ρ1 s1 h1 r1=>⟨ρ1,ws,g1,x,g',h1,r1,e,q.step s1⟩⟩
end
end L2
namespace L2
open PySem PySem.Spec PyProof.Rows
noncomputable def Itz3(K:PySem.W.Frag)(a b c:Addr):It :=
 ⟨λi H=>∃xs ys zs x y z,SqT K H a xs/\SqT K H b ys/\SqT K H c zs/\xs[i]? = some x/\ys[i]? = some y/\zs[i]? = some z,λi H v H'=>∃p x y z,v=.ref p/\H p=none/\H'=upd H p (.tup [x,y,z])/\∀xs ys zs,SqT K H a xs->SqT K H b ys->SqT K H c zs->xs[i]? = some x/\ys[i]? = some y/\zs[i]? = some z,
  λi H=>∃xs ys zs,SqT K H a xs/\SqT K H b ys/\SqT K H c zs/\(xs.length<=i∨ys.length<=i∨zs.length<=i)⟩
end L2
namespace L2
open PySem PySem.Spec PyProof.Rows H1
noncomputable def Its(x:Str):It:=⟨λi _=>i<x.cps.size,λi H v H'=>H'=H/\v=.str ⟨#[x.cps.getD i 0]⟩,λi _=>x.cps.size<=i⟩
theorem ZHy{P:Program}{w:World}{K:PySem.W.Frag}{tg:Expr}(it:Addr)(T:String)(hT:T = "str_ascii_iterator"∨T = "str_iterator")(x:Str)(t:Tok):Turn P w K tg (Its x) [it] it (λi h=>h.IsStrIter it T x t i) where
 mem:=by simp
 obj:=λi h st b hb=>by
  have e:b=it:=by simpa using hb
  subst e;obtain⟨o,ho,_,hd⟩:=st;exact⟨o,ho,λv z=>by rw[hd] at z;cases z⟩
 keep:=λi h h' st k=>let ⟨o,ho,r⟩:=st;⟨o,k it (by simp) o ho,r⟩
 item:=by
  intro X hP hw hK hc i pins s σ H E I hf st hg;subst hP hw hK;obtain⟨f0,f1,f2,f3,f4,f5⟩:=hf it (by simp);have W:Walks X.prog X.w X.A it [it] [it] x.cps.size (SignAt x) (λi h=>h.IsStrIter it T x t i):=by
   rcases hT with rfl|rfl
   ·exact Walks.strAscii (I.ok.hd hc) it x t
   ·exact Walks.strWide (I.ok.hd hc) it x t
  refine W.item i s _ _ hg st λv h' tk hv st' kk=>?_
  obtain⟨c,u,hcp,rfl⟩:=hv;have I1:Inv X pins σ H { s with heap:=h',toks:=tk }:=I.turned (λb o hb e=>kk b o (by simpa using hb) e) f0 f1 f3 f4 f5;have hv:c=x.cps.getD i 0:=by rw[Array.getD_eq_getD_getElem?,hcp];rfl
  obtain⟨o,ho,h1,h2⟩:=id st';refine⟨_,rfl,ZJO (s:={ s with heap:=h',toks:=tk }) (n:=T) ho h1 h2 (by rcases hT with rfl|rfl <;> decide) ⟨.str ⟨#[x.cps.getD i 0]⟩,H,I1,⟨u,by rw[←hv]⟩,⟨rfl,rfl⟩,st',λb hb=>(hf b hb).1⟩⟩
 done:=by
  intro X hP hw hK hc i pins s σ H E I hf st hg;subst hP hw hK;obtain⟨f0,f1,f2,f3,f4,f5⟩:=hf it (by simp);have hn:x.cps[i]? = none:=by
   have:x.cps.size<=i:=hg;rw[Array.getElem?_eq_none this]
  rcases hT with rfl|rfl
  ·exact wpAny_pyNext_ascii_end (I.ok.hd hc) st hn λh' eb=>⟨rfl,I.turned (t':=s.toks) (λb o hb e=>eb b o hb e) f0 f1 f3 f4 f5⟩
  ·exact wpAny_pyNext_wide_end (I.ok.hd hc) st hn λh' eb=>⟨rfl,I.turned (t':=s.toks) (λb o hb e=>eb b o hb e) f0 f1 f3 f4 f5⟩
 self:=λ_ _ _ _ _ st h=>by
  rcases hT with rfl|rfl
  ·exact wpAny_pyIter_striter_ascii st h
  ·exact wpAny_pyIter_striter_wide st h
noncomputable def iStr(tl:TE):TI:=λσ H R=>tl σ H λx H1=>∃a:Str,x=.str a/\R (Its a) H1
theorem ZP4{X:Cx}{tg l:Expr}{tl:TE}(hl:PE X l tl):PI X tg l (iStr tl):=by
 intro pins s σ H R I h;refine thn (hl pins s σ H _ I h) λv s1 ⟨x,H1,I1,r1,q1⟩=>?_
 obtain⟨a,e,q⟩:=q1;subst e;obtain⟨t,rfl⟩:=r1;cases ha:a.cps.all (· < 128)
 ·refine wpAny_pyIter_wide ha ?_
  refine⟨s1.heap.objs.size,[s1.heap.objs.size],_,_,H1,rfl,I1.kept (t':=s1.toks) λb o e=>get?_push_of_some _ e,ZHy _ _ (.inr rfl) a t,⟨_,get?_push_size _ rfl,rfl,rfl⟩,λb hb=>?_,q⟩;have e:b=s1.heap.objs.size:=by simpa using hb
  subst e;exact I1.fpOk (le_refl _) (I1.hok.fresh (le_refl _))
 ·refine wpAny_pyIter_ascii ha ?_
  refine⟨s1.heap.objs.size,[s1.heap.objs.size],_,_,H1,rfl,I1.kept (t':=s1.toks) λb o e=>get?_push_of_some _ e,ZHy _ _ (.inl rfl) a t,⟨_,get?_push_size _ rfl,rfl,rfl⟩,λb hb=>?_,q⟩;have e:b=s1.heap.objs.size:=by simpa using hb
  subst e;exact I1.fpOk (le_refl _) (I1.hok.fresh (le_refl _))
section
variable{X:Cx}{x:Str}{p pos:Pos}{e:Expr}{es:List Expr}{aa:DA}{id T:String}{fn:List W->G->Option (W×G)}
theorem ZL2(hc:ZN X (.builtin id) (rF X.K fn))(hg:Gl X x)(hm:X.mg x=none)(hv:bootBuiltins x=some (.builtin id))(ha:PA X (e::es) (tA X.K aa))(hn:x≠"__name__":=by decide)(hdb:(x == ("__debug__" : Str))=false:=by decide)
  (he:starEach (e::es) X.env=(false,eval e X.env)::starEach es X.env:=by rfl)(hpl:(backTo pos (starEach es X.env)).any (·.1)=false:=by rfl):PE X (.Call (.Name x p) (e::es) [] pos) (tE X.K (dF fn aa)):=(ZNR hc hg hm hv ha hn hdb he hpl).imp λ_ _ _ h=>ZSX h
theorem ZKl(hc:ZN X (.type T) (rF X.K fn))(hg:Gl X x)(hm:X.mg x=none)(hv:bootBuiltins x=some (.type T))(ha:PA X (e::es) (tA X.K aa))(hn:x≠"__name__":=by decide)(hdb:(x == ("__debug__" : Str))=false:=by decide)
  (he:starEach (e::es) X.env=(false,eval e X.env)::starEach es X.env:=by rfl)(hpl:(backTo pos (starEach es X.env)).any (·.1)=false:=by rfl):PE X (.Call (.Name x p) (e::es) [] pos) (tE X.K (dF fn aa)):=(ZF7 hc hg hm hv ha hn hdb he hpl).imp λ_ _ _ h=>ZSX h
noncomputable def spD(K:PySem.W.Frag)(n:Nat)(fn:List W->G->Option (W×G)):Sp:=λvs H Q _=>vs.length=n/\rF K fn vs H Q
inductive Many:DA->Nat->Prop
 |nil:Many ZE 0
 |cons {d:DE} {a:DA} {n:Nat}:Many a n->Many (ZA d a) (n+1)
theorem Many.len{a:DA}{n:Nat}(m:Many a n):∀{sd:Sd} {g g':G} {ws:List W},a sd g=some (ws,g')->ws.length=n:=by
 induction m with
 |nil=>intro sd g g' ws e;cases e;rfl
 |cons m ih =>
  intro sd g g' ws e;obtain⟨⟨y,g1⟩,e1,e⟩:=bnd e;obtain⟨⟨ys,g2⟩,e2,e⟩:=mp e;cases e;rw[length_cons,ih e2]
theorem ZOk{st:Stmt}{ps:List Str}{f:Addr}{fd:FuncData}{k n:Nat}(D:Def X.K X.mg x st ps f fd)(F:FnOk X.prog X.w X.K X.mg X.base CX0 k f fd ps (spD X.K n fn))(hr:Room k X.A)
  (ha:PA X (e::es) (tA X.K aa))(hm:Many aa n)(hg:Gl X x:=by rfl)(hdb:(x == ("__debug__" : Str))=false:=by decide)(he:starEach (e::es) X.env=(false,eval e X.env)::starEach es X.env:=by rfl)(hpl:(backTo pos (starEach es X.env)).any (·.1)=false:=by rfl) :
  PE X (.Call (.Name x p) (e::es) [] pos) (tE X.K (dF fn aa)):=(pcall D F hr ha hg hdb he hpl).imp λσ H Q h=>by
 obtain⟨ρ,sd,g,x,g',r,e,q⟩:=h;obtain⟨⟨ws,g1⟩,e1,e⟩:=bnd e;refine⟨ρ,sd,g,ws,g1,r,e1,λvs H1 ρ1 s1 h1 r1=>?_⟩;show spD X.K n fn (vs++[]) H1 Q E0;rw[append_nil];exact⟨by rw[r1.length];exact hm.len e1,ρ1,ws,g1,x,g',h1,r1,e,q.step s1⟩
end
mutual
inductive Pat where
 |nm (i:Nat)
 |tp (ps:Pats)
inductive Pats where
 |nil
 |cons (p:Pat) (r:Pats)
end
noncomputable def Pats.len:Pats->Nat
 |.nil=>0
 |.cons _ r=>r.len+1
mutual
noncomputable def Pat.all(f:Nat->Bool):Pat->Bool
 |.nm i=>f i
 |.tp ps=>ps.all f
noncomputable def Pats.all(f:Nat->Bool):Pats->Bool
 |.nil=>true
 |.cons p r=>p.all f && r.all f
end
mutual
noncomputable def gP(K:PySem.W.Frag):Pat->TG
 |.nm i=>ZHe i
 |.tp ps=>ZSW K ps.len (gPs K ps)
noncomputable def gPs(K:PySem.W.Frag):Pats->TGs
 |.nil=>ZSI
 |.cons p r=>ZPf (gP K p) (gPs K r)
end
mutual
noncomputable def ZW:Pat->W->Sd->Option Sd
 |.nm i,x,sd=>some (sd.set i (some x))
 |.tp ps,.dat (.tuple ds),sd=>ZA4 ps ds sd
 |.tp ps,.tup ws,sd=>ZAL ps ws sd
 |.tp _,_,_=>none
noncomputable def ZAL:Pats->List W->Sd->Option Sd
 |.nil,[],sd=>some sd
 |.cons p r,d::ds,sd=>(ZW p d sd).bind λsd'=>ZAL r ds sd'
 |_,_,_=>none
noncomputable def ZA4:Pats->List PyData->Sd->Option Sd
 |.nil,[],sd=>some sd
 |.cons p r,d::ds,sd=>(ZW p (.dat d) sd).bind λsd'=>ZA4 r ds sd'
 |_,_,_=>none
end
noncomputable def ZGJ(f:Nat->Bool)(σ σ':St):Prop:=σ.length = σ'.length/\∀i,f i=false->σ'[i]? = σ[i]?
theorem ZGJ.refl{f:Nat->Bool}{σ : St}:ZGJ f σ σ:=⟨rfl,λ_ _=>rfl⟩
theorem ZGJ.trans{f:Nat->Bool}{σ σ1 σ2:St}(h:ZGJ f σ σ1)(k:ZGJ f σ1 σ2):ZGJ f σ σ2:=⟨h.1.trans k.1,λi e=>(k.2 i e).trans (h.2 i e)⟩
mutual
theorem ZDl{K:PySem.W.Frag}{ρ : Rh}{H:Hp}{g:G}{f:Nat->Bool}:∀{p:Pat} {x:W} {sd sd':Sd} {σ : St} {v:V} {Q:St->Hp->Prop},p.all f=true->ZW p x sd=some sd'->Rst K ρ H σ sd g->Rel K ρ H v x->(∀σ',Rst K ρ H σ' sd' g->ZGJ f σ σ'->Q σ' H)->gP K p v σ H Q
 |.nm i,x,sd,sd',σ,v,Q,hf,e,r,rv,q=>by
  rw[ZW] at e;cases e;rw[gP];refine q _ (r.set rv i) ⟨by rw[length_set],λj hj=>?_⟩;have:i≠j:=λz=>by rw[Pat.all,z,hj] at hf;cases hf
  rw[getElem?_set_ne this]
 |.tp ps,x,sd,sd',σ,v,Q,hf,e,r,rv,q=>by
  rw[Pat.all] at hf;cases rv with
  |dat rv =>
   cases rv with
   |tup h hl =>
    rw[ZW] at e;rw[gP];exact⟨_,_,rfl,h.sq,hl.length.trans (ZEg e),ZNM hf e r hl q⟩
   |_=>simp[ZW] at e
  |tup h hl =>
   rw[ZW] at e;rw[gP];exact⟨_,_,rfl,h.sq,hl.length.trans (ZDk e),ZJx hf e r hl q⟩
  |_=>simp[ZW] at e
theorem ZNM{K:PySem.W.Frag}{ρ : Rh}{H:Hp}{g:G}{f:Nat->Bool}:∀{ps:Pats} {ds:List PyData} {sd sd':Sd} {σ : St} {vs:List V} {Q:St->Hp->Prop},ps.all f=true->ZA4 ps ds sd=some sd'->Rst K ρ H σ sd g->RelDL K ρ H vs ds->(∀σ',Rst K ρ H σ' sd' g->ZGJ f σ σ'->Q σ' H)->gPs K ps vs σ H Q
 |.nil,[],sd,sd',σ,_,Q,hf,e,r,.nil,q=>by
  rw[ZA4] at e;cases e;rw[gPs];exact⟨rfl,q _ r .refl⟩
 |.cons p ps,d::ds,sd,sd',σ,_,Q,hf,e,r,.cons (x:=v) (xs:=vs) h t,q=>by
  rw[ZA4] at e;obtain⟨sd1,e1,e⟩:=bnd e;rw[Pats.all,Bool.and_eq_true] at hf;rw[gPs];exact⟨v,vs,rfl,ZDl hf.1 e1 r (.dat h) λσ1 r1 k1=>ZNM hf.2 e r1 t λσ2 r2 k2=>q σ2 r2 (k1.trans k2)⟩
 |.nil,_::_,_,_,_,_,_,_,e,_,_,_=>by simp[ZA4] at e
 |.cons _ _,[],_,_,_,_,_,_,e,_,_,_=>by simp[ZA4] at e
theorem ZJx{K:PySem.W.Frag}{ρ : Rh}{H:Hp}{g:G}{f:Nat->Bool}:∀{ps:Pats} {ds:List W} {sd sd':Sd} {σ : St} {vs:List V} {Q:St->Hp->Prop},ps.all f=true->ZAL ps ds sd=some sd'->Rst K ρ H σ sd g->RelL K ρ H vs ds->(∀σ',Rst K ρ H σ' sd' g->ZGJ f σ σ'->Q σ' H)->gPs K ps vs σ H Q
 |.nil,[],sd,sd',σ,_,Q,hf,e,r,.nil,q=>by
  rw[ZAL] at e;cases e;rw[gPs];exact⟨rfl,q _ r .refl⟩
 |.cons p ps,d::ds,sd,sd',σ,_,Q,hf,e,r,.cons (v:=v) (vs:=vs) h t,q=>by
  rw[ZAL] at e;obtain⟨sd1,e1,e⟩:=bnd e;rw[Pats.all,Bool.and_eq_true] at hf;rw[gPs];exact⟨v,vs,rfl,ZDl hf.1 e1 r h λσ1 r1 k1=>ZJx hf.2 e r1 t λσ2 r2 k2=>q σ2 r2 (k1.trans k2)⟩
 |.nil,_::_,_,_,_,_,_,_,e,_,_,_=>by simp[ZAL] at e
 |.cons _ _,[],_,_,_,_,_,_,e,_,_,_=>by simp[ZAL] at e
theorem ZDk:∀{ps:Pats} {ds:List W} {sd sd':Sd},ZAL ps ds sd=some sd'->ds.length=ps.len
 |.nil,[],_,_,_=>rfl
 |.cons p ps,d::ds,sd,sd',e=>by
  rw[ZAL] at e;obtain⟨sd1,e1,e⟩:=bnd e;rw[length_cons,ZDk e,Pats.len]
 |.nil,_::_,_,_,e=>by simp[ZAL] at e
 |.cons _ _,[],_,_,e=>by simp[ZAL] at e
theorem ZEg:∀{ps:Pats} {ds:List PyData} {sd sd':Sd},ZA4 ps ds sd=some sd'->ds.length=ps.len
 |.nil,[],_,_,_=>rfl
 |.cons p ps,d::ds,sd,sd',e=>by
  rw[ZA4] at e;obtain⟨sd1,e1,e⟩:=bnd e;rw[length_cons,ZEg e,Pats.len]
 |.nil,_::_,_,_,e=>by simp[ZA4] at e
 |.cons _ _,[],_,_,e=>by simp[ZA4] at e
end
section
variable{X:Cx}{pos:Pos}
theorem dg_nm{i:Nat}{x:Str}(hN:X.N.Nodup)(hi:X.N[i]? = some x)(hx:Loc X.env.scope x)(hf:X.fn x=true∨X.env.scope.names.lookup x=some .local:=by first|exact .inl rfl|exact .inr rfl|assumption):PG X (.Name x pos) (gP X.K (.nm i)):=by
 rw[gP];exact ZPM hN hi hx hf
theorem dg_tp{es:List Expr}{k:Nat}{ps:Pats}(hc:X.calm=true)(h:PGs X es (gPs X.K ps))(hn:(assignEach es X.env).length=ps.len:=by rfl)(hst:(assignEach es X.env).findIdx? (·.1)=none:=by rfl):PG X (.Tuple es k pos) (gP X.K (.tp ps)):=by
 rw[gP];exact ZMb hc h hn hst
theorem ZR6:PGs X [] (gPs X.K .nil):=by
 rw[gPs];exact ZJy
theorem ZOS{e:Expr}{es:List Expr}{p:Pat}{ps:Pats}(h1:PG X e (gP X.K p))(h2:PGs X es (gPs X.K ps))(hs:(assignEach (e::es) X.env).map (·.2)=assign e X.env::(assignEach es X.env).map (·.2):=by rfl):PGs X (e::es) (gPs X.K (.cons p ps)):=by
 rw[gPs];exact ZFG h1 h2 hs
end
inductive Out where
 |nx (sd:Sd) (g:G)
 |rt (x:W) (g:G)
 |bk (sd:Sd) (g:G)
 |ct (sd:Sd) (g:G)
noncomputable abbrev DS:=Sd->G->Option Out
noncomputable def ZDo(K:PySem.W.Frag)(ρ : Rh)(H:Hp)(E:Ends):Out->Prop
 |.nx sd g=>∀σ' H' ρ',Stp ρ H ρ' H'->Rst K ρ' H' σ' sd g->E.nx σ' H'
 |.rt x g=>Pv K ρ H x g E.rt
 |.bk sd g=>∀σ' H' ρ',Stp ρ H ρ' H'->Rst K ρ' H' σ' sd g->E.bk σ' H'
 |.ct sd g=>∀σ' H' ρ',Stp ρ H ρ' H'->Rst K ρ' H' σ' sd g->E.ct σ' H'
theorem ZDo.step{K:PySem.W.Frag}{ρ ρ':Rh}{H H':Hp}{E:Ends}{o:Out}(h:ZDo K ρ H E o)(s:Stp ρ H ρ' H'):ZDo K ρ' H' E o:=by
 cases o with
 |nx sd g=>exact λσ2 H2 ρ2 s2 r=>h σ2 H2 ρ2 (s.trans s2) r
 |rt x g=>exact Pv.step h s
 |bk sd g=>exact λσ2 H2 ρ2 s2 r=>h σ2 H2 ρ2 (s.trans s2) r
 |ct sd g=>exact λσ2 H2 ρ2 s2 r=>h σ2 H2 ρ2 (s.trans s2) r
noncomputable def tS(K:PySem.W.Frag)(d:DS):TS:=λE σ H=>∃ρ sd g o,Rst K ρ H σ sd g/\d sd g=some o/\ZDo K ρ H E o
noncomputable def dNx:DS:=λsd g=>some (.nx sd g)
noncomputable def ZR(a b:DS):DS:=λsd g=>(a sd g).bind λo=>match o with|.nx sd' g'=>b sd' g'|o=>some o
noncomputable def Zo(i:Nat)(d:DE):DS:=λsd g=>(d sd g).bind λp=>some (.nx (sd.set i (some p.1)) p.2)
noncomputable def ZH6(pt:Pat)(d:DE):DS:=λsd g=>(d sd g).bind λp=>(ZW pt p.1 sd).map λsd'=>.nx sd' p.2
noncomputable def ZQ(d:DE):DS:=λsd g=>(d sd g).map λp=>.rt p.1 p.2
noncomputable def ZC3(d:DE):DS:=λsd g=>(d sd g).map λp=>.nx sd p.2
noncomputable def ZAM(c:DB)(a b:DS):DS:=λsd g=>(c sd g).bind λp=>if p.1=true then a sd p.2 else b sd p.2
section
variable{X:Cx}{pos:Pos}{st:Stmt}{rest ss:List Stmt}{a b:DS}{d:DE}{e c:Expr}{tc:DB}
theorem ZNn:PSs X [] (tS X.K dNx):=ZJd.imp λD σ H ⟨ρ,sd,g,o,r,e,q⟩=>by
 cases e;exact q σ H ρ .refl r
theorem ZOx(h:PS X st (tS X.K a)):PSs X [st] (tS X.K a):=ZI7 h
theorem ZMW(h1:PS X st (tS X.K a))(h2:PSs X rest (tS X.K b)):PSs X (st::rest) (tS X.K (ZR a b)):=(ZHK h1 h2).imp λD σ H ⟨ρ,sd,g,o,r,e,q⟩=>by
 obtain⟨o1,e1,e⟩:=bnd e;refine⟨ρ,sd,g,o1,r,e1,?_⟩;cases o1 with
 |nx sd1 g1=>exact λσ1 H1 ρ1 s1 r1=>⟨ρ1,sd1,g1,o,r1,e,q.step s1⟩
 |rt x g1=>cases e;exact q
 |bk _ _=>cases e;exact q
 |ct _ _=>cases e;exact q
theorem ZRd{i:Nat}{x:Str}{pos':Pos}(hN:X.N.Nodup)(hi:X.N[i]? = some x)(hx:Loc X.env.scope x)(he:PE X e (tE X.K d))(hs:swapsWith e (some (.Name x pos')) pos.line X.env=pure false:=by rfl)(hf:X.fn x=true∨X.env.scope.names.lookup x=some .local:=by first|exact .inl rfl|exact .inr rfl|assumption) :
  PS X (.Assign [.Name x pos'] e pos) (tS X.K (Zo i d)):=(ZLp hN hi hx he hs hf).imp λD σ H ⟨ρ,sd,g,o,r,e,q⟩=>by
 obtain⟨⟨y,g1⟩,e1,e⟩:=bnd e;cases e;exact⟨ρ,sd,g,y,g1,r,e1,λv H1 ρ1 s1 h1 r1=>q _ H1 ρ1 s1 ((r.step s1 h1).set r1 i)⟩
theorem ZRf{tg:Expr}{pt:Pat}(he:PE X e (tE X.K d))(hg:PG X tg (gP X.K pt))(hs:swapsWithSole [tg] e pos.line X.env=pure false:=by rfl)(hw:swappedStores [tg] e X.env=pure none:=by rfl)
  (h1:(assignEach [tg] X.env).map (·.2)=[assign tg X.env]:=by rfl):PS X (.Assign [tg] e pos) (tS X.K (ZH6 pt d)):=(ZGP he hg hs hw h1).imp λD σ H ⟨ρ,sd,g,o,r,e,q⟩=>by
 obtain⟨⟨y,g1⟩,e1,e⟩:=bnd e;obtain⟨sd1,e2,e⟩:=mp e;cases e;refine⟨ρ,sd,g,y,g1,r,e1,λv H1 ρ1 s1 h1 r1=>ZDl (f:=λ_=>true) ?_ e2 (r.step s1 h1) r1 λσ2 r2 _=>q _ H1 ρ1 s1 r2⟩;clear e2 hg;exact Pat.rec (motive_1:=λp=>p.all (λ_=>true)=true) (motive_2:=λp=>p.all (λ_=>true)=true) (λi=>by rw[Pat.all]) (λps h=>by rw[Pat.all];exact h) (by rw[Pats.all]) (λp r h1 h2=>by rw[Pats.all,h1,h2];rfl) pt
theorem ZPw(he:PE X e (tE X.K d)):PS X (.Return (some e) pos) (tS X.K (ZQ d)):=(ZNU he).imp λD σ H ⟨ρ,sd,g,o,r,e,q⟩=>by
 obtain⟨⟨y,g1⟩,e1,e⟩:=mp e;cases e;exact⟨ρ,sd,g,y,g1,r,e1,q⟩
theorem ZPY(he:PE X e (tE X.K d))(hs:swapsWith e none pos.line X.env=pure false:=by rfl):PS X (.Expr e pos) (tS X.K (ZC3 d)):=(ZOI he hs).imp λD σ H ⟨ρ,sd,g,o,r,e,q⟩=>by
 obtain⟨⟨y,g1⟩,e1,e⟩:=mp e;cases e;exact⟨ρ,sd,g,y,g1,r,e1,λv H1 ρ1 s1 h1 r1=>q σ H1 ρ1 s1 (r.step s1 h1)⟩
theorem ds_if{sa sb:List Stmt}(hc:PT X c (tT X.K tc))(ha:PSs X sa (tS X.K a))(hb:PSs X sb (tS X.K b)):PS X (.If c sa sb pos) (tS X.K (ZAM tc a b)):=(ZPc hc ha hb).imp λD σ H ⟨ρ,sd,g,o,r,e,q⟩=>by
 obtain⟨⟨k,g1⟩,e1,e⟩:=bnd e;refine⟨ρ,sd,g,k,g1,r,e1,λH1 ρ1 s1 h1=>?_⟩;cases k with
 |true=>exact⟨ρ1,sd,g1,o,r.step s1 h1,e,q.step s1⟩
 |false=>exact⟨ρ1,sd,g1,o,r.step s1 h1,e,q.step s1⟩
end
noncomputable abbrev DI:=Sd->G->Option (List PyData×Option Nat×G)
noncomputable def Zj(src:Option Nat)(xs:List PyData)(g:G):Prop:=match src with|none=>True|some n=>g[n]? = some (.pl xs)
noncomputable def lk(g:G)(n:Nat):Option (List PyData):=match g[n]? with|some (.pl ds)=>some ds|_=>none
theorem ZDC{g:G}{n:Nat}{ds:List PyData}(h:lk g n=some ds):g[n]? = some (.pl ds):=by
 unfold lk at h
 split at h
 ·rename_i e;cases h;exact e
 ·cases h
theorem ZJT{g:G}{n:Nat}{ds:List PyData}(h:g[n]? = some (.pl ds)):lk g n=some ds:=by
 unfold lk;rw[h]
noncomputable def ZFM(n:Nat)(lo:Int):List PyData:=(List.range n).map λ(i:Nat)=>.int (lo+(i:Int))
noncomputable def ZC9:Nat->List PyData->List PyData
 |_,[]=>[]
 |i,x::r=>.tuple [.int (i:Int),x]::ZC9 (i+1) r
noncomputable def ZB4:List PyData->List PyData->List PyData
 |x::r,y::q=>.tuple [x,y]::ZB4 r q
 |_,_=>[]
theorem ZDa:∀{xs:List PyData} {k i:Nat} {x:PyData},(ZC9 k xs)[i]? = some x->∃y,xs[i]? = some y/\x=.tuple [.int ((k+i:Nat):Int),y]
 |[],_,_,_,e=>by simp[ZC9] at e
 |y::r,k,0,x,e=>by
  rw[ZC9] at e;simp at e;exact⟨y,rfl,e.symm⟩
 |y::r,k,i+1,x,e=>by
  rw[ZC9,List.getElem?_cons_succ] at e;obtain⟨z,e1,e2⟩:=ZDa e;exact⟨z,by simpa using e1,by rw[e2];congr 4;omega⟩
theorem ZDY:∀{xs:List PyData} {k:Nat},(ZC9 k xs).length=xs.length
 |[],_=>rfl
 |y::r,k=>by rw[ZC9,length_cons,length_cons,ZDY]
noncomputable def ZBh:List PyData->List PyData->List PyData->List PyData
 |x::r,y::q,z::p=>.tuple [x,y,z]::ZBh r q p
 |_,_,_=>[]
theorem ZFa:∀{xs ys zs:List PyData} {i:Nat} {x:PyData},(ZBh xs ys zs)[i]? = some x->∃y z u,xs[i]? = some y/\ys[i]? = some z/\zs[i]? = some u/\x=.tuple [y,z,u]
 |[],_,_,_,_,e=>by simp[ZBh] at e
 |_::_,[],_,_,_,e=>by simp[ZBh] at e
 |_::_,_::_,[],_,_,e=>by simp[ZBh] at e
 |y::r,z::q,u::p,0,x,e=>by
  rw[ZBh] at e;simp at e;exact⟨y,z,u,rfl,rfl,rfl,e.symm⟩
 |y::r,z::q,u::p,i+1,x,e=>by
  rw[ZBh,List.getElem?_cons_succ] at e;obtain⟨a,b,c,e1,e2,e3,e4⟩:=ZFa e;exact⟨a,b,c,by simpa using e1,by simpa using e2,by simpa using e3,e4⟩
theorem ZFq:∀{xs ys zs:List PyData},(ZBh xs ys zs).length=min xs.length (min ys.length zs.length)
 |[],_,_=>by simp[ZBh]
 |_::_,[],_=>by simp[ZBh]
 |_::_,_::_,[]=>by simp[ZBh]
 |y::r,z::q,u::p=>by rw[ZBh,length_cons,length_cons,length_cons,length_cons,ZFq];omega
theorem ZCx:∀{xs ys:List PyData} {i:Nat} {x:PyData},(ZB4 xs ys)[i]? = some x->∃y z,xs[i]? = some y/\ys[i]? = some z/\x=.tuple [y,z]
 |[],_,_,_,e=>by simp[ZB4] at e
 |_::_,[],_,_,e=>by simp[ZB4] at e
 |y::r,z::q,0,x,e=>by
  rw[ZB4] at e;simp at e;exact⟨y,z,rfl,rfl,e.symm⟩
 |y::r,z::q,i+1,x,e=>by
  rw[ZB4,List.getElem?_cons_succ] at e;obtain⟨u,v,e1,e2,e3⟩:=ZCx e;exact⟨u,v,by simpa using e1,by simpa using e2,e3⟩
theorem ZCD:∀{xs ys:List PyData},(ZB4 xs ys).length=min xs.length ys.length
 |[],_=>by simp[ZB4]
 |_::_,[]=>by simp[ZB4]
 |y::r,z::q=>by rw[ZB4,length_cons,length_cons,length_cons,ZCD];omega
noncomputable def ZKp(x:Str):List PyData:=x.cps.toList.map λc=>.str ⟨#[c]⟩
inductive ItOk (K:PySem.W.Frag) (ρ : Rh) (H:Hp):It->List PyData->Option Nat->Prop
 |list {a:Addr} {vs:List V} {ds:List PyData}:FzL K ρ H a vs->RelDL K ρ H vs ds->ItOk K ρ H (Itl K a) ds none
 |tup {a:Addr} {vs:List V} {ds:List PyData}:FzT K ρ H a vs->RelDL K ρ H vs ds->ItOk K ρ H (Itt K a) ds none
 |cell {a:Addr} {n:Nat} {ds:List PyData} : ρ.c[n]? = some a->ItOk K ρ H (Itl K a) ds (some n)
 |rng {lo:Int} {n:Nat}:ItOk K ρ H (Itr lo n) (ZFM n lo) none
 |str {x:Str}:ItOk K ρ H (Its x) (ZKp x) none
 |enum {a:Addr} {vs:List V} {ds:List PyData}:FzT K ρ H a vs->RelDL K ρ H vs ds->ItOk K ρ H (Ite K a) (ZC9 0 ds) none
 |enuml {a:Addr} {vs:List V} {ds:List PyData}:FzL K ρ H a vs->RelDL K ρ H vs ds->ItOk K ρ H (ZSP false K a) (ZC9 0 ds) none
 |zip {a b:Addr} {vs us:List V} {ds es:List PyData}:FzT K ρ H a vs->RelDL K ρ H vs ds->FzT K ρ H b us->RelDL K ρ H us es->ItOk K ρ H (Itz K a b) (ZB4 ds es) none
 |zipl {a b:Addr} {vs us:List V} {ds es:List PyData}:FzL K ρ H a vs->RelDL K ρ H vs ds->FzL K ρ H b us->RelDL K ρ H us es->ItOk K ρ H (Itzl K a b) (ZB4 ds es) none
 |zipx {a b:Addr} {vs us:List V} {ds es:List PyData}:FzT K ρ H a vs->RelDL K ρ H vs ds->FzL K ρ H b us->RelDL K ρ H us es->ItOk K ρ H (ZLe true false K a b) (ZB4 ds es) none
 |zip3 {a b c:Addr} {vs us ts:List V} {ds es fs:List PyData}:FzT K ρ H a vs->RelDL K ρ H vs ds->FzT K ρ H b us->RelDL K ρ H us es->FzT K ρ H c ts->RelDL K ρ H ts fs->ItOk K ρ H (Itz3 K a b c) (ZBh ds es fs) none
section
variable{K:PySem.W.Frag}{ρ ρ':Rh}{H H':Hp}{J:It}{xs:List PyData}{src:Option Nat}
theorem ItOk.mono(s:Stp ρ H ρ' H')(h:ItOk K ρ H J xs src):ItOk K ρ' H' J xs src:=by
 cases h with
 |list f t=>exact .list (f.mono s) (t.mono s)
 |tup f t=>exact .tup (f.mono s) (t.mono s)
 |cell h =>
  obtain⟨r,e⟩:=s.pre;exact .cell (by rw[e,getElem?_append_left (List.getElem?_eq_some_iff.mp h).1];exact h)
 |rng=>exact .rng
 |str=>exact .str
 |enum f t=>exact .enum (f.mono s) (t.mono s)
 |enuml f t=>exact .enuml (f.mono s) (t.mono s)
 |zip f t f2 t2=>exact .zip (f.mono s) (t.mono s) (f2.mono s) (t2.mono s)
 |zipl f t f2 t2=>exact .zipl (f.mono s) (t.mono s) (f2.mono s) (t2.mono s)
 |zipx f t f2 t2=>exact .zipx (f.mono s) (t.mono s) (f2.mono s) (t2.mono s)
 |zip3 f t f2 t2 f3 t3=>exact .zip3 (f.mono s) (t.mono s) (f2.mono s) (t2.mono s) (f3.mono s) (t3.mono s)
theorem ItOk.hide{p:Addr}{o:HO}(hp:H p=none)(h:ItOk K ρ H J xs src):ItOk K (ρ.hide p) (upd H p o) J xs src:=by
 cases h with
 |list f t=>exact .list (f.hide hp) (t.hide hp)
 |tup f t=>exact .tup (f.hide hp) (t.hide hp)
 |cell h=>exact .cell h
 |rng=>exact .rng
 |str=>exact .str
 |enum f t=>exact .enum (f.hide hp) (t.hide hp)
 |enuml f t=>exact .enuml (f.hide hp) (t.hide hp)
 |zip f t f2 t2=>exact .zip (f.hide hp) (t.hide hp) (f2.hide hp) (t2.hide hp)
 |zipl f t f2 t2=>exact .zipl (f.hide hp) (t.hide hp) (f2.hide hp) (t2.hide hp)
 |zipx f t f2 t2=>exact .zipx (f.hide hp) (t.hide hp) (f2.hide hp) (t2.hide hp)
 |zip3 f t f2 t2 f3 t3=>exact .zip3 (f.hide hp) (t.hide hp) (f2.hide hp) (t2.hide hp) (f3.hide hp) (t3.hide hp)
theorem ItOk.grow{p:Addr}{o:HO}(hp:p∈ρ.h)(h:ItOk K ρ H J xs src):ItOk K ρ (upd H p o) J xs src:=by
 cases h with
 |list f t=>exact .list (f.grow hp) (t.grow hp)
 |tup f t=>exact .tup (f.grow hp) (t.grow hp)
 |cell h=>exact .cell h
 |rng=>exact .rng
 |str=>exact .str
 |enum f t=>exact .enum (f.grow hp) (t.grow hp)
 |enuml f t=>exact .enuml (f.grow hp) (t.grow hp)
 |zip f t f2 t2=>exact .zip (f.grow hp) (t.grow hp) (f2.grow hp) (t2.grow hp)
 |zipl f t f2 t2=>exact .zipl (f.grow hp) (t.grow hp) (f2.grow hp) (t2.grow hp)
 |zipx f t f2 t2=>exact .zipx (f.grow hp) (t.grow hp) (f2.grow hp) (t2.grow hp)
 |zip3 f t f2 t2 f3 t3=>exact .zip3 (f.grow hp) (t.grow hp) (f2.grow hp) (t2.grow hp) (f3.grow hp) (t3.grow hp)
theorem ItOk.use{g:G}(h:ItOk K ρ H J xs src)(h':HR K ρ H g)(so:Zj src xs g):(∀(i:Nat) x,xs[i]? = some x->J.go i H/\∀v H2,J.yld i H v H2->Same H H2/\RelD K ρ H2 v x)/\∀i,xs.length<=i->J.stop i H:=by
 cases h with
 |@list a vs ds f t =>
  refine⟨λi x e=>?_,λi hi=>⟨vs,f.sq,by rw[t.length];exact hi⟩⟩;obtain⟨v,e1,r1⟩:=t.getD e;refine⟨⟨vs,v,f.sq,e1⟩,λu H2 y=>?_⟩;obtain⟨rfl,y⟩:=y;have:=y vs f.sq;rw[e1] at this
  cases this
  exact⟨Same.refl _,r1⟩
 |@tup a vs ds f t =>
  refine⟨λi x e=>?_,λi hi=>⟨vs,f.sq,by rw[t.length];exact hi⟩⟩;obtain⟨v,e1,r1⟩:=t.getD e;refine⟨⟨vs,v,f.sq,e1⟩,λu H2 y=>?_⟩;obtain⟨rfl,y⟩:=y;have:=y vs f.sq;rw[e1] at this
  cases this
  exact⟨Same.refl _,r1⟩
 |@str x =>
  refine⟨λi d e=>?_,λi hi=>?_⟩
  ·unfold ZKp at e
   rw[getElem?_map] at e;cases hc:x.cps.toList[i]? with
   |none=>rw[hc] at e;cases e
   |some c =>
    rw[hc] at e;cases e;have hc':x.cps[i]? = some c:=by rw[←Array.getElem?_toList];exact hc
    have hi:i<x.cps.size:=(Array.getElem?_eq_some_iff.mp hc').1;refine⟨hi,λv H2 y=>?_⟩;obtain⟨rfl,rfl⟩:=y;have:x.cps.getD i 0=c:=by rw[Array.getD_eq_getD_getElem?,hc'];rfl
    rw[this];exact⟨Same.refl _,.str _⟩
  ·unfold ZKp at hi
   rw[length_map,Array.length_toList] at hi;exact hi
 |@cell a n ds h =>
  obtain⟨b,vs,e1,e2,tq⟩:=h'.at_ n _ so;rw[h] at e1;cases e1;have hq:SqL K H a vs:=SqL.of e2;refine⟨λi x e=>?_,λi hi=>⟨vs,hq,by rw[tq.length];exact hi⟩⟩;obtain⟨v,e1,r1⟩:=tq.getD e;refine⟨⟨vs,v,hq,e1⟩,λu H2 y=>?_⟩;obtain⟨rfl,y⟩:=y;have:=y vs hq;rw[e1] at this
  cases this
  exact⟨Same.refl _,r1⟩
 |@rng lo n =>
  refine⟨λi x e=>?_,λi hi=>?_⟩
  ·unfold ZFM at e
   rw[getElem?_map] at e;obtain⟨k,e1,rfl⟩:=mp e;obtain⟨hl,hk⟩:=List.getElem?_eq_some_iff.mp e1;rw[List.getElem_range] at hk;subst hk;rw[length_range] at hl;refine⟨hl,λu H2 y=>?_⟩;obtain⟨rfl,rfl⟩:=y;exact⟨Same.refl _,.int _⟩
  ·unfold ZFM at hi
   rw[length_map,length_range] at hi;exact hi
 |@enum a vs ds f t =>
  refine⟨λi x e=>?_,λi hi=>⟨vs,f.sq,by rw[t.length];rw[ZDY] at hi;exact hi⟩⟩;obtain⟨y,e2,rfl⟩:=ZDa e;obtain⟨v,e3,r1⟩:=t.getD e2;refine⟨⟨vs,v,f.sq,e3⟩,λu H2 yy=>?_⟩;obtain⟨pp,x',rfl,hp,rfl,yy⟩:=yy;have:=yy vs f.sq;rw[e3] at this
  cases this
  obtain⟨sm,hr2,hn2⟩:=ZAO (o:=.tup [.int i,v]) h' hp;refine⟨sm,.tup (.inl ⟨.inl ZC,hn2⟩) (.cons ?_ (.cons (r1.mono (.same sm)) .nil))⟩;rw[zero_add];exact .int _
 |@enuml a vs ds f t =>
  refine⟨λi x e=>?_,λi hi=>⟨vs,f.sq,by rw[t.length];rw[ZDY] at hi;exact hi⟩⟩;obtain⟨y,e2,rfl⟩:=ZDa e;obtain⟨v,e3,r1⟩:=t.getD e2;refine⟨⟨vs,v,f.sq,e3⟩,λu H2 yy=>?_⟩;obtain⟨pp,x',rfl,hp,rfl,yy⟩:=yy;have:=yy vs f.sq;rw[e3] at this
  cases this
  obtain⟨sm,hr2,hn2⟩:=ZAO (o:=.tup [.int i,v]) h' hp;refine⟨sm,.tup (.inl ⟨.inl ZC,hn2⟩) (.cons ?_ (.cons (r1.mono (.same sm)) .nil))⟩;rw[zero_add];exact .int _
 |@zip3 a b c vs us ts ds es fs f t f2 t2 f3 t3 =>
  refine⟨λi x e=>?_,λi hi=>⟨vs,us,ts,f.sq,f2.sq,f3.sq,by rw[t.length,t2.length,t3.length];rw[ZFq] at hi;omega⟩⟩;obtain⟨y,z,u,e2,e3,e33,rfl⟩:=ZFa e;obtain⟨v,e4,r4⟩:=t.getD e2;obtain⟨w,e5,r5⟩:=t2.getD e3;obtain⟨o,e6,r6⟩:=t3.getD e33;refine⟨⟨vs,us,ts,v,w,o,f.sq,f2.sq,f3.sq,e4,e5,e6⟩,λu H2 yy=>?_⟩;obtain⟨pp,x',y',z',rfl,hp,rfl,yy⟩:=yy;obtain⟨y1,y2,y3⟩:=yy vs us ts f.sq f2.sq f3.sq;rw[e4] at y1;rw[e5] at y2;rw[e6] at y3;cases y1;cases y2;cases y3;obtain⟨sm,hr2,hn2⟩:=ZAO (o:=.tup [v,w,o]) h' hp;exact⟨sm,.tup (.inl ⟨.inl ZC,hn2⟩) (.cons (r4.mono (.same sm)) (.cons (r5.mono (.same sm)) (.cons (r6.mono (.same sm)) .nil)))⟩
 |@zip a b vs us ds es f t f2 t2 =>
  refine⟨λi x e=>?_,λi hi=>⟨vs,us,f.sq,f2.sq,by rw[t.length,t2.length];rw[ZCD] at hi;omega⟩⟩;obtain⟨y,z,e2,e3,rfl⟩:=ZCx e;obtain⟨v,e4,r4⟩:=t.getD e2;obtain⟨w,e5,r5⟩:=t2.getD e3;refine⟨⟨vs,us,v,w,f.sq,f2.sq,e4,e5⟩,λu H2 yy=>?_⟩;obtain⟨pp,x',y',rfl,hp,rfl,yy⟩:=yy;obtain⟨y1,y2⟩:=yy vs us f.sq f2.sq;rw[e4] at y1;rw[e5] at y2;cases y1;cases y2;obtain⟨sm,hr2,hn2⟩:=ZAO (o:=.tup [v,w]) h' hp;exact⟨sm,.tup (.inl ⟨.inl ZC,hn2⟩) (.cons (r4.mono (.same sm)) (.cons (r5.mono (.same sm)) .nil))⟩
 |@zipl a b vs us ds es f t f2 t2 =>
  refine⟨λi x e=>?_,λi hi=>⟨vs,us,f.sq,f2.sq,by rw[t.length,t2.length];rw[ZCD] at hi;omega⟩⟩;obtain⟨y,z,e2,e3,rfl⟩:=ZCx e;obtain⟨v,e4,r4⟩:=t.getD e2;obtain⟨w,e5,r5⟩:=t2.getD e3;refine⟨⟨vs,us,v,w,f.sq,f2.sq,e4,e5⟩,λu H2 yy=>?_⟩;obtain⟨pp,x',y',rfl,hp,rfl,yy⟩:=yy;obtain⟨y1,y2⟩:=yy vs us f.sq f2.sq;rw[e4] at y1;rw[e5] at y2;cases y1;cases y2;obtain⟨sm,hr2,hn2⟩:=ZAO (o:=.tup [v,w]) h' hp;exact⟨sm,.tup (.inl ⟨.inl ZC,hn2⟩) (.cons (r4.mono (.same sm)) (.cons (r5.mono (.same sm)) .nil))⟩
 |@zipx a b vs us ds es f t f2 t2 =>
  refine⟨λi x e=>?_,λi hi=>⟨vs,us,f.sq,f2.sq,by rw[t.length,t2.length];rw[ZCD] at hi;omega⟩⟩;obtain⟨y,z,e2,e3,rfl⟩:=ZCx e;obtain⟨v,e4,r4⟩:=t.getD e2;obtain⟨w,e5,r5⟩:=t2.getD e3;refine⟨⟨vs,us,v,w,f.sq,f2.sq,e4,e5⟩,λu H2 yy=>?_⟩;obtain⟨pp,x',y',rfl,hp,rfl,yy⟩:=yy;obtain⟨y1,y2⟩:=yy vs us f.sq f2.sq;rw[e4] at y1;rw[e5] at y2;cases y1;cases y2;obtain⟨sm,hr2,hn2⟩:=ZAO (o:=.tup [v,w]) h' hp;exact⟨sm,.tup (.inl ⟨.inl ZC,hn2⟩) (.cons (r4.mono (.same sm)) (.cons (r5.mono (.same sm)) .nil))⟩
end
noncomputable def tI(K:PySem.W.Frag)(d:DI):TI:=λσ H R=>∃ρ sd g xs src g',Rst K ρ H σ sd g/\d sd g=some (xs,src,g')/\∀J H' ρ',Stp ρ H ρ' H'->HR K ρ' H' g'->Zj src xs g'/\ItOk K ρ' H' J xs src->R J H'
noncomputable def ZPp:W->G->Option (List PyData×Option Nat×G)
 |.dat (.list ds),g=>some (ds,none,g)
 |.dat (.tuple ds),g=>some (ds,none,g)
 |.ref n,g=>(lk g n).map λds=>(ds,some n,g)
 |.inp ns,g=>some (ns.map .int,none,g)
 |_,_=>none
noncomputable def ZBX(d:DE):DI:=λsd g=>(d sd g).bind λp=>ZPp p.1 p.2
theorem PI.imp{X:Cx}{tg e:Expr}{t u:TI}(h:PI X tg e t)(k:∀σ H Q,u σ H Q->t σ H Q):PI X tg e u:=λpins s σ H Q I q=>h pins s σ H Q I (k σ H Q q)
noncomputable def ZNr(K:PySem.W.Frag)(tl:TE):TI:=λσ H R=>tl σ H λx H1=>(∃a,x=.ref a/\(∃xs,SqL K H1 a xs)/\R (Itl K a) H1)∨(∃a,x=.ref a/\(∃xs,SqT K H1 a xs)/\R (Itt K a) H1)
section
variable{X:Cx}{tg:Expr}{pos:Pos}
theorem ZFf{l:Expr}{tl:TE}(hl:PE X l tl):PI X tg l (ZNr X.K tl):=by
 intro pins s σ H R I h;refine thn (hl pins s σ H _ I h) λv s1 ⟨x,H1,I1,r1,q1⟩=>?_
 rcases q1 with ⟨a,e,⟨xs,hq⟩,q⟩|⟨a,e,⟨xs,hq⟩,q⟩
 ·subst e
  cases r1;obtain⟨its,rv,p,hz⟩:=I1.list hq;refine wpAny_pyIter_list p.isList ?_;refine⟨s1.heap.objs.size,[s1.heap.objs.size],_,_,H1,rfl,I1.kept (t':=s1.toks) λb o e=>get?_push_of_some _ e,ZKw a _,⟨_,get?_push_size _ rfl,rfl,rfl⟩,λb hb=>?_,q⟩;have e:b=s1.heap.objs.size:=by simpa using hb
  subst e;exact I1.fpOk (le_refl _) (I1.hok.fresh (le_refl _))
 ·subst e
  cases r1;obtain⟨its,rv,p,hz⟩:=I1.tuple hq;refine wpAny_pyIter_tuple (show s1.heap.IsTuple a its.toArray from p) ?_;refine⟨s1.heap.objs.size,[s1.heap.objs.size],_,_,H1,rfl,I1.kept (t':=s1.toks) λb o e=>get?_push_of_some _ e,ZIC a _,⟨_,get?_push_size _ rfl,rfl,rfl⟩,λb hb=>?_,q⟩;have e:b=s1.heap.objs.size:=by simpa using hb
  subst e;exact I1.fpOk (le_refl _) (I1.hok.fresh (le_refl _))
theorem ZQv{l:Expr}{d:DE}(hl:PE X l (tE X.K d)):PI X tg l (tI X.K (ZBX d)):=(ZFf hl).imp λσ H R ⟨ρ,sd,g,xs,src,g',r,e,q⟩=>by
 obtain⟨⟨y,g1⟩,e1,e⟩:=bnd e;refine⟨ρ,sd,g,y,g1,r,e1,λv H1 ρ1 s1 h1 r1=>?_⟩;cases r1 with
 |ref h =>
  obtain⟨ds,e2,e⟩:=mp e;cases e;have e2:=ZDC e2;obtain⟨b,vs,e3,e4,tq⟩:=h1.at_ _ _ e2;rw[h] at e3;cases e3;exact .inl ⟨_,rfl,⟨vs,SqL.of e4⟩,q _ H1 ρ1 s1 h1 ⟨e2,ItOk.cell h⟩⟩
 |ty=>cases e
 |exc _=>cases e
 |tup _ _=>cases e
 |inp h=>cases e;exact .inl ⟨_,rfl,⟨_,h.sq⟩,q _ H1 ρ1 s1 h1 ⟨trivial,ItOk.list h RelDL.ofInts⟩⟩
 |dat h =>
  cases h with
  |tup h t=>cases e;exact .inr ⟨_,rfl,⟨_,h.sq⟩,q _ H1 ρ1 s1 h1 ⟨trivial,ItOk.tup h t⟩⟩
  |lst h n t=>cases e;exact .inl ⟨_,rfl,⟨_,SqL.of h⟩,q _ H1 ρ1 s1 h1 ⟨trivial,ItOk.list (.inl ⟨.inl h,n⟩) t⟩⟩
  |_=>cases e
theorem RelL.one{K:PySem.W.Frag}{ρ : Rh}{H:Hp}{vs:List V}{ws:List W}(r:RelL K ρ H vs ws)(hl:ws.length=1):∃v w,vs=[v]/\ws=[w]/\Rel K ρ H v w:=by
 cases r with
 |nil=>cases hl
 |cons h t=>cases t with
  |nil=>exact⟨_,_,rfl,rfl,h⟩
  |cons _ _=>cases hl
theorem RelL.two{K:PySem.W.Frag}{ρ : Rh}{H:Hp}{vs:List V}{ws:List W}(r:RelL K ρ H vs ws)(hl:ws.length=2):∃v v2 w w2,vs=[v,v2]/\ws=[w,w2]/\Rel K ρ H v w/\Rel K ρ H v2 w2:=by
 cases r with
 |nil=>cases hl
 |cons h t =>
  obtain⟨v2,w2,rfl,rfl,h2⟩:=t.one (Nat.succ.inj hl);exact⟨_,_,_,_,rfl,rfl,h,h2⟩
noncomputable def ZCF:W->Option Int
 |.dat (.int i)=>some i
 |_=>none
noncomputable def ZJr:W->Option (List PyData)
 |.dat (.tuple ds)=>some ds
 |_=>none
theorem ZK9{w:W}{i:Int}(e:ZCF w=some i):w=.dat (.int i):=by
 unfold ZCF at e
 split at e
 ·cases e;rfl
 ·cases e
theorem ZH1{w:W}{ds:List PyData}(e:ZJr w=some ds):w=.dat (.tuple ds):=by
 unfold ZJr at e
 split at e
 ·cases e;rfl
 ·cases e
theorem ZAr{K:PySem.W.Frag}{ρ : Rh}{H:Hp}{v:V}{w:W}{i:Int}(r:Rel K ρ H v w)(e:ZCF w=some i):v=.int i:=by
 rw[ZK9 e] at r;cases r with
 |dat r=>cases r;rfl
noncomputable def ZBn(a:DA):DI:=λsd g=>(a sd g).bind λp=>match p.1 with
 |[a]=>(ZCF a).bind λj=>if j<=1000/\-1000<=j then some (ZFM j.toNat 0,none,p.2) else none
 |[a,b]=>(ZCF a).bind λi=>(ZCF b).bind λj=>if (j<=1000/\-1000<=j)/\(i<=1000/\-1000<=i) then some (ZFM (j-i).toNat i,none,p.2) else none
 |_=>none
theorem ZKX{a:Expr}{da:DA}{p pos:Pos}(hg:Gl X "range")(hm:X.mg "range" = none)(ha:PA X [a] (tA X.K da))(hs:starEach [a] X.env=[(false,eval a X.env)]:=by rfl)(hn:Many da 1):PI X tg (.Call (.Name "range" p) [a] [] pos) (tI X.K (ZBn da)):=(ZKr hg hm ha hs).imp λσ H R ⟨ρ,sd,g,xs,src,g',r,e,q⟩=>by
 obtain⟨⟨ws,g1⟩,e1,e⟩:=bnd e;refine⟨ρ,sd,g,ws,g1,r,e1,λvs H1 ρ1 s1 h1 r1=>?_⟩;obtain⟨v,w,rfl,rfl,h⟩:=r1.one (hn.len e1);obtain⟨j,e2,e⟩:=bnd e;have:=ZAr h e2;subst this
 split at e
 ·rename_i hj
  cases e;exact⟨j,rfl,by omega,by omega,q _ H1 ρ1 s1 h1 ⟨trivial,ItOk.rng⟩⟩
 ·cases e
noncomputable def ZHA(a:DA):DI:=λsd g=>(a sd g).bind λp=>match p.1 with
 |[a,b]=>(ZJr a).bind λds=>(ZJr b).map λes=>(ZB4 ds es,none,p.2)
 |_=>none
theorem ZSG{a b:Expr}{da:DA}{p pos:Pos}(hg:Gl X "zip")(hm:X.mg "zip" = none)(ha:PA X [a,b] (tA X.K da))(hs:starEach [a,b] X.env=[(false,eval a X.env),(false,eval b X.env)]:=by rfl)(hs2:starEach [b] X.env=[(false,eval b X.env)]:=by rfl)(hn:Many da 2) :
  PI X tg (.Call (.Name "zip" p) [a,b] [] pos) (tI X.K (ZHA da)):=(ZQ7 (q:=true) (qq:=true) hg hm ha hs hs2).imp λσ H R ⟨ρ,sd,g,xs,src,g',r,e,q⟩=>by
 obtain⟨⟨ws,g1⟩,e1,e⟩:=bnd e;refine⟨ρ,sd,g,ws,g1,r,e1,λvs H1 ρ1 s1 h1 r1=>?_⟩;obtain⟨v,v2,w,w2,rfl,rfl,h,h2⟩:=r1.two (hn.len e1);obtain⟨ds,e2,e⟩:=bnd e;obtain⟨es,e3,e⟩:=mp e;cases e;rw[ZH1 e2] at h;rw[ZH1 e3] at h2;cases h with
 |dat h=>cases h with
  |tup f1 t1=>cases h2 with
   |dat h2=>cases h2 with
    |tup f2 t2=>exact⟨_,_,rfl,⟨_,_,f1.sq,f2.sq⟩,q _ H1 ρ1 s1 h1 ⟨trivial,ItOk.zip f1 t1 f2 t2⟩⟩
end
end L2
namespace L2
open PySem PySem.Spec PyProof.Rows H1
open Classical in
noncomputable def ZAN{α : Type}(src:Option Nat)(xs:List PyData)(g:G)(k:Option α):Option α:=match src with|none=>k|some n=>if g[n]? = some (.pl xs) then k else none
theorem ZAD{α : Type}{src:Option Nat}{xs:List PyData}{g:G}{k:Option α}{y : α}(h:ZAN src xs g k=some y):Zj src xs g/\k=some y:=by
 unfold ZAN at h;cases src with
 |none=>exact⟨trivial,h⟩
 |some n =>
  dsimp only at h
  split at h
  ·rename_i q;exact⟨q,h⟩
  ·cases h
noncomputable def ZBc(src:Option Nat)(xs:List PyData)(pt:Pat)(db:DS):List PyData->Sd->G->Option Out
 |[],sd,g=>some (.nx sd g)
 |x::r,sd,g=>(ZW pt (.dat x) sd).bind λsd1=>(db sd1 g).bind λo=>match o with
  |.nx sd2 g2=>ZAN src xs g2 (ZBc src xs pt db r sd2 g2)
  |.ct sd2 g2=>ZAN src xs g2 (ZBc src xs pt db r sd2 g2)
  |.bk sd2 g2=>some (.nx sd2 g2)
  |.rt y g2=>some (.rt y g2)
noncomputable def ZGU(pt:Pat)(di:DI)(db:DS):DS:=λsd g=>(di sd g).bind λt=>ZBc t.2.1 t.1 pt db t.1 sd t.2.2
theorem allT(pt:Pat):pt.all (λ_=>true)=true:=Pat.rec (motive_1:=λp=>p.all (λ_=>true)=true) (motive_2:=λp=>p.all (λ_=>true)=true) (λi=>by rw[Pat.all]) (λps h=>by rw[Pat.all];exact h) (by rw[Pats.all]) (λp r h1 h2=>by rw[Pats.all,h1,h2];rfl) pt
section
variable{X:Cx}{tg iter:Expr}{pos:Pos}{di:DI}{pt:Pat}{db:DS}
theorem ZRn{body:List Stmt}(hp:PassesOwn (model X.prog X.w) X.A X.env X.xe)(hc:X.calm=true)(hi:PI X tg iter (tI X.K di))(hg:PG X tg (gP X.K pt))(hb:PSs X body (tS X.K db))
  (hs:∀x,foldedSetIterable iter X.env x=pure x:=by intro _;rfl):PS X (.For tg iter body [] pos) (tS X.K (ZGU pt di db)):=(ZSA hp hc hi hg hb hs).imp λD σ H ⟨ρ,sd,g,o,r,e,q⟩=>by
 obtain⟨⟨xs,src,g1⟩,e1,e⟩:=bnd e;refine⟨ρ,sd,g,xs,src,g1,r,e1,λJ H1 ρ1 s1 h1 ⟨so,it⟩=>?_⟩;refine⟨λi m σ' H'=>m=xs.length-i/\i<=xs.length/\∃ρ' sd' g',Stp ρ1 H1 ρ' H'/\Rst X.K ρ' H' σ' sd' g'/\Zj src xs g'/\ZBc src xs pt db (xs.drop i) sd' g'=some o,⟨xs.length,rfl,zero_le _,ρ1,sd,g1,.refl,r.step s1 h1,so,e⟩,?_⟩
 rintro i m σ' H' ⟨rfl,hi,ρ',sd',g',s',r',so',e'⟩
 obtain⟨hgo,hst⟩:=(it.mono s').use r'.hr so'
 by_cases hlt:i<xs.length
 ·rw[drop_eq_getElem_cons hlt] at e'
  rw[ZBc] at e';obtain⟨sd1,e2,e'⟩:=bnd e';obtain⟨o1,e3,e'⟩:=bnd e';obtain⟨hg1,hy⟩:=hgo i xs[i] (getElem?_eq_getElem hlt);refine .inr ⟨hg1,λσ2 H2=>∃ρ2 sd2 g2,Stp ρ1 H1 ρ2 H2/\Rst X.K ρ2 H2 σ2 sd2 g2/\Zj src xs g2/\ZBc src xs pt db (xs.drop (i+1)) sd2 g2=some o,λσ2 H2 ⟨ρ2,sd2,g2,k1,k2,k3,k4⟩=>⟨xs.length-(i+1),by omega,rfl,hlt,ρ2,sd2,g2,k1,k2,k3,k4⟩,λv H2 y=>?_⟩;obtain⟨sm,rv⟩:=hy v H2 y;have s2:Stp ρ' H' ρ' H2:=.same sm;refine ZDl (f:=λ_=>true) (allT pt) e2 (r'.step s2 (r'.hr.same sm)) (.dat rv) λσ3 r3 _=>⟨ρ',sd1,g',o1,r3,e3,?_⟩
  have s02:=s1.trans (s'.trans s2);cases o1 with
  |nx sd2 g2 =>
   obtain⟨so2,e4⟩:=ZAD e';exact λσ4 H4 ρ4 s4 r4=>⟨ρ4,sd2,g2,(s'.trans s2).trans s4,r4,so2,e4⟩
  |ct sd2 g2 =>
   obtain⟨so2,e4⟩:=ZAD e';exact λσ4 H4 ρ4 s4 r4=>⟨ρ4,sd2,g2,(s'.trans s2).trans s4,r4,so2,e4⟩
  |bk sd2 g2 =>
   cases e';exact ZDo.step q s02
  |rt y g2 =>
   cases e';exact ZDo.step q s02
 ·have ei:i=xs.length:=by omega
  subst ei;rw[drop_length,ZBc] at e';cases e';exact .inl ⟨hst _ (le_refl _),q σ' H' ρ' (s1.trans s') r'⟩
end
noncomputable def ZDI(own:Nat)(cap:List Nat)(sd:Sd):Sd:=List.replicate own none++cap.map λj=>(sd[j]?).join
noncomputable def ZAh(src:Option Nat)(xs:List PyData)(pt:Pat)(dt:DB)(de:DE)(sd0:Sd):List PyData->G->Option (List PyData×G)
 |[],g=>some ([],g)
 |x::r,g=>(ZW pt (.dat x) sd0).bind λsd1=>(dt sd1 g).bind λb=>if b.1=true then (de sd1 b.2).bind λy=>match y.1 with
   |.dat d=>ZAN src xs y.2 ((ZAh src xs pt dt de sd0 r y.2).map λq=>(d::q.1,q.2))
   |_=>none
  else ZAN src xs b.2 (ZAh src xs pt dt de sd0 r b.2)
noncomputable def Z4(own:Nat)(cap:List Nat)(pt:Pat)(di:DI)(dt:DB)(de:DE):DE:=λsd g=>(di sd g).bind λt=>if t.1.length<=1000 then (ZAh t.2.1 t.1 pt dt de (ZDI own cap sd) t.1 t.2.2).map λp=>(.dat (.list p.1),p.2) else none
noncomputable def Zs:DB:=λ_ g=>some (true,g)
theorem ZEF{K:PySem.W.Frag}{ρ : Rh}{H:Hp}{σ : St}{sd:Sd}{g:G}(r:Rst K ρ H σ sd g)(own:Nat)(cap:List Nat):Rst K ρ H (ZCT own cap σ) (ZDI own cap sd) g:=by
 refine⟨by unfold ZCT ZDI;simp,λi x e=>?_,r.hr⟩;unfold ZDI at e;unfold ZCT
 by_cases hi:i<own
 ·rw[getElem?_append_left (by simpa using hi),getElem?_replicate] at e
  split at e <;> cases e
 ·rw[getElem?_append_right (by simpa using hi),length_replicate,getElem?_map] at e
  rw[getElem?_append_right (by simpa using hi),length_replicate,getElem?_map];obtain⟨j,e1,e⟩:=mp e;rw[e1];cases k:sd[j]? with
  |none=>rw[k] at e;cases e
  |some w =>
   rw[k] at e;have e:w=some x:=e;subst e;obtain⟨v,h1,h2⟩:=r.env j x k;exact⟨v,by show some ((σ[j]?).join)=_;rw[h1];rfl,h2⟩
theorem ZDO{own:Nat}{cap:List Nat}{σ : St}{i:Nat}(h:i<own):(ZCT own cap σ)[i]? = some none:=by
 unfold ZCT;rw[getElem?_append_left (by simpa using h),getElem?_replicate,if_pos h]
theorem PTs.imp{X:Cx}{ifs:List Expr}{t u:TT}(h:PTs X ifs t)(k:∀σ H Q,u σ H Q->t σ H Q):PTs X ifs u:=λpins s σ H Q I q=>h pins s σ H Q I (k σ H Q q)
theorem ZJg{X:Cx}:PTs X [] (tT X.K Zs):=ZNq.imp λσ H Q ⟨ρ,sd,g,b,g',r,e,q⟩=>by
 cases e;exact q H ρ .refl r.hr
theorem Stp.grow{ρ ρ':Rh}{H H':Hp}{p:Addr}{o:HO}(hp:H p=none)(s:Stp ρ H ρ' H'):Stp ρ H ρ' (upd H' p o):=⟨s.pre,s.hid,λa u e n=>by rw[ZD (ZG e hp)];exact s.frm a u e n,s.fre,λa u e=>by rw[ZD (ZG e hp)];exact s.kd a u e⟩
theorem Stp.unhide{ρ ρ':Rh}{H H':Hp}{p:Addr}(s:Stp (ρ.hide p) H ρ' H'):Stp ρ H ⟨ρ'.c,ρ.h⟩ H'/\ρ'=(⟨ρ'.c,ρ.h⟩:Rh).hide p:=⟨⟨s.pre,rfl,s.frm,s.fre,s.kd⟩,by
 have:=s.hid;obtain⟨c,h⟩:=ρ';have e:h=p::ρ.h:=this
 subst e;rfl⟩
theorem Rst.hide{K:PySem.W.Frag}{ρ : Rh}{H:Hp}{σ : St}{sd:Sd}{g:G}{p:Addr}{o:HO}(hp:H p=none)(r:Rst K ρ H σ sd g):Rst K (ρ.hide p) (upd H p o) σ sd g:=⟨r.len,λi x e=>by
 obtain⟨v,h1,h2⟩:=r.env i x e;exact⟨v,h1,h2.hide hp⟩,r.hr.hide hp⟩
theorem Rst.grow{K:PySem.W.Frag}{ρ : Rh}{H:Hp}{σ : St}{sd:Sd}{g:G}{p:Addr}{o:HO}(hp:p∈ρ.h)(r:Rst K ρ H σ sd g):Rst K ρ (upd H p o) σ sd g:=⟨r.len,λi x e=>by
 obtain⟨v,h1,h2⟩:=r.env i x e;exact⟨v,h1,h2.grow hp⟩,r.hr.grow hp⟩
section
variable{X:Cx}{tg elt iter:Expr}{ifs:List Expr}{scope sc:Scope}{pos:Pos}{di:DI}{pt:Pat}{dt:DB}{de:DE}{N NX:List Str}{own:Nat}{cap:List Nat}
inductive CRun (so:G->Prop) (pt:Pat) (dt:DB) (de:DE) (sd0:Sd):List W->G->List W->G->Prop
 |nil {g:G}:CRun so pt dt de sd0 [] g [] g
 |yes {x:W} {r ys:List W} {y:W} {sd1:Sd} {g g1 g2 g3:G}:ZW pt x sd0=some sd1->dt sd1 g=some (true,g1)->de sd1 g1=some (y,g2)->so g2->CRun so pt dt de sd0 r g2 ys g3->CRun so pt dt de sd0 (x::r) g (y::ys) g3
 |no {x:W} {r ys:List W} {sd1:Sd} {g g1 g3:G}:ZW pt x sd0=some sd1->dt sd1 g=some (false,g1)->so g1->CRun so pt dt de sd0 r g1 ys g3->CRun so pt dt de sd0 (x::r) g ys g3
theorem ZDf{K:PySem.W.Frag}{Q:VK}{J:It}{IO:Rh->Hp->Prop}{so:G->Prop}{xs zs:List W}{ρ1:Rh}{H1:Hp}{σ0:St}{sd0:Sd}{g1 g2:G}{D:Addr}(hp:pt.all (λi=>decide (i<own))=true)
  (mono:∀{ρ H ρ' H'},Stp ρ H ρ' H'->IO ρ H->IO ρ' H')(grow:∀{ρ H o},D∈ρ.h->IO ρ H->IO ρ (upd H D o))
  (use:∀{ρ H g},IO ρ H->HR K ρ H g->so g->(∀(i:Nat) x,xs[i]? = some x->J.go i H/\∀v H2,J.yld i H v H2->Same H H2/\Rel K ρ H2 v x)/\∀i,xs.length<=i->J.stop i H)
  (hz:xs.length<=1000)(hD:H1 D=none)(r1:Rst K ρ1 H1 σ0 sd0 g1)(hσ : ∀i,i<own->σ0[i]? = some none)(so1:so g1)(io:IO (ρ1.hide D) (upd H1 D (.lst [])))(run:CRun so pt dt de sd0 xs g1 zs g2)
  (fin:∀acc H' ρ',Stp ρ1 H1 ρ' H'->HR K (ρ'.hide D) H' g2->H' D=some (.lst acc)->RelL K (ρ'.hide D) H' acc zs->Q (.ref D) H'):ZEL J (gP K pt) (tT K dt) (tE K de) σ0 D Q (upd H1 D (.lst [])):=by
 have hDm:∀{ρx:Rh},D∈(ρx.hide D).h:=λ{ρx}=>mem_cons_self ..
 refine⟨λi m acc H'=>m=xs.length-i/\i<=xs.length/\acc.length<=i/\∃ρ' g' ads ys,Stp ρ1 H1 ρ' H'/\Rst K (ρ'.hide D) H' σ0 sd0 g'/\so g'/\H' D=some (.lst acc)/\RelL K (ρ'.hide D) H' acc ads/\IO (ρ'.hide D) H'/\CRun so pt dt de sd0 (xs.drop i) g' ys g2/\ads++ys=zs,⟨xs.length,rfl,zero_le _,le_refl _,ρ1,g1,[],zs,.same (_root_.H1.Same.upd hD),r1.hide hD,so1,ZC,.nil,io,run,rfl⟩,?_⟩
 rintro i m acc H' ⟨rfl,hi,ha,ρ',g',ads,ys,s',r',so',hacc,ra,it',e',ez⟩
 obtain⟨hgo,hst⟩:=use it' r'.hr so'
 by_cases hlt:i<xs.length
 ·rw[drop_eq_getElem_cons hlt] at e'
  obtain⟨hg1,hy⟩:=hgo i xs[i] (getElem?_eq_getElem hlt);refine .inr ⟨hg1,λacc2 H2=>acc2.length<=i+1/\∃ρ' g' ads ys,Stp ρ1 H1 ρ' H2/\Rst K (ρ'.hide D) H2 σ0 sd0 g'/\so g'/\H2 D=some (.lst acc2)/\RelL K (ρ'.hide D) H2 acc2 ads/\IO (ρ'.hide D) H2/\CRun so pt dt de sd0 (xs.drop (i+1)) g' ys g2/\ads++ys=zs,λacc2 H2 ⟨k0,k⟩=>⟨xs.length-(i+1),by omega,rfl,hlt,k0,k⟩,λv H2 y=>?_⟩;obtain⟨sm,rv⟩:=hy v H2 y;have s2:Stp (ρ'.hide D) H' (ρ'.hide D) H2:=.same sm;cases e' with
  |no e2 e3 so3 e4 =>
   refine ZDl (f:=λi=>decide (i<own)) hp e2 (r'.step s2 (r'.hr.same sm)) rv λσ3 r3 kp=>⟨?_,ρ'.hide D,_,g',_,_,r3,e3,λH3 ρ3 s3 h3=>?_⟩
   ·exact⟨kp.1,λi v e=>by
     by_cases hi:i<own
     ·rw[hσ i hi] at e;cases e
     ·rw[kp.2 i (decide_eq_false hi)];exact e⟩
   have s23:=s2.trans s3;obtain⟨u3,e3h⟩:=s23.unhide;have hD3:H3 D=some (.lst acc):=s23.frm _ _ hacc (r'.hr.hid D hDm).1;rw[e3h] at h3 s23;refine iteF ?_;exact⟨Nat.le_succ_of_le ha,⟨ρ3.c,ρ'.h⟩,_,ads,ys,s'.trans u3,r'.step s23 h3,so3,hD3,ra.mono s23,mono s23 it',e4,ez⟩
  |@yes _ _ ys' w sd1 _ g3 g4 _ e2 e3 e4 so4 e6 =>
   refine ZDl (f:=λi=>decide (i<own)) hp e2 (r'.step s2 (r'.hr.same sm)) rv λσ3 r3 kp=>⟨?_,ρ'.hide D,_,g',_,_,r3,e3,λH3 ρ3 s3 h3=>?_⟩
   ·exact⟨kp.1,λi v e=>by
     by_cases hi:i<own
     ·rw[hσ i hi] at e;cases e
     ·rw[kp.2 i (decide_eq_false hi)];exact e⟩
   have s23:=s2.trans s3;obtain⟨u3,e3h⟩:=s23.unhide;have hD3:H3 D=some (.lst acc):=s23.frm _ _ hacc (r'.hr.hid D hDm).1;have r3':=r3.step s3 h3;rw[e3h] at r3' h3 s3 s23;refine ZQ1 ?_;refine⟨(⟨ρ3.c,ρ'.h⟩:Rh).hide D,sd1,g3,w,g4,r3',e4,λy4 H4 ρ4 s4 h4 r4=>?_⟩;obtain⟨u4,e4h⟩:=s4.unhide;rw[e4h] at h4 r4 s4;have s24:=s23.trans s4;have hD4:H4 D=some (.lst acc):=s4.frm _ _ hD3 (h3.hid D hDm).1;refine⟨hD4,Nat.lt_of_le_of_lt ha (ZS (by omega)),?_⟩;refine⟨by rw[length_append];exact Nat.add_le_add_right ha 1,⟨ρ4.c,ρ'.h⟩,g4,ads++[w],ys',((s'.trans u3).trans u4).grow hD,(r'.step s24 h4).grow hDm,so4,ZC,((ra.mono s24).append (.cons r4 .nil)).grow hDm,grow hDm (mono s24 it'),e6,?_⟩;rw[append_assoc];exact ez
 ·have ei:i=xs.length:=by omega
  subst ei;rw[drop_length] at e';cases e';rw[append_nil] at ez;subst ez;exact .inl ⟨hst _ (le_refl _),fin acc H' ρ' s' r'.hr hacc ra⟩
theorem ZIy{src:Option Nat}{xs:List PyData}{sd0:Sd}{g2:G}:∀{r ys:List PyData} {g:G},ZAh src xs pt dt de sd0 r g=some (ys,g2)->CRun (Zj src xs) pt dt de sd0 (r.map .dat) g (ys.map .dat) g2
 |[],_,_,e=>by
  rw[ZAh] at e;cases e;exact .nil
 |x::r,ys,g,e=>by
  rw[ZAh] at e;obtain⟨sd1,e2,e⟩:=bnd e;obtain⟨⟨b,g3⟩,e3,e⟩:=bnd e;cases b with
  |false =>
   rw[if_neg Bool.false_ne_true] at e;obtain⟨so,e⟩:=ZAD e;exact .no e2 e3 so (ZIy e)
  |true =>
   rw[if_pos rfl] at e;obtain⟨⟨w,g4⟩,e4,e⟩:=bnd e;dsimp only at e
   split at e
   ·obtain⟨so,e⟩:=ZAD e
    obtain⟨⟨ys',g5⟩,e6,e⟩:=mp e;cases e;exact .yes e2 e3 e4 so (ZIy e6)
   ·cases e
theorem RelL.dats{K:PySem.W.Frag}{ρ : Rh}{H:Hp}:∀{ds:List PyData} {vs:List V},RelL K ρ H vs (ds.map .dat)->RelDL K ρ H vs ds
 |[],_,.nil=>.nil
 |_::_,_,.cons (.dat h) t=>.cons h (RelL.dats t)
theorem ItOk.useW{K:PySem.W.Frag}{ρ : Rh}{H:Hp}{g:G}{J:It}{xs:List PyData}{src:Option Nat}(it:ItOk K ρ H J xs src)(h:HR K ρ H g)(so:Zj src xs g):(∀(i:Nat) x,(xs.map W.dat)[i]? = some x->J.go i H/\∀v H2,J.yld i H v H2->Same H H2/\Rel K ρ H2 v x)/\∀i,(xs.map W.dat).length<=i->J.stop i H:=by
 obtain⟨a,b⟩:=it.use h so;refine⟨λi x e=>?_,λi hi=>b i (by rwa [length_map] at hi)⟩;rw[getElem?_map] at e;obtain⟨d,e2,rfl⟩:=mp e;exact⟨(a i d e2).1,λv H2 y=>⟨((a i d e2).2 v H2 y).1,.dat ((a i d e2).2 v H2 y).2⟩⟩
theorem ZGg{K:PySem.W.Frag}{Q:VK}{ρ ρ1 ρ':Rh}{H H1 H':Hp}{D:Addr}{acc:List V}{ds:List PyData}{g1 g2:G}(hD:H1 D=none)(h1:HR K ρ1 H1 g1)(q:Pv K ρ H (.dat (.list ds)) g2 Q)(s1:Stp ρ H ρ1 H1)(s':Stp ρ1 H1 ρ' H')(hr:HR K (ρ'.hide D) H' g2)(hacc:H' D=some (.lst acc))(ra:RelL K (ρ'.hide D) H' acc (ds.map .dat)):Q (.ref D) H':=by
 have hnh:D∉ρ1.h:=λz=>h1.nin hD (.inr z)
 refine q _ H' ρ' (s1.trans s') hr.shown (.dat (.lst hacc (λz=>?_) (ra.dats.less (ρ':=ρ') (ρ:=ρ'.hide D) λ_ z=>z.elim .inl λq=>.inr (mem_cons_of_mem _ q))));rcases z with z|z
 ·exact(hr.hid D (mem_cons_self ..)).1 z
 ·rw[s'.hid] at z
  exact hnh z
theorem ZJX{K:PySem.W.Frag}{σ : St}{H:Hp}{Q:VK}(hp:pt.all (λi=>decide (i<own))=true)(h:tE K (Z4 own cap pt di dt de) σ H Q):ZFD own cap (tI K di) (gP K pt) (tT K dt) (tE K de) σ H Q:=by
 obtain⟨ρ,sd,g,x,gz,r,e,q⟩:=h;obtain⟨⟨xs,src,g1⟩,e1,e⟩:=bnd e;dsimp only at e
 split at e
 ·rename_i hz
  obtain⟨⟨zs,g2⟩,e2,e⟩:=mp e;cases e;exact⟨ρ,sd,g,xs,src,g1,r,e1,λJ H1 ρ1 s1 h1 ⟨so,it⟩ D hD=>ZDf hp (IO:=λρ H=>ItOk K ρ H J xs src) (λs i=>i.mono s) (λh i=>i.grow h) (λi h s=>i.useW h s) (by rw[length_map];exact hz) hD (ZEF (r.step s1 h1) own cap) (λi hi=>ZDO hi) so (it.hide hD) (ZIy e2) λacc H' ρ' s' hr hacc ra=>ZGg hD h1 q s1 s' hr hacc ra⟩
 ·cases e
theorem ZNx(hc:X.calm=true)(hi:PI X tg iter (tI X.K di))(hsc:X.env.scope=sc)(hNX:X.N=NX)
  (hb:∀cl C s0 H0 fp,PG (blk X N (compEnvC scope cl C X.env) s0 H0 fp) tg (gP X.K pt)/\PTs (blk X N (compEnvC scope cl C X.env) s0 H0 fp) ifs (tT X.K dt)/\PE (blk X N (compEnvC scope cl C X.env) s0 H0 fp) elt (tE X.K de))
  (co:ZBU sc scope NX N own cap=true)(hp:pt.all (λi=>decide (i<own))=true)(hs:∀x,foldedSetIterable iter X.env x=pure x:=by intro _;rfl):PE X (.ListComp elt [⟨tg,iter,ifs,0⟩] scope pos) (tE X.K (Z4 own cap pt di dt de)) :=
 (ZGt hc hi hsc hNX hb co hs).imp λ_ _ _ h=>ZJX hp h
theorem ZN7{i:Nat}{x:Str}{py spos:Pos}(hN:X.N.Nodup)(hi:X.N[i]? = some x)(hx:Loc X.env.scope x)(hc:X.calm=true)(hit:PI X tg iter (tI X.K di))(hsc:X.env.scope=sc)(hNX:X.N=NX)
  (hb:∀cl C s0 H0 fp,PG (blk X N (compEnvC scope cl C X.env) s0 H0 fp) tg (gP X.K pt)/\PTs (blk X N (compEnvC scope cl C X.env) s0 H0 fp) ifs (tT X.K dt)/\PE (blk X N (compEnvC scope cl C X.env) s0 H0 fp) elt (tE X.K de))
  (co:ZBU sc scope NX N own cap=true)(hp:pt.all (λi=>decide (i<own))=true)(hsw:swapsWith (.ListComp elt [⟨tg,iter,ifs,0⟩] scope pos) (some (.Name x py)) spos.line X.env=pure true:=by rfl)(hs:∀x,foldedSetIterable iter X.env x=pure x:=by intro _;rfl)
  (hf:X.fn x=true∨X.env.scope.names.lookup x=some .local:=by first|exact .inl rfl|exact .inr rfl|assumption) :
  PS X (.Assign [.Name x py] (.ListComp elt [⟨tg,iter,ifs,0⟩] scope pos) spos) (tS X.K (Zo i (Z4 own cap pt di dt de))):=(ZJl hN hi hx hc hit hsc hNX hb co hsw hs hf).imp λD σ H ⟨ρ,sd,g,o,r,e,q⟩=>by
 obtain⟨⟨y,g1⟩,e1,e⟩:=bnd e;cases e;exact ZJX hp ⟨ρ,sd,g,y,g1,r,e1,λv H1 ρ1 s1 h1 r1=>q _ H1 ρ1 s1 ((r.step s1 h1).set r1 i)⟩
end
noncomputable def ZA9(n:Nat)(d:DS)(ws:List W)(g:G):Option (W×G):=match d (ws.map some++List.replicate (n-ws.length) none) g with
 |some (.rt x g')=>some (x,g')
 |some (.nx _ g')=>some (.dat .none,g')
 |_=>none
theorem ZDV{K:PySem.W.Frag}{ρ : Rh}{H:Hp}{g:G}(h:HR K ρ H g)(k:Nat):∀{vs:List V} {ws:List W},RelL K ρ H vs ws->Rst K ρ H (vs.map some++List.replicate k none) (ws.map some++List.replicate k none) g
 |_,_,.nil=>by
  refine⟨by simp,λi x e=>?_,h⟩;simp only[map_nil,nil_append] at e;rw[getElem?_replicate] at e
  split at e <;> cases e
 |v::vs,w::ws,.cons r t=>by
  have q:=ZDV h k t;refine⟨by have:=q.len;simp at this ⊢;exact this,λi x e=>?_,h⟩;cases i with
  |zero=>simp at e;subst e;exact⟨v,by simp,r⟩
  |succ i =>
   simp at e;obtain⟨u,h1,h2⟩:=q.env i x (by simpa using e);exact⟨u,by simpa using h1,h2⟩
theorem ZQz{P:Program}{w:World}{K:PySem.W.Frag}{mg:Str->Option Value}{base:Heap}{x qual:Str}{st:Stmt}{f:Addr}{fd:FuncData}{N ps:List Str}{k:Nat}{d:DS}(F:Fun K x qual st f fd)(S:FnScope N ps (ZF st))
  (hb:∀(cdv:Value) (A:Around) (outer:List Env) (s:Shared) (H:Hp) (E:XK),Room k (A.deeper (envOfC qual (ZF st) s.heap.objs.size f cdv))->PSs (ZCs CX0 P w K mg base N qual (ZF st) f cdv A outer s H E).nox (ZAJ st) (tS K d)) :
  FnOk P w K mg base CX0 (k+1) f fd ps (spD K ps.length (ZA9 N.length d)):=by
 refine F.ok S (λvs H Q E h=>h.1) (λcdv A outer s H vs Q E hr h=>⟨_,hb cdv A outer s H E hr,?_⟩);obtain⟨hl,ρ,ws,g,z,gz,hR,rl,e,q⟩:=h;unfold ZA9 at e;have hlw:=rl.length;unfold ZCY;rw[hlw];cases ho:d (ws.map some++List.replicate (N.length-ws.length) none) g with
 |none=>rw[ho] at e;cases e
 |some o =>
  rw[ho] at e;refine⟨ρ,_,g,o,ZDV hR _ rl,ho,?_⟩;cases o with
  |nx sd g' =>
   cases e;intro σ' H' ρ' s' r';exact q .non H' ρ' s' r'.hr (.dat .non)
  |rt y g' =>
   cases e;exact q
  |bk _ _=>cases e
  |ct _ _=>cases e
end L2
namespace L2
open PySem PySem.Spec PyProof.Rows H1
mutual
theorem RelD.reads{X:Cx}{pins:List (Addr×Obj)}{σ : St}{ρ : Rh}{H:Hp}{s:Shared}(I:Inv X pins σ H s):∀{v:V} {d:PyData} {u:Value},RelD X.K ρ H v d->d.canLay0=true->ZU v u->∃as,Reads s.heap u d as
 |_,_,_,.non,_,r=>by cases r;exact⟨_,.none⟩
 |_,_,_,.bl b,_,r=>by cases r;exact⟨_,.bool b⟩
 |_,_,_,.int i,_,r=>by obtain⟨t,rfl⟩:=r;exact⟨_,.int i t⟩
 |_,_,_,.str x,_,r=>by obtain⟨t,rfl⟩:=r;exact⟨_,.str x t⟩
 |_,_,_,.tup h hl,c,r=>by
  cases r;obtain⟨its,rv,⟨o,ho,hc,n,hd⟩,_⟩:=I.tuple h.sq;obtain⟨as,ra⟩:=RelDL.reads I hl (by rw[PyData.canLay0] at c;exact c) rv;exact⟨as,.tuple ho hc hd (by simpa using ra)⟩
 |_,_,_,.lst h _ hl,c,r=>by
  cases r;obtain⟨_,its,n,rv,e⟩:=I.hok _ _ h;obtain⟨as,ra⟩:=RelDL.reads I hl (by rw[PyData.canLay0] at c;exact c) rv;exact⟨_,.list e rfl rfl (by simpa using ra)⟩
 |_,_,_,.dct h _,c,r=>by rw[PyData.canLay0] at c;cases c
theorem RelDL.reads{X:Cx}{pins:List (Addr×Obj)}{σ : St}{ρ : Rh}{H:Hp}{s:Shared}(I:Inv X pins σ H s):∀{vs:List V} {ds:List PyData} {us:List Value},RelDL X.K ρ H vs ds->PyData.canLayAll0 ds=true->ZK vs us->∃as,ReadsAll s.heap us ds as
 |_,_,_,.nil,_,r=>by cases r;exact⟨_,.nil⟩
 |_,_,_,.cons h hl,c,r=>by
  rw[PyData.canLayAll0,Bool.and_eq_true] at c;cases r with
  |cons r1 r2 =>
   obtain⟨as,ra⟩:=RelD.reads I h c.1 r1;obtain⟨bs,rb⟩:=RelDL.reads I hl c.2 r2;exact⟨_,.cons ra rb⟩
end
noncomputable def Zt:W->G->Option (List PyData)
 |.dat (.list ds),_=>some ds
 |.ref n,g=>lk g n
 |_,_=>none
theorem Zc{K:PySem.W.Frag}{ρ : Rh}{H:Hp}{g:G}{v:V}{w:W}{ds:List PyData}(hR:HR K ρ H g)(r:Rel K ρ H v w)(e:Zt w g=some ds):∃a vs,v=.ref a/\H a=some (.lst vs)/\RelDL K ρ H vs ds:=by
 cases r with
 |ty=>cases e
 |exc _=>cases e
 |tup _ _=>cases e
 |inp _=>cases e
 |ref h =>
  obtain⟨a,vs,h1,h2,h3⟩:=hR.at_ _ _ (ZDC e);rw[h] at h1;cases h1;exact⟨_,vs,rfl,h2,h3⟩
 |dat h =>
  cases h with
  |lst h n t=>cases e;exact⟨_,_,rfl,h,t⟩
  |_=>cases e
theorem Pv.at{K:PySem.W.Frag}{ρ : Rh}{H:Hp}{g:G}{x:W}{v:V}{Q:VK}(q:Pv K ρ H x g Q)(h:HR K ρ H g)(r:Rel K ρ H v x):Q v H:=q v H ρ .refl h r
theorem Pv.new{K:PySem.W.Frag}{ρ : Rh}{H:Hp}{g:G}{ds:List PyData}{vs:List V}{Q:VK}(q:Pv K ρ H (.dat (.list ds)) g Q)(h:HR K ρ H g)(r:RelDL K ρ H vs ds){p:Addr}(hp:H p=none):Q (.ref p) (upd H p (.lst vs)):=by
 obtain⟨sm,hr2,hn⟩:=ZAO (o:=.lst vs) h hp;exact q _ _ ρ (.same sm) hr2 (.dat (.lst ZC hn (r.mono (.same sm))))
theorem Pv.newT{K:PySem.W.Frag}{ρ : Rh}{H:Hp}{g:G}{ds:List PyData}{vs:List V}{Q:VK}(q:Pv K ρ H (.dat (.tuple ds)) g Q)(h:HR K ρ H g)(r:RelDL K ρ H vs ds){p:Addr}(hp:H p=none):Q (.ref p) (upd H p (.tup vs)):=by
 obtain⟨sm,hr2,hn⟩:=ZAO (o:=.tup vs) h hp;exact q _ _ ρ (.same sm) hr2 (.dat (.tup (.inl ⟨.inl ZC,hn⟩) (r.mono (.same sm))))
noncomputable def ZT:W->W->G->Option (W×G)
 |.dat (.int i),.dat (.int j),g=>some (.dat (.int (i+j)),g)
 |.dat (.tuple xs),.dat (.tuple ys),g=>if xs.length+ys.length<=1000 then some (.dat (.tuple (xs++ys)),g) else none
 |.dat (.str a),.dat (.str b),g=>if a.length+b.length<=1000 then some (.dat (.str (a++b)),g) else none
 |a,b,g=>(Zt a g).bind λxs=>(Zt b g).bind λys=>if xs.length+ys.length<=1000 then some (.dat (.list (xs++ys)),g) else none
noncomputable def opZ(c:Int->Int->Bool)(f:Int->Int->PyData):W->W->G->Option (W×G)
 |.dat (.int i),.dat (.int j),g=>if c i j=true then some (.dat (f i j),g) else none
 |_,_,_=>none
noncomputable def ZAu:=opZ (λ_ j=>decide (0<j)) λi j=>.int (i % j)
noncomputable def ZEY:=opZ (λ_ j=>decide (0<j) && decide (j<2 ^ 64)) λi j=>.int (i / j)
noncomputable def ZIl(i j:Int):Bool:=(decide (-(2 ^ 64)<i) && decide (i<2 ^ 64)) || (decide (-(2 ^ 64)<j) && decide (j<2 ^ 64))
noncomputable def mulA:W->Int->G->Option (W×G)
 |.dat (.int i),j,g=>if ZIl i j=true then some (.dat (.int (i*j)),g) else none
 |.dat (.tuple xs),k,g=>if ((decide (2<=k) && decide (k<=20)) && (!xs.isEmpty && decide (xs.length<=20)))=true then some (.dat (.tuple (List.replicate k.toNat xs).flatten),g) else none
 |a,k,g=>(Zt a g).bind λxs=>if k<=1000/\-1000<=k/\xs.length<=1000 then some (.dat (.list (List.replicate k.toNat xs).flatten),g) else none
noncomputable def ZCX(a b:W)(g:G):Option (W×G):=(ZCF b).bind λk=>mulA a k g
section
variable{X:Cx}
theorem ZSK:OpR X (binaryOp .Add) (rOp X.K ZT):=by
 intro pins s σ H x y v u Q I rx ry h;obtain⟨ρ,a,b,g,z,g',hR,ra,rb,e,q⟩:=h;have lists:((Zt a g).bind λxs=>(Zt b g).bind λys=>if xs.length+ys.length<=1000 then some (W.dat (.list (xs++ys)),g) else none)=some (z,g')->wpAny (model X.prog X.w) X.A (binaryOp .Add v u) (EP X pins σ Q) X.xe s:=λe=>by
  obtain⟨xs,e1,e⟩:=bnd e;obtain⟨ys,e2,e⟩:=bnd e;obtain⟨l,vs,rfl,h1,t1⟩:=Zc hR ra e1;obtain⟨l',us,rfl,h2,t2⟩:=Zc hR rb e2
  split at e
  ·rename_i hz
   cases e;exact ZRi pins s σ H _ _ v u Q I rx ry ⟨l,l',vs,us,rfl,rfl,h1,h2,by rw[t1.length,t2.length];exact le_of_lt (ZS hz),λp hp=>q.new hR (t1.append t2) hp⟩
  ·cases e
 cases ra with
 |ref h=>exact lists e
 |inp h=>exact lists e
 |ty=>cases e
 |exc _=>cases e
 |tup _ _=>cases e
 |dat ra =>
  cases ra with
  |int i =>
   cases rb with
   |dat rb =>
    cases rb with
    |int j=>cases e;exact ZQ2 pins s σ H _ _ v u Q I rx ry ⟨i,j,rfl,rfl,q.at hR (.dat (.int _))⟩
    |_=>cases e
   |_=>cases e
  |str i =>
   cases rb with
   |dat rb =>
    cases rb with
    |str j =>
     change (if i.length+j.length<=1000 then some (W.dat (.str (i++j)),g) else none)=some (z,g') at e
     split at e
     ·rename_i hz
      cases e;exact ZIP pins s σ H _ _ v u Q I rx ry ⟨i,j,rfl,rfl,le_of_lt (ZS hz),q.at hR (.dat (.str _))⟩
     ·cases e
    |_=>cases e
   |_=>cases e
  |@tup a1 xs ds f1 t1 =>
   cases rb with
   |dat rb =>
    cases rb with
    |@tup a2 ys es f2 t2 =>
     change (if ds.length+es.length<=1000 then some (W.dat (.tuple (ds++es)),g) else none)=some (z,g') at e
     split at e
     ·rename_i hz
      cases e;have hz':xs.length+ys.length<=sizeLine:=by rw[t1.length,t2.length];exact le_of_lt (ZS hz)
      cases rx;cases ry;obtain⟨its,r1,p1,_⟩:=I.tuple f1.sq;obtain⟨its2,r2,p2,_⟩:=I.tuple f2.sq;refine HT.cat_tupA p1 p2 (λz=>⟨.ref a2,H,I,rfl,q.at hR (.dat ?_)⟩) (λ_ z=>⟨.ref a1,H,I,rfl,q.at hR (.dat ?_)⟩) (λ_ z=>?_) (by rw[←r1.length,←r2.length];exact hz')
      ·have:=r1.nil_iff.mp z
       subst this
       cases t1;exact .tup f2 t2
      ·have:=r2.nil_iff.mp z
       subst this
       cases t2;rw[append_nil];exact .tup f1 t1
      ·exact⟨.ref s.heap.objs.size,_,I.laid (t':=s.toks) (o:=.tup (xs++ys)) (λb ob q=>get?_push_of_some _ q) (le_refl _) ⟨by rw[length_append];exact hz',_,r1.append r2,IsTup.new _ _⟩,rfl,q.newT hR (t1.append t2) (I.hok.fresh (le_refl _))⟩
     ·cases e
    |_=>cases e
   |_=>cases e
  |lst h n t=>exact lists e
  |_=>cases e
theorem oI{op:Operator}{C:Int->Int->Prop}{c:Int->Int->Bool}{f:Int->Int->Int}(h:OpR X (binaryOp op) (rI C λi j=>.int (f i j)))(hc:∀i j,c i j=true->C i j):OpR X (binaryOp op) (rOp X.K (opZ c λi j=>.int (f i j))):=by
 intro pins s σ H x y v u Q I rx ry hh;obtain⟨ρ,a,b,g,z,g',hR,ra,rb,e,q⟩:=hh;cases ra with
 |dat ra =>
  cases ra with
  |int i =>
   cases rb with
   |dat rb =>
    cases rb with
    |int j =>
     change (if c i j=true then some (W.dat (.int (f i j)),g) else none)=some (z,g') at e
     split at e
     ·rename_i hz
      cases e;exact h pins s σ H _ _ v u Q I rx ry ⟨i,j,rfl,rfl,hc i j hz,q.at hR (.dat (.int _))⟩
     ·cases e
    |_=>cases e
   |_=>cases e
  |_=>cases e
 |_=>cases e
theorem oMod:OpR X (binaryOp .Mod) (rOp X.K ZAu):=oI ZQG λi j h=>of_decide_eq_true h
theorem oFdiv:OpR X (binaryOp .FloorDiv) (rOp X.K ZEY):=oI ZLC λi j h=>by
 rw[Bool.and_eq_true] at h;exact⟨of_decide_eq_true h.1,of_decide_eq_true h.2⟩
theorem ZOD{i j:Int}(h:ZIl i j=true):ZNz i j:=by
 unfold ZIl at h;rw[Bool.or_eq_true,Bool.and_eq_true,Bool.and_eq_true] at h;rcases h with h|h
 ·exact .inl ⟨of_decide_eq_true h.1,of_decide_eq_true h.2⟩
 ·exact .inr ⟨of_decide_eq_true h.1,of_decide_eq_true h.2⟩
theorem ZN3:OpR X (binaryOp .Mult) (λx y H Q=>∃(a:Addr) (k:Int) (xs:List V),x=.ref a/\y=.int k/\SqT X.K H a xs/\(2<=k/\k<=400)/\(xs≠[]/\k.toNat*xs.length<=400)/\∀p,H p=none->Q (.ref p) (upd H p (.tup (List.replicate k.toNat xs).flatten))):=by
 intro pins s σ H x y v u Q I rx ry h;obtain⟨a,k,xs,rfl,rfl,ha,⟨k2,k20⟩,⟨hne,h20⟩,q⟩:=h;cases rx;obtain⟨t,rfl⟩:=ry;obtain⟨its,r,p1,_⟩:=I.tuple ha;obtain⟨⟨cls,dd,data,sl⟩,ho,hc,n,hd⟩:=id p1;simp only at hc hd;subst hc hd;have hlen:its.length=xs.length:=r.length.symm;have hine:its.toArray.isEmpty=false:=by
  cases its with
  |nil=>exact absurd (r.nil_iff.mp rfl) hne
  |cons _ _=>rfl
 have hmul:(List.replicate k.toNat xs).flatten.length<=400:=by
  rw[ZJL];exact h20
 have hnew:List.foldl (λx1 x2=>x1++x2) #[] (List.replicate k.toNat its.toArray)=(List.replicate k.toNat its).flatten.toArray:=by
  have:=ZDg its k.toNat [];rw[nil_append] at this
  exact this
 have hmI:(its.toArray.size:Int)*k<=400:=by
  rw[size_toArray,hlen];have e:((k.toNat*xs.length:Nat):Int)=(xs.length:Int)*k:=by rw[Int.natCast_mul,Int.toNat_of_nonneg (by omega),Int.mul_comm]
  rw[←e];omega
 refine wpAny_binaryOp_repeat_ref (T:="tuple") (U:="int") (by decide) ⟨_,ho,rfl⟩ (λs'=>typeIs_int s' k t) HT.noFill_tuple_mul F.fills_int_mul F.slot_int_rmul HT.repeat_tuple F.slot_int_index.lookup
  (call_meets F.slot_int_rmul (typeIs_int s k t) F.entry_int_rmul (F.args_int_rmul_2 _ _) (HT.rmul_tup k t a its.toArray n dd sl)
   ⟨ho,rfl,⟨_,ho,rfl⟩,call_meets F.slot_tuple_mul ⟨_,ho,rfl⟩ F.entry_tuple_mul (F.args_tuple_mul_2 _ _) (HT.tuple_mulW a its.toArray n dd sl k t ?_ ?_ ?_ ?_ ?_ ?_) ⟨ho,?_⟩⟩)
 ·simp;omega
 ·rw[hine];simp;omega
 ·rw[hine];simp;omega
 ·omega
 ·unfold Builtin.Tuple.tupleTooMany
  have:(400:Int)<=(sizeLine:Int):=by decide
  rw[decide_eq_true_iff];omega
 ·rw[hnew,size_toArray,←(r.rep k.toNat).length]
  exact le_trans hmul (by decide)
 rw[hnew];exact⟨.ref s.heap.objs.size,_,I.laid (t':=s.toks) (o:=.tup (List.replicate k.toNat xs).flatten) (λb ob q=>get?_push_of_some _ q) (le_refl _) ⟨le_trans hmul (by decide),_,r.rep k.toNat,IsTup.new _ _⟩,rfl,q _ (I.hok.fresh (le_refl _))⟩
theorem oMul:OpR X (binaryOp .Mult) (rOp X.K ZCX):=by
 intro pins s σ H x y v u Q I rx ry h;obtain⟨ρ,a,b,g,z,g',hR,ra,rb,e,q⟩:=h;have lists:∀{k:Int},y=.int k->((Zt a g).bind λxs=>if k<=1000/\-1000<=k/\xs.length<=1000 then some (W.dat (.list (List.replicate k.toNat xs).flatten),g) else none)=some (z,g')->wpAny (model X.prog X.w) X.A (binaryOp .Mult v u) (EP X pins σ Q) X.xe s:=λ{k} hy e=>by
  obtain⟨xs,e1,e⟩:=bnd e;obtain⟨l,vs,rfl,h1,t1⟩:=Zc hR ra e1
  split at e
  ·rename_i hz
   obtain⟨z1,z2,z3⟩:=hz;cases e;refine ZR4 pins s σ H _ _ v u Q I rx ry ⟨l,k,vs,rfl,hy,h1,by omega,by omega,?_,λp hp=>q.new hR (t1.rep _) hp⟩;rw[t1.length];exact le_trans (Nat.mul_le_mul z3 (show k.toNat<=1000 by omega)) (by decide)
  ·cases e
 obtain⟨j,e0,e⟩:=bnd e;have:=ZAr rb e0;subst this
 cases ra with
 |dat ra =>
  cases ra with
  |int i =>
   change (if ZIl i j=true then some (W.dat (.int (i*j)),g) else none)=some (z,g') at e
   split at e
   ·rename_i hz
    cases e;exact ZQO pins s σ H _ _ v u Q I rx ry ⟨i,j,rfl,rfl,ZOD hz,q.at hR (.dat (.int _))⟩
   ·cases e
  |@tup a1 xs ds f1 t1 =>
   change (if ((decide (2<=j) && decide (j<=20)) && (!ds.isEmpty && decide (ds.length<=20)))=true then some (W.dat (.tuple (List.replicate j.toNat ds).flatten),g) else none)=some (z,g') at e
   split at e
   ·rename_i hz
    cases e;simp only[Bool.and_eq_true,decide_eq_true_eq,Bool.not_eq_true'] at hz;obtain⟨⟨z1,z2⟩,z3,z4⟩:=hz;refine ZN3 pins s σ H _ _ v u Q I rx ry ⟨a1,j,xs,rfl,rfl,f1.sq,⟨z1,by omega⟩,⟨λz=>?_,by rw[t1.length];exact le_trans (Nat.mul_le_mul (show j.toNat<=20 by omega) z4) (by decide)⟩,λp hp=>q.newT hR (t1.rep _) hp⟩;subst z;cases t1;cases z3
   ·cases e
  |_=>exact lists rfl e
 |_=>exact lists rfl e
end
noncomputable def ok0(d:PyData):Bool:=d.canLay0 && decide (d.depth<=40)
noncomputable def ZDr:W->G->Option PyData
 |.dat d,_=>some d
 |.ref n,g=>(lk g n).map .list
 |_,_=>none
noncomputable def ZC1(a b:W)(g:G):Option (W×G):=(ZDr a g).bind λx=>(ZDr b g).bind λy=>if (ok0 x && ok0 y)=true then some (.dat (.bool (x.eqv y)),g) else none
noncomputable def ZHO(a b:W)(g:G):Option (W×G):=(ZDr a g).bind λx=>(ZDr b g).bind λy=>if (ok0 x && ok0 y)=true then some (.dat (.bool !x.eqv y),g) else none
noncomputable def ZMB:W->G->Option (List PyData)
 |.dat (.tuple ys),_=>some ys
 |b,g=>Zt b g
noncomputable def ZIW(a b:W)(g:G):Option (W×G):=(ZDr a g).bind λx=>(ZMB b g).bind λys=>if (ok0 x && PyData.canLayAll0 ys)=true then some (.dat (.bool (ys.any λy=>y.eqv x)),g) else none
noncomputable def ZDQ(a b:W)(g:G):Option (W×G):=(ZDr a g).bind λx=>(ZMB b g).bind λys=>if (ok0 x && PyData.canLayAll0 ys)=true then some (.dat (.bool !ys.any λy=>y.eqv x),g) else none
section
variable{X:Cx}
theorem Zy{pins:List (Addr×Obj)}{σ : St}{ρ : Rh}{H:Hp}{s:Shared}{g:G}{v:V}{w:W}{d:PyData}{u:Value}(I:Inv X pins σ H s)(hR:HR X.K ρ H g)(r:Rel X.K ρ H v w)(e:ZDr w g=some d)(c:d.canLay0=true)(ru:ZU v u):∃as,Reads s.heap u d as:=by
 cases r with
 |ty=>cases e
 |exc _=>cases e
 |tup _ _=>cases e
 |inp _=>cases e
 |dat r=>cases e;exact r.reads I c ru
 |ref h =>
  obtain⟨ds,e1,rfl⟩:=mp e;obtain⟨a,vs,h1,h2,h3⟩:=hR.at_ _ _ (ZDC e1);rw[h] at h1;cases h1;cases ru;obtain⟨_,its,n,rv,e⟩:=I.hok _ _ h2;obtain⟨as,ra⟩:=h3.reads I (by rw[PyData.canLay0] at c;exact c) rv;exact⟨_,.list e rfl rfl (by simpa using ra)⟩
theorem oEq(hu:X.A.units+64<cLine):OpR X (compareOp .Eq) (rOp X.K ZC1):=by
 intro pins s σ H x y v u Q I rx ry h;obtain⟨ρ,a,b,g,z,g',hR,ra,rb,e,q⟩:=h;obtain⟨d1,e1,e⟩:=bnd e;obtain⟨d2,e2,e⟩:=bnd e
 split at e
 ·rename_i hz
  cases e;unfold ok0 at hz;simp only[Bool.and_eq_true,decide_eq_true_eq] at hz;obtain⟨as,r1⟩:=Zy I hR ra e1 hz.1.1 rx;obtain⟨bs,r2⟩:=Zy I hR rb e2 hz.2.1 ry;exact PySem.SeqAt.compareEq_reads r1 r2 hz.1.1 hz.2.1 (by have:=hz.1.2;omega) ⟨.bl _,H,I,rfl,q.at hR (.dat (.bl _))⟩
 ·cases e
theorem oNe(hu:X.A.units+64<cLine):OpR X (compareOp .NotEq) (rOp X.K ZHO):=by
 intro pins s σ H x y v u Q I rx ry h;obtain⟨ρ,a,b,g,z,g',hR,ra,rb,e,q⟩:=h;obtain⟨d1,e1,e⟩:=bnd e;obtain⟨d2,e2,e⟩:=bnd e
 split at e
 ·rename_i hz
  cases e;unfold ok0 at hz;simp only[Bool.and_eq_true,decide_eq_true_eq] at hz;obtain⟨as,r1⟩:=Zy I hR ra e1 hz.1.1 rx;obtain⟨bs,r2⟩:=Zy I hR rb e2 hz.2.1 ry;exact PySem.SeqAt.compareNe_reads r1 r2 hz.1.1 hz.2.1 (by have:=hz.1.2;omega) ⟨.bl _,H,I,rfl,q.at hR (.dat (.bl _))⟩
 ·cases e
theorem ZFt{pins:List (Addr×Obj)}{σ : St}{ρ : Rh}{H:Hp}{s:Shared}{g:G}{v:V}{w:W}{ds:List PyData}{u:Value}(I:Inv X pins σ H s)(hR:HR X.K ρ H g)(r:Rel X.K ρ H v w)(e:ZMB w g=some ds)(c:PyData.canLayAll0 ds=true)(ru:ZU v u):(∃as,Reads s.heap u (.list ds) as)∨∃as,Reads s.heap u (.tuple ds) as:=by
 cases r with
 |ty=>cases e
 |exc _=>cases e
 |tup _ _=>cases e
 |inp _=>cases e
 |ref h=>exact .inl (Zy I hR (.ref h) (show ZDr (.ref _) g=some (.list ds) by show(lk g _).map PyData.list=_;rw[show lk g _=some ds from e];rfl) (by rw[PyData.canLay0];exact c) ru)
 |dat r =>
  cases r with
  |tup f t=>cases e;exact .inr ((RelD.tup f t).reads I (by rw[PyData.canLay0];exact c) ru)
  |lst h n t=>cases e;exact .inl ((RelD.lst h n t).reads I (by rw[PyData.canLay0];exact c) ru)
  |_=>cases e
theorem oIn(hu:X.A.units+64<cLine):OpR X (compareOp .In) (rOp X.K ZIW):=by
 intro pins s σ H x y v u Q I rx ry h;obtain⟨ρ,a,b,g,z,g',hR,ra,rb,e,q⟩:=h;obtain⟨d1,e1,e⟩:=bnd e;obtain⟨ds,e2,e⟩:=bnd e
 split at e
 ·rename_i hz
  cases e;unfold ok0 at hz;simp only[Bool.and_eq_true,decide_eq_true_eq] at hz;obtain⟨as,r1⟩:=Zy I hR ra e1 hz.1.1 rx;have hd:X.A.units+1+min (PyData.depthAll ds) d1.depth<cLine:=by have:=hz.1.2;have:=Nat.min_le_right (PyData.depthAll ds) d1.depth;omega
  rcases ZFt I hR rb e2 hz.2 ry with ⟨bs,r2⟩|⟨bs,r2⟩
  ·exact PySem.SeqAt.in_list_reads r2 r1 hz.2 hz.1.1 hd ⟨.bl _,H,I,rfl,q.at hR (.dat (.bl _))⟩
  ·exact PySem.SeqAt.in_tuple_reads r2 r1 hz.2 hz.1.1 hd ⟨.bl _,H,I,rfl,q.at hR (.dat (.bl _))⟩
 ·cases e
theorem ZLA(hu:X.A.units+64<cLine):OpR X (compareOp .NotIn) (rOp X.K ZDQ):=by
 intro pins s σ H x y v u Q I rx ry h;obtain⟨ρ,a,b,g,z,g',hR,ra,rb,e,q⟩:=h;obtain⟨d1,e1,e⟩:=bnd e;obtain⟨ds,e2,e⟩:=bnd e
 split at e
 ·rename_i hz
  cases e;unfold ok0 at hz;simp only[Bool.and_eq_true,decide_eq_true_eq] at hz;obtain⟨as,r1⟩:=Zy I hR ra e1 hz.1.1 rx;have hd:X.A.units+1+min (PyData.depthAll ds) d1.depth<cLine:=by have:=hz.1.2;have:=Nat.min_le_right (PyData.depthAll ds) d1.depth;omega
  rcases ZFt I hR rb e2 hz.2 ry with ⟨bs,r2⟩|⟨bs,r2⟩
  ·exact PySem.SeqAt.notIn_list_reads r2 r1 hz.2 hz.1.1 hd ⟨.bl _,H,I,rfl,q.at hR (.dat (.bl _))⟩
  ·exact PySem.SeqAt.notIn_tuple_reads r2 r1 hz.2 hz.1.1 hd ⟨.bl _,H,I,rfl,q.at hR (.dat (.bl _))⟩
 ·cases e
end
noncomputable def ZAy:List PyData->Option (List Int)
 |[]=>some []
 |.int i::r=>(ZAy r).map λns=>i::ns
 |_::_=>none
theorem ZAw{K:PySem.W.Frag}{ρ : Rh}{H:Hp}{ds:List PyData}:∀{vs:List V} {ns:List Int},RelDL K ρ H vs ds->ZAy ds=some ns->vs=ns.map V.int:=by
 induction ds with
 |nil=>intro vs ns t e;cases t;cases e;rfl
 |cons d r ih =>
  intro vs ns t e;cases t with
  |cons h t =>
   cases h with
   |int i =>
    obtain⟨ms,e1,rfl⟩:=mp e;rw[ih t e1];rfl
   |_=>cases e
noncomputable def ZFe(ci:Int->Int->Option Bool)(ct:List Int->List Int->Option Bool)(cs:Str->Str->Option Bool):W->W->G->Option (W×G)
 |.dat (.int i),.dat (.int j),g=>(ci i j).map λb=>(.dat (.bool b),g)
 |.dat (.tuple xs),.dat (.tuple ys),g=>(ZAy xs).bind λns=>(ZAy ys).bind λms=>(ct ns ms).map λb=>(.dat (.bool b),g)
 |.dat (.str a),.dat (.str b),g=>(cs a b).map λb=>(.dat (.bool b),g)
 |_,_,_=>none
noncomputable def ZIb:=ZFe (λi j=>some (decide (i<j))) (λns ms=>some (HT.lexLt ns ms)) λa b=>some (decide (a.cps.toList<b.cps.toList))
noncomputable def ZNO:=ZFe (λi j=>some (decide (j<i))) (λns ms=>some (HT.lexGt ns ms)) λ_ _=>none
noncomputable def ZQK:=ZFe (λi j=>some (decide (j<=i))) (λns ms=>some (HT.lexGe ns ms)) λ_ _=>none
noncomputable def ZON:=ZFe (λi j=>some (decide (i<=j))) (λ_ _=>none) λ_ _=>none
section
variable{X:Cx}
theorem ZN2{op:CmpOp}{ci:Int->Int->Option Bool}{ct:List Int->List Int->Option Bool}{cs:Str->Str->Option Bool}
  (h1:OpR X (compareOp op) (λx y H Q=>∃i j k,x=.int i/\y=.int j/\ci i j=some k/\Q (.bl k) H))
  (h2:OpR X (compareOp op) (λx y H Q=>∃a b ns ms k,x=.ref a/\y=.ref b/\SqT X.K H a (ns.map V.int)/\SqT X.K H b (ms.map V.int)/\ct ns ms=some k/\Q (.bl k) H))
  (h3:OpR X (compareOp op) (λx y H Q=>∃a b k,x=.str a/\y=.str b/\cs a b=some k/\Q (.bl k) H)):OpR X (compareOp op) (rOp X.K (ZFe ci ct cs)):=by
 intro pins s σ H x y v u Q I rx ry h;obtain⟨ρ,a,b,g,z,g',hR,ra,rb,e,q⟩:=h;unfold ZFe at e
 split at e
 ·obtain⟨k,e3,e⟩:=mp e
  cases e;cases ra with
  |dat ra=>cases ra with
   |int i=>cases rb with
    |dat rb=>cases rb with
     |int j=>exact h1 pins s σ H _ _ v u Q I rx ry ⟨_,_,k,rfl,rfl,e3,q.at hR (.dat (.bl _))⟩
 ·obtain⟨ns,e1,e⟩:=bnd e
  obtain⟨ms,e2,e⟩:=bnd e;obtain⟨k,e3,e⟩:=mp e;cases e;cases ra with
  |dat ra=>cases ra with
   |tup f1 t1=>cases rb with
    |dat rb=>cases rb with
     |tup f2 t2 =>
      have i1:=ZAw t1 e1;have i2:=ZAw t2 e2;subst i1 i2;exact h2 pins s σ H _ _ v u Q I rx ry ⟨_,_,ns,ms,k,rfl,rfl,f1.sq,f2.sq,e3,q.at hR (.dat (.bl _))⟩
 ·obtain⟨k,e3,e⟩:=mp e
  cases e;cases ra with
  |dat ra=>cases ra with
   |str i=>cases rb with
    |dat rb=>cases rb with
     |str j=>exact h3 pins s σ H _ _ v u Q I rx ry ⟨_,_,k,rfl,rfl,e3,q.at hR (.dat (.bl _))⟩
 ·cases e
theorem oLt(hu:X.A.units+64<cLine):OpR X (compareOp .Lt) (rOp X.K ZIb):=ZN2 (op_lt.imp λ_ _ _ _ ⟨i,j,k,h1,h2,h5,q⟩=>⟨i,j,h1,h2,by cases h5;exact q⟩) ((ZRC (by omega)).imp λ_ _ _ _ ⟨a,b,ns,ms,k,h1,h2,h3,h4,h5,q⟩=>⟨a,b,ns,ms,h1,h2,h3,h4,by cases h5;exact q⟩) (ZK0.imp λ_ _ _ _ ⟨a,b,k,h1,h2,h5,q⟩=>⟨a,b,h1,h2,by cases h5;exact q⟩)
theorem oGt(hu:X.A.units+64<cLine):OpR X (compareOp .Gt) (rOp X.K ZNO):=ZN2 (op_gt.imp λ_ _ _ _ ⟨i,j,k,h1,h2,h5,q⟩=>⟨i,j,h1,h2,by cases h5;exact q⟩) ((ZQr (by omega)).imp λ_ _ _ _ ⟨a,b,ns,ms,k,h1,h2,h3,h4,h5,q⟩=>⟨a,b,ns,ms,h1,h2,h3,h4,by cases h5;exact q⟩) λpins s σ H x y v u Q I rx ry ⟨_,_,_,_,_,h,_⟩=>nomatch h
theorem oGe(hu:X.A.units+64<cLine):OpR X (compareOp .GtE) (rOp X.K ZQK):=ZN2 (op_ge.imp λ_ _ _ _ ⟨i,j,k,h1,h2,h5,q⟩=>⟨i,j,h1,h2,by cases h5;exact q⟩) ((ZRD (by omega)).imp λ_ _ _ _ ⟨a,b,ns,ms,k,h1,h2,h3,h4,h5,q⟩=>⟨a,b,ns,ms,h1,h2,h3,h4,by cases h5;exact q⟩) λpins s σ H x y v u Q I rx ry ⟨_,_,_,_,_,h,_⟩=>nomatch h
theorem oLe:OpR X (compareOp .LtE) (rOp X.K ZON):=ZN2 (op_le.imp λ_ _ _ _ ⟨i,j,k,h1,h2,h5,q⟩=>⟨i,j,h1,h2,by cases h5;exact q⟩) (λpins s σ H x y v u Q I rx ry ⟨_,_,_,_,_,_,_,_,_,h,_⟩=>nomatch h) λpins s σ H x y v u Q I rx ry ⟨_,_,_,_,_,h,_⟩=>nomatch h
noncomputable def ixA:W->Int->G->Option (W×G)
 |.dat (.tuple ds),i,g=>(atI ds i).map λd=>(.dat d,g)
 |.inp ns,i,g=>(atI ns i).map λd=>(.dat (.int d),g)
 |.tup ws,i,g=>(atI ws i).map λw=>(w,g)
 |.ref n,i,g=>match g[n]? with
  |some (.pl ds)=>(atI ds i).map λd=>(.dat d,g)
  |some (.rl ws)=>(atI ws i).map λw=>(w,g)
  |_=>none
 |a,i,g=>(Zt a g).bind λds=>(atI ds i).map λd=>(.dat d,g)
noncomputable def Za(a b:W)(g:G):Option (W×G):=(ZCF b).bind λi=>ixA a i g
theorem ZGe{K:PySem.W.Frag}{ρ : Rh}{H:Hp}{vs:List V}{ds:List PyData}{i:Int}{d:PyData}(t:RelDL K ρ H vs ds)(e:atI ds i=some d):∃v,atI vs i=some v/\RelD K ρ H v d:=by
 unfold atI at *;rw[t.length];obtain⟨j,e1,e2⟩:=bnd e;rw[e1];exact t.getD e2
theorem ZG8{K:PySem.W.Frag}{ρ : Rh}{H:Hp}{vs:List V}{ds:List W}{i:Int}{d:W}(t:RelL K ρ H vs ds)(e:atI ds i=some d):∃v,atI vs i=some v/\Rel K ρ H v d:=by
 unfold atI at *;rw[t.length];obtain⟨j,e1,e2⟩:=bnd e;rw[e1];exact t.getD e2
theorem oIx:IxR X (rOp X.K Za):=by
 intro value slice pins s σ H x y v u Q I rx ry h hs;obtain⟨ρ,a,b,g,z,g',hR,ra,rb,e,q⟩:=h;obtain⟨i,e0,e⟩:=bnd e;have:=ZAr rb e0;subst this
 have lists:((Zt a g).bind λds=>(atI ds i).map λd=>(W.dat d,g))=some (z,g')->wpAny (model X.prog X.w) X.A (subscriptTail value slice v u) (EP X pins σ Q) X.xe s:=λe=>by
  obtain⟨xs,e1,e⟩:=bnd e;obtain⟨d,e2,e⟩:=mp e;cases e;obtain⟨l,vs,rfl,h1,t1⟩:=Zc hR ra e1;obtain⟨w,e3,r3⟩:=ZGe t1 e2;exact ZEE value slice pins s σ H _ _ v u Q I rx ry ⟨l,vs,i,w,rfl,rfl,SqL.of h1,e3,q.at hR (.dat r3)⟩ hs
 cases ra with
 |@ref a n h =>
  change (match g[n]? with|some (.pl ds)=>(atI ds i).map λd=>(W.dat d,g)|some (.rl ws)=>(atI ws i).map λw=>(w,g)|_=>none)=some (z,g') at e
  split at e
  ·rename_i ds e1
   obtain⟨d,e2,e⟩:=mp e;cases e;obtain⟨a',vs,k1,k2,k3⟩:=hR.at_ _ _ e1;rw[h] at k1;cases k1;obtain⟨w,e3,r3⟩:=ZGe k3 e2;exact ZEE value slice pins s σ H _ _ v u Q I rx ry ⟨a,vs,i,w,rfl,rfl,SqL.of k2,e3,q.at hR (.dat r3)⟩ hs
  ·rename_i ws e1
   obtain⟨d,e2,e⟩:=mp e;cases e;obtain⟨a',k1,vs,k2,k3⟩:=hR.ce _ _ e1;rw[h] at k1;cases k1;obtain⟨w,e3,r3⟩:=ZG8 k3 e2;exact ZEE value slice pins s σ H _ _ v u Q I rx ry ⟨a,vs,i,w,rfl,rfl,SqL.of k2,e3,q.at hR r3⟩ hs
  ·cases e
 |ty=>exact lists e
 |exc _=>exact lists e
 |tup f t =>
  obtain⟨d,e2,e⟩:=mp e;cases e;obtain⟨w,e3,r3⟩:=ZG8 t e2;exact ZNY value slice pins s σ H _ _ v u Q I rx ry ⟨_,_,i,w,rfl,rfl,f.sq,e3,q.at hR r3⟩ hs
 |@inp a ns h =>
  obtain⟨d,e2,e⟩:=mp e;cases e;refine ZEE value slice pins s σ H _ _ v u Q I rx ry ⟨a,_,i,.int d,rfl,rfl,h.sq,?_,q.at hR (.dat (.int _))⟩ hs;unfold atI at *;rw[length_map];obtain⟨j,e1,e2⟩:=bnd e2;rw[e1];show(ns.map V.int)[j]? = _;rw[getElem?_map,e2];rfl
 |dat ra =>
  cases ra with
  |tup f t =>
   obtain⟨d,e2,e⟩:=mp e;cases e;obtain⟨w,e3,r3⟩:=ZGe t e2;exact ZNY value slice pins s σ H _ _ v u Q I rx ry ⟨_,_,i,w,rfl,rfl,f.sq,e3,q.at hR (.dat r3)⟩ hs
  |lst h n t=>exact lists e
  |_=>exact lists e
noncomputable abbrev DO:=Sd->G->Option (Option Int×G)
noncomputable def tO(K:PySem.W.Frag)(d:DO):TO:=λσ H Q=>∃ρ sd g i g',Rst K ρ H σ sd g/\d sd g=some (i,g')/\∀H' ρ',Stp ρ H ρ' H'->HR K ρ' H' g'->Q i H'
theorem PO.imp{e:Option Expr}{t u:TO}(h:PO X e t)(k:∀σ H Q,u σ H Q->t σ H Q):PO X e u:=λpins s σ H Q I q=>h pins s σ H Q I (k σ H Q q)
noncomputable def ZDG:DO:=λ_ g=>some (none,g)
noncomputable def ZFc(d:DE):DO:=λsd g=>(d sd g).bind λp=>match p.1 with|.dat (.int i)=>some (some i,p.2)|_=>none
theorem ZOq:PO X none (tO X.K ZDG):=ZO5.imp λσ H Q ⟨ρ,sd,g,i,g',r,e,q⟩=>by
 cases e;exact q H ρ .refl r.hr
theorem ZPJ{e:Expr}{d:DE}(h:PE X e (tE X.K d)):PO X (some e) (tO X.K (ZFc d)):=(ZO4 h).imp λσ H Q ⟨ρ,sd,g,i,g',r,e,q⟩=>by
 obtain⟨⟨x,g1⟩,e1,e⟩:=bnd e;refine⟨ρ,sd,g,x,g1,r,e1,λv H1 ρ1 s1 h1 r1=>?_⟩;cases r1 with
 |dat r1 =>
  cases r1 with
  |int j=>cases e;exact⟨j,rfl,q H1 ρ1 s1 h1⟩
  |_=>cases e
 |_=>cases e
noncomputable def ZDZ{α : Type}(xs:List α)(lo hi:Option Int):List α:=(xs.drop (HT.sIx xs.length 0 lo)).take (HT.sIx xs.length xs.length hi-HT.sIx xs.length 0 lo)
noncomputable def slO(w:W)(lo hi:Option Int)(g:G):Option (W×G):=match w with
 |.dat (.tuple ds)=>some (.dat (.tuple (ZDZ ds lo hi)),g)
 |.inp ns=>some (.dat (.list (ZDZ (ns.map .int) lo hi)),g)
 |w=>(Zt w g).map λds=>(.dat (.list (ZDZ ds lo hi)),g)
noncomputable def dSl(d:DE)(l h:DO):DE:=λsd g=>(d sd g).bind λp=>(l sd p.2).bind λa=>(h sd a.2).bind λb=>slO p.1 a.1 b.1 b.2
theorem ZGp{K:PySem.W.Frag}{ρ : Rh}{H:Hp}{vs:List V}{ds:List PyData}(t:RelDL K ρ H vs ds)(lo hi:Option Int):RelDL K ρ H (ZGN vs lo hi) (ZDZ ds lo hi):=by
 unfold ZGN ZDZ;rw[t.length];exact(t.drop _).take _
theorem ZRJ:SlR X (λx lo hi H Q=>∃ρ w g z g',HR X.K ρ H g/\Rel X.K ρ H x w/\slO w lo hi g=some (z,g')/\Pv X.K ρ H z g' Q):=by
 intro pins s σ H x v vl vu lo hi sl Q I rx hs pl pu h;obtain⟨ρ,w,g,z,g',hR,rw_,e,q⟩:=h;have lists:((Zt w g).map λds=>(W.dat (.list (ZDZ ds lo hi)),g))=some (z,g')->∃T id,typeLookup (.type T) "__getitem__" = pure (some (.builtin id))/\s.TypeIs v T/\wpAny (model X.prog X.w) X.A (getItem v (.ref sl)) (EP X pins σ Q) X.xe s:=λe=>by
  obtain⟨ds,e1,e⟩:=mp e;cases e;obtain⟨l,vs,rfl,h1,t1⟩:=Zc hR rw_ e1;exact ZJt pins s σ H _ v vl vu lo hi sl Q I rx hs pl pu ⟨l,vs,rfl,SqL.of h1,λp hp=>q.new hR (ZGp t1 lo hi) hp⟩
 cases rw_ with
 |ref h=>exact lists e
 |ty=>exact lists e
 |exc _=>exact lists e
 |tup _ _=>exact lists e
 |inp h =>
  cases e;exact ZJt pins s σ H _ v vl vu lo hi sl Q I rx hs pl pu ⟨_,_,rfl,h.sq,λp hp=>q.new hR (ZGp RelDL.ofInts lo hi) hp⟩
 |dat r =>
  cases r with
  |@tup a xs ds f t =>
   cases e;refine ZPL pins s σ H _ v vl vu lo hi sl Q I rx hs pl pu ⟨_,_,rfl,f.sq,λhw=>?_,λ_ p hp=>q.newT hR (ZGp t lo hi) hp⟩;refine q.at hR (.dat ?_);have e:ZDZ ds lo hi=ds:=by
    unfold ZDZ;rw[←t.length,hw.1,hw.2,t.length];simp
   rw[e];exact .tup f t
  |lst h n t=>exact lists e
  |_=>exact lists e
theorem de_sl{e:Expr}{lo hi:Option Expr}{d:DE}{l h:DO}{pos p2:Pos}(he:PE X e (tE X.K d))(hl:PO X lo (tO X.K l))(hh:PO X hi (tO X.K h)):PE X (.Subscript e (.Slice lo hi none p2) pos) (tE X.K (dSl d l h)):=(ZMv ZRJ he hl hh).imp λσ H Q ⟨ρ,sd,g,x,g',r,e,q⟩=>by
 obtain⟨⟨y,g1⟩,e1,e⟩:=bnd e;obtain⟨⟨i,g2⟩,e2,e⟩:=bnd e;obtain⟨⟨j,g3⟩,e3,e⟩:=bnd e;refine⟨ρ,sd,g,y,g1,r,e1,λv H1 ρ1 s1 h1 r1=>⟨ρ1,sd,g1,i,g2,r.step s1 h1,e2,λH2 ρ2 s2 h2=>⟨ρ2,sd,g2,j,g3,r.step (s1.trans s2) h2,e3,λH3 ρ3 s3 h3=>?_⟩⟩⟩;exact⟨ρ3,y,g3,x,g',h3,r1.mono (s2.trans s3),e,q.step (s1.trans (s2.trans s3))⟩
end
noncomputable def f1(f:W->G->Option (W×G)):List W->G->Option (W×G)
 |[w],g=>f w g
 |_,_=>none
noncomputable def ZFQ:W->G->Option (W×G)
 |.dat (.tuple ds),g=>some (.dat (.int (ds.length:Int)),g)
 |.inp ns,g=>some (.dat (.int (ns.length:Int)),g)
 |.ref n,g=>match g[n]? with
  |some (.pl ds)=>some (.dat (.int (ds.length:Int)),g)
  |some (.rl ws)=>some (.dat (.int (ws.length:Int)),g)
  |_=>none
 |w,g=>(Zt w g).map λds=>(.dat (.int (ds.length:Int)),g)
noncomputable def ZPF:W->G->Option (W×G)
 |.dat (.int i),g=>some (.dat (.int i),g)
 |.dat (.bool b),g=>some (.dat (.int (if b=true then 1 else 0)),g)
 |_,_=>none
noncomputable def ZQo:W->G->Option (W×G)
 |.dat (.int i),g=>some (.dat (.int (if i<0 then -i else i)),g)
 |_,_=>none
noncomputable def ZCr:W->G->Option (W×G)
 |.dat (.tuple ds),g=>some (.dat (.tuple ds),g)
 |w,g=>(Zt w g).map λds=>(.dat (.tuple ds),g)
noncomputable def ZIA:W->G->Option (W×G)
 |w,g=>(ZMB w g).map λds=>(.dat (.list ds),g)
noncomputable def ZAb:List PyData->Option (List Bool)
 |[]=>some []
 |.bool i::r=>(ZAb r).map λns=>i::ns
 |_::_=>none
noncomputable def ZEe(w:W)(g:G):Option (W×G):=(Zt w g).bind λds=>(ZAb ds).map λbs=>(.dat (.bool (bs.all id)),g)
noncomputable def ZOv(w:W)(g:G):Option (W×G):=(Zt w g).bind λds=>(ZAb ds).map λbs=>(.dat (.bool (bs.any id)),g)
noncomputable def ZQ9(f:Int->Int->Option Int):List W->G->Option (W×G)
 |[a,b],g=>(ZCF a).bind λi=>(ZCF b).bind λj=>(f i j).map λk=>(.dat (.int k),g)
 |_,_=>none
noncomputable def ZSU:=ZQ9 λi j=>some (if j<i then j else i)
noncomputable def ZM3:PyData->String
 |.none=>"NoneType"
 |.bool _=>"bool"
 |.int _=>"int"
 |.str _=>"str"
 |.list _=>"list"
 |.tuple _=>"tuple"
 |.dict _=>"dict"
noncomputable def ZKC:List W->G->Option (W×G)
 |[.dat d,.ty T],g=>if T = "int"∨T = "bool"∨T = "tuple"∨T = "str" then some (.dat (.bool (isi (ZM3 d) T)),g) else none
 |_,_=>none
section
variable{X:Cx}
theorem c1{f:Value}{fn:W->G->Option (W×G)}{r:List V->Hp->VK->Prop}(h:ZN X f r)(k:∀ρ H g x w z g' Q,HR X.K ρ H g->Rel X.K ρ H x w->fn w g=some (z,g')->Pv X.K ρ H z g' Q->r [x] H Q):ZN X f (rF X.K (f1 fn)):=h.imp λxs H Q ⟨ρ,ws,g,z,g',hR,rl,e,q⟩=>by
 cases rl with
 |nil=>cases e
 |cons r1 t =>
  cases t with
  |nil=>exact k ρ H g _ _ z g' Q hR r1 e q
  |cons _ _=>cases e
theorem ZRG:ZN X (.builtin "len") (rF X.K (f1 ZFQ)):=c1 ZG2 λρ H g x w z g' Q hR r e q=>by
 have lists:((Zt w g).map λds=>(W.dat (.int (ds.length:Int)),g))=some (z,g')->∃p ys,[x]=[V.ref p]/\(SqL X.K H p ys∨SqT X.K H p ys)/\Q (.int ys.length) H:=λe=>by
  obtain⟨ds,e1,e⟩:=mp e;cases e;obtain⟨l,vs,rfl,h1,t1⟩:=Zc hR r e1;exact⟨l,vs,rfl,.inl (SqL.of h1),q.at hR (by rw[t1.length];exact .dat (.int _))⟩
 cases r with
 |@ref a n h =>
  change (match g[n]? with|some (.pl ds)=>some (W.dat (.int (ds.length:Int)),g)|some (.rl ws)=>some (W.dat (.int (ws.length:Int)),g)|_=>none)=some (z,g') at e
  split at e
  ·rename_i ds e1
   cases e;obtain⟨a',vs,k1,k2,k3⟩:=hR.at_ _ _ e1;rw[h] at k1;cases k1;exact⟨a,vs,rfl,.inl (SqL.of k2),q.at hR (by rw[k3.length];exact .dat (.int _))⟩
  ·rename_i ds e1
   cases e;obtain⟨a',k1,vs,k2,k3⟩:=hR.ce _ _ e1;rw[h] at k1;cases k1;exact⟨a,vs,rfl,.inl (SqL.of k2),q.at hR (by rw[k3.length];exact .dat (.int _))⟩
  ·cases e
 |ty=>exact lists e
 |exc _=>exact lists e
 |tup _ _=>exact lists e
 |inp h=>cases e;exact⟨_,_,rfl,.inl h.sq,q.at hR (by rw[length_map];exact .dat (.int _))⟩
 |dat r =>
  cases r with
  |tup f t=>cases e;exact⟨_,_,rfl,.inr f.sq,q.at hR (by rw[t.length];exact .dat (.int _))⟩
  |lst h n t=>exact lists e
  |_=>exact lists e
theorem ZSR:ZN X (.type "int") (rF X.K (f1 ZPF)):=c1 ZKH λρ H g x w z g' Q hR r e q=>by
 cases r with
 |dat r =>
  cases r with
  |int i=>cases e;exact .inl ⟨i,rfl,q.at hR (.dat (.int _))⟩
  |bl b=>cases e;exact .inr ⟨b,rfl,q.at hR (.dat (.int _))⟩
  |_=>cases e
 |_=>cases e
theorem cAbs:ZN X (.builtin "abs") (rF X.K (f1 ZQo)):=c1 ZMt λρ H g x w z g' Q hR r e q=>by
 cases r with
 |dat r =>
  cases r with
  |int i=>cases e;exact⟨i,rfl,q.at hR (.dat (.int _))⟩
  |_=>cases e
 |_=>cases e
theorem ZPI:ZN X (.type "tuple") (rF X.K (f1 ZCr)):=c1 ZFU λρ H g x w z g' Q hR r e q=>by
 have lists:((Zt w g).map λds=>(W.dat (.tuple ds),g))=some (z,g')->∃p ys,[x]=[V.ref p]/\((SqL X.K H p ys/\∀l,H l=none->Q (.ref l) (upd H l (.tup ys)))∨(SqT X.K H p ys/\Q (.ref p) H)):=λe=>by
  obtain⟨ds,e1,e⟩:=mp e;cases e;obtain⟨l,vs,rfl,h1,t1⟩:=Zc hR r e1;exact⟨l,vs,rfl,.inl ⟨SqL.of h1,λp hp=>q.newT hR t1 hp⟩⟩
 cases r with
 |ref h=>exact lists e
 |ty=>exact lists e
 |exc _=>exact lists e
 |tup _ _=>exact lists e
 |inp h=>exact lists e
 |dat r =>
  cases r with
  |tup f t=>cases e;exact⟨_,_,rfl,.inr ⟨f.sq,q.at hR (.dat (.tup f t))⟩⟩
  |lst h n t=>exact lists e
  |_=>exact lists e
theorem ZMr{K:PySem.W.Frag}{ρ : Rh}{H:Hp}{g:G}{v:V}{w:W}{ds:List PyData}(hR:HR K ρ H g)(r:Rel K ρ H v w)(e:ZMB w g=some ds):∃a vs,v=.ref a/\(SqL K H a vs∨SqT K H a vs)/\RelDL K ρ H vs ds:=by
 have lists:Zt w g=some ds->∃a vs,v=.ref a/\(SqL K H a vs∨SqT K H a vs)/\RelDL K ρ H vs ds:=λe=>by
  obtain⟨l,vs,rfl,h1,t1⟩:=Zc hR r e;exact⟨l,vs,rfl,.inl (SqL.of h1),t1⟩
 cases r with
 |ref h=>exact lists e
 |ty=>exact lists e
 |exc _=>exact lists e
 |tup _ _=>exact lists e
 |inp h=>exact lists e
 |dat r =>
  cases r with
  |tup f t=>cases e;exact⟨_,_,rfl,.inr f.sq,t⟩
  |lst h n t=>exact lists e
  |_=>exact lists e
theorem cLis:ZN X (.type "list") (rF X.K (f1 ZIA)):=c1 ZGI λρ H g x w z g' Q hR r e q=>by
 obtain⟨ds,e1,e⟩:=mp e;cases e;obtain⟨l,vs,rfl,h1,t1⟩:=ZMr hR r e1;exact⟨l,vs,rfl,h1,λp hp=>q.new hR t1 hp⟩
theorem ZDt{K:PySem.W.Frag}{ρ : Rh}{H:Hp}{ds:List PyData}:∀{vs:List V} {ns:List Bool},RelDL K ρ H vs ds->ZAb ds=some ns->vs=ns.map V.bl:=by
 induction ds with
 |nil=>intro vs ns t e;cases t;cases e;rfl
 |cons d r ih =>
  intro vs ns t e;cases t with
  |cons h t =>
   cases h with
   |bl i =>
    obtain⟨ms,e1,rfl⟩:=mp e;rw[ih t e1];rfl
   |_=>cases e
theorem ZSN(hc:X.calm=true):ZN X (.builtin "all") (rF X.K (f1 ZEe)):=c1 (ZMl hc) λρ H g x w z g' Q hR r e q=>by
 obtain⟨ds,e1,e⟩:=bnd e;obtain⟨bs,e2,e⟩:=mp e;cases e;obtain⟨l,vs,rfl,h1,t1⟩:=Zc hR r e1;have:=ZDt t1 e2;subst this
 exact⟨l,bs,rfl,SqL.of h1,q.at hR (.dat (.bl _))⟩
theorem cInt2{f:Int->Int->Option Int}{c:Value}(h:ZN X c (λxs H Q=>∃i j k,xs=[.int i,.int j]/\f i j=some k/\Q (.int k) H)):ZN X c (rF X.K (ZQ9 f)):=h.imp λxs H Q ⟨ρ,ws,g,z,g',hR,rl,e,q⟩=>by
 unfold ZQ9 at e
 split at e
 ·obtain⟨i,e1,e⟩:=bnd e
  obtain⟨j,e2,e⟩:=bnd e;obtain⟨k,e3,e⟩:=mp e;cases e;cases rl with
  |cons r1 t=>cases t with
   |cons r2 t=>cases t with
    |nil =>
     rw[ZAr r1 e1,ZAr r2 e2];exact⟨i,j,k,rfl,e3,q.at hR (.dat (.int _))⟩
 ·cases e
theorem cMin(hc:X.calm=true):ZN X (.builtin "min") (rF X.K ZSU):=cInt2 ((ZKS hc).imp λ_ _ _ ⟨i,j,k,h1,h5,q⟩=>⟨i,j,h1,by cases h5;exact q⟩)
theorem kd_of{K:PySem.W.Frag}{ρ : Rh}{H:Hp}{v:V}{d:PyData}(r:RelD K ρ H v d):Kd K H v (ZM3 d):=by
 cases r with
 |non=>exact .non
 |bl b=>exact .bl b
 |int i=>exact .int i
 |str x=>exact .str x
 |tup f t=>exact .tup f.sq
 |lst h n t=>exact .lst h
 |dct h n=>exact .dct h
theorem ZSL:ZN X (.builtin "isinstance") (rF X.K ZKC):=ZKD.imp λxs H Q ⟨ρ,ws,g,z,g',hR,rl,e,q⟩=>by
 cases rl with
 |nil=>cases e
 |cons r1 t =>
  cases r1 with
  |dat r1 =>
   cases t with
   |nil=>cases e
   |cons r2 t =>
    cases r2 with
    |@ty T =>
     cases t with
     |nil =>
      change (if T = "int"∨T = "bool"∨T = "tuple"∨T = "str" then some (W.dat (.bool (isi (ZM3 _) T)),g) else none)=some (z,g') at e
      split at e
      ·rename_i hz
       cases e;exact⟨_,T,_,rfl,kd_of r1,hz,q.at hR (.dat (.bl _))⟩
      ·cases e
     |cons _ _=>cases e
    |_=>cases e
  |_=>cases e
theorem de_ty{x:Str}{n:String}{pos:Pos}(hg:Gl X x)(hm:X.mg x=none)(hv:bootBuiltins x=some (.type n))(hn:x≠"__name__":=by decide)(hd:(x == ("__debug__" : Str))=false:=by decide):PE X (.Name x pos) (tE X.K λ_ g=>some (.ty n,g)):=(ZN0 (v:=.ty n) hg hm hv rfl hn hd).imp λσ H Q ⟨ρ,sd,g,y,g',hr,e,q⟩=>by
 cases e;exact q _ H ρ .refl hr.hr .ty
theorem ZRr{a:Expr}{da:DE}{pos:Pos}(ha:PE X a (tE X.K da)):PE X (.UnaryOp .USub a pos) (tE X.K (dUn (λw g=>match w with|.dat (.int i)=>some (.dat (.int (-i)),g)|_=>none) da)):=(pe_un ZRB ha).imp λσ H Q ⟨ρ,sd,g,y,g',r,e,q⟩=>by
 obtain⟨⟨x,g1⟩,e1,e⟩:=bnd e;refine⟨ρ,sd,g,x,g1,r,e1,λv H1 ρ1 s1 h1 r1=>?_⟩;cases r1 with
 |dat r1 =>
  cases r1 with
  |int j=>cases e;exact⟨j,rfl,q _ H1 ρ1 s1 h1 (.dat (.int _))⟩
  |_=>cases e
 |_=>cases e
end
noncomputable def ZAf(ns:List Int):List Int:=ns.mergeSort λa b=>decide (a<=b)
theorem ZET{ns ms:List Int}(pm:ms.Perm ns)(pw:ms.Pairwise (· <= ·)):ms=ZAf ns:=by
 refine List.Perm.eq_of_pairwise (le:=λa b:Int=>a<=b) (λa b _ _ h1 h2=>Int.le_antisymm h1 h2) pw ?_ (pm.trans (mergeSort_perm _ _).symm);refine List.Pairwise.imp (λ{a b} h=>of_decide_eq_true h) (List.pairwise_mergeSort (le:=λa b:Int=>decide (a<=b)) (λa b c h1 h2=>?_) (λa b=>?_) ns)
 ·exact decide_eq_true (Int.le_trans (of_decide_eq_true h1) (of_decide_eq_true h2))
 ·rw[Bool.or_eq_true,decide_eq_true_iff,decide_eq_true_iff]
  exact le_total a b
section
variable{X:Cx}
noncomputable def isL(g:G)(n:Nat):Bool:=match g[n]? with|some (.pl _)=>true|some (.rl _)=>true|_=>false
theorem ZNL{g:G}{n:Nat}{ds:List PyData}(h:g[n]? = some (.pl ds)):isL g n=true:=by
 unfold isL;rw[h]
theorem ZId{K:PySem.W.Frag}{ρ : Rh}{H:Hp}{g:G}{n:Nat}{a:Addr}(h:isL g n=true)(hR:HR K ρ H g)(ha : ρ.c[n]? = some a):∃vs,H a=some (.lst vs):=by
 unfold isL at h
 split at h
 ·rename_i ds e
  obtain⟨b,h1,vs,h2,_⟩:=hR.ce _ _ e;rw[ha] at h1;cases h1;exact⟨vs,h2⟩
 ·rename_i ds e
  obtain⟨b,h1,vs,h2,_⟩:=hR.ce _ _ e;rw[ha] at h1;cases h1;exact⟨vs,h2⟩
 ·cases h
noncomputable def ZIK(dl d:DE):DE:=λsd g=>(dl sd g).bind λl=>match l.1 with
 |.ref n=>if isL l.2 n=true then (d sd l.2).bind λp=>match p.1 with
  |.dat x=>match p.2[n]? with
   |some (.pl ds)=>if ds.length<1000 then some (.dat .none,p.2.set n (.pl (ds++[x]))) else none
   |some (.rl ws)=>if ws.length<1000 then some (.dat .none,p.2.set n (.rl (ws++[.dat x]))) else none
   |_=>none
  |x=>match p.2[n]? with
   |some (.rl ws)=>if ws.length<1000 then some (.dat .none,p.2.set n (.rl (ws++[x]))) else none
   |_=>none
  else none
 |_=>none
theorem ZRL{o e:Expr}{dl d:DE}{apos cpos:Pos}(ho:PE X o (tE X.K dl))(he:PE X e (tE X.K d))(hbase:attributeBase o "append" X.env (eval o X.env)=eval o X.env:=by rfl)
  (hfew:((backTo cpos (starEach [e] X.env)).all (λ x=>!x.1) && (backToKw cpos (keywordEach [] X.env)).all (λ x=>x.1.isSome)
   && decide ([e].length+([]:List Keyword).length+(if ([]:List Keyword).isEmpty then 0 else 1)<30))=true:=by rfl)
  (hline:(apos.endLine == cpos.line)=true:=by rfl)(hs:starEach [e] X.env=(false,eval e X.env)::starEach [] X.env:=by rfl)(hplain:(backTo cpos (starEach [] X.env)).any (·.1)=false:=by rfl) :
  PE X (.Call (.Attribute o "append" apos) [e] [] cpos) (tE X.K (ZIK dl d)):=(ZHX PySem.F.plainAttrs_list PySem.F.slot_list_append PySem.F.type_list_append ZDR ho (ZCS he ZEk hs) hbase hfew hline hs hplain).imp λσ H Q ⟨ρ,sd,g,x,g',r,e,q⟩=>by
 obtain⟨⟨y,g1⟩,e1,e⟩:=bnd e;refine⟨ρ,sd,g,y,g1,r,e1,λv H1 ρ1 s1 h1 r1=>?_⟩;cases r1 with
 |@ref la ln hn =>
  dsimp only at e
  split at e
  case isFalse=>cases e
  rename_i hil
  obtain⟨⟨p,g2⟩,e2,e⟩:=bnd e;have rich:∀{H2:Hp} {ρ2:Rh} {v2:V} {ws:List W},Stp ρ1 H1 ρ2 H2->HR X.K ρ2 H2 g2->Rel X.K ρ2 H2 v2 p->g2[ln]? = some (.rl ws)->(if ws.length<1000 then some (W.dat .none,g2.set ln (.rl (ws++[p]))) else none)=some (x,g')->∃us,H2 la=some (.lst us)/\us.length<sizeLine/\Q .non (upd H2 la (.lst (us++[v2]))):=λ{H2 ρ2 v2 ws} s2 h2 r2 e3 e=>by
   split at e
   ·rename_i hz
    cases e;obtain⟨a',k1,us,k2,k3⟩:=h2.ce _ _ e3;have hn2:=ZDM s2 hn;rw[hn2] at k1;cases k1;obtain⟨hw,sw⟩:=h2.writeC hn2 (o:=.lst (us++[v2])) (c:=.rl (ws++[p])) (λu e=>by rw[k2] at e;cases e;rfl) (λs=>⟨_,ZC,(k3.append (.cons r2 .nil)).mono s⟩);exact⟨us,k2,by rw[k3.length];exact ZS (by omega),q _ _ ρ2 (s1.trans (s2.trans sw)) hw (.dat .non)⟩
   ·cases e
  have plain:∀{H2:Hp} {ρ2:Rh} {v2:V} {d:PyData} {ds:List PyData},Stp ρ1 H1 ρ2 H2->HR X.K ρ2 H2 g2->RelD X.K ρ2 H2 v2 d->g2[ln]? = some (.pl ds)->(if ds.length<1000 then some (W.dat .none,g2.set ln (.pl (ds++[d]))) else none)=some (x,g')->∃us,H2 la=some (.lst us)/\us.length<sizeLine/\Q .non (upd H2 la (.lst (us++[v2]))):=λ{H2 ρ2 v2 d ds} s2 h2 r2 e3 e=>by
   split at e
   ·rename_i hz
    cases e;obtain⟨a',us,k1,k2,k3⟩:=h2.at_ _ _ e3;have hn2:=ZDM s2 hn;rw[hn2] at k1;cases k1;obtain⟨hw,sw⟩:=h2.write hn2 k2 (k3.append (.cons r2 .nil));exact⟨us,k2,by rw[k3.length];exact ZS (by omega),q _ _ ρ2 (s1.trans (s2.trans sw)) hw (.dat .non)⟩
   ·cases e
  have both:∀{H2:Hp} {ρ2:Rh} {v2:V},Stp ρ1 H1 ρ2 H2->HR X.K ρ2 H2 g2->Rel X.K ρ2 H2 v2 p->∃us,H2 la=some (.lst us)/\us.length<sizeLine/\Q .non (upd H2 la (.lst (us++[v2]))):=λ{H2 ρ2 v2} s2 h2 r2=>by
   have rest:∀{w},p=w->(match g2[ln]? with|some (.rl ws)=>if ws.length<1000 then some (W.dat .none,g2.set ln (.rl (ws++[w]))) else none|_=>none)=some (x,g')->∃us,H2 la=some (.lst us)/\us.length<sizeLine/\Q .non (upd H2 la (.lst (us++[v2]))):=λ{w} ew e=>by
    split at e
    ·rename_i ws e3
     exact rich s2 h2 r2 e3 (by rw[ew];exact e)
    ·cases e
   cases p with
   |dat d =>
    dsimp only at e;cases r2 with
    |dat r2 =>
     split at e
     ·rename_i ds e3
      exact plain s2 h2 r2 e3 e
     ·rename_i ws e3
      exact rich s2 h2 (.dat r2) e3 e
     ·cases e
   |ref n=>exact rest rfl e
   |inp n=>exact rest rfl e
   |ty n=>exact rest rfl e
   |exc n m=>exact rest rfl e
   |tup n=>exact rest rfl e
  obtain⟨us0,h0⟩:=ZId hil h1 hn;refine⟨.inl ⟨rfl,_,SqL.of h0⟩,ρ1,sd,g1,[p],g2,r.step s1 h1,by show(d sd g1).bind _=_;rw[e2];rfl,λvs H2 ρ2 s2 h2 r2=>?_⟩;cases r2 with
  |cons r2 t =>
   cases t;obtain⟨us,k1,k2,k3⟩:=both s2 h2 r2;exact⟨_,us,_,rfl,rfl,k1,k2,k3⟩
 |dat r1=>cases r1 <;> cases e
 |_=>cases e
noncomputable def ZGV(dl di d:DE):DS:=λsd g=>(d sd g).bind λv=>(dl sd v.2).bind λl=>(di sd l.2).bind λi=>match l.1,i.1,v.1 with
 |.ref n,.dat (.int k),.dat x=>match i.2[n]? with
  |some (.pl ds)=>(ixN ds.length k).map λj=>.nx sd (i.2.set n (.pl (ds.set j x)))
  |some (.rl ws)=>(ixN ws.length k).map λj=>.nx sd (i.2.set n (.rl (ws.set j (.dat x))))
  |_=>none
 |.ref n,.dat (.int k),x=>match i.2[n]? with
  |some (.rl ws)=>(ixN ws.length k).map λj=>.nx sd (i.2.set n (.rl (ws.set j x)))
  |_=>none
 |_,_,_=>none
theorem ZRP{o i e:Expr}{dl di d:DE}{pos tpos:Pos}(he:PE X e (tE X.K d))(ho:PE X o (tE X.K dl))(hi:PE X i (tE X.K di))(ha:∀v,assign (.Subscript o i tpos) X.env v=(do
   let ov ←holding [v] (eval o X.env)
   let iv ←holding [v,ov] (eval i X.env)
   standAt tpos
   holding [v,ov,iv] (setItem ov iv v)
   release [v,ov,iv] []):=by intro _;rfl) (hs:swapsWithSole [.Subscript o i tpos] e pos.line X.env=pure false:=by rfl) (hw:swappedStores [.Subscript o i tpos] e X.env=pure none:=by rfl)
  (h1:(assignEach [.Subscript o i tpos] X.env).map (·.2)=[assign (.Subscript o i tpos) X.env]:=by rfl):PS X (.Assign [.Subscript o i tpos] e pos) (tS X.K (ZGV dl di d)):=(ZGP he (ZGx ho hi ZEZ ha) hs hw h1).imp λD σ H ⟨ρ,sd,g,oo,r,e,q⟩=>by
 obtain⟨⟨y,g1⟩,e1,e⟩:=bnd e;obtain⟨⟨l,g2⟩,e2,e⟩:=bnd e;obtain⟨⟨k,g3⟩,e3,e⟩:=bnd e;refine⟨ρ,sd,g,y,g1,r,e1,λv H1 ρ1 s1 h1 r1=>⟨ρ1,sd,g1,l,g2,r.step s1 h1,e2,λu H2 ρ2 s2 h2 r2=>⟨ρ2,sd,g2,k,g3,r.step (s1.trans s2) h2,e3,λt H3 ρ3 s3 h3 r3=>?_⟩⟩⟩;have r1':=(r1.mono s2).mono s3;have r2':=r2.mono s3;have sall:=s1.trans (s2.trans s3);cases r2' with
 |@ref la ln hn =>
  cases r3 with
  |dat r3 =>
   cases r3 with
   |int kk =>
    have rich:∀{ws:List W},g3[ln]? = some (.rl ws)->((ixN ws.length kk).map λj=>Out.nx sd (g3.set ln (.rl (ws.set j y))))=some oo->∃p xs k n,V.ref la=V.ref p/\V.int kk=V.int k/\H3 p=some (.lst xs)/\ixN xs.length k=some n/\D.nx σ (upd H3 p (.lst (xs.set n v))):=λ{ws} e4 e=>by
     obtain⟨j,e5,e⟩:=mp e;cases e;obtain⟨a',k1,us,k2,k3⟩:=h3.ce _ _ e4;rw[hn] at k1;cases k1;obtain⟨hw,sw⟩:=h3.writeC hn (o:=.lst (us.set j v)) (c:=.rl (ws.set j y)) (λu e=>by rw[k2] at e;cases e;rfl) (λs=>⟨_,ZC,(k3.set r1' j).mono s⟩);exact⟨_,us,kk,j,rfl,rfl,k2,by rw[k3.length];exact e5,q σ _ ρ3 (sall.trans sw) (r.step (sall.trans sw) hw)⟩
    have rest:∀{w},y=w->(match g3[ln]? with|some (.rl ws)=>((ixN ws.length kk).map λj=>Out.nx sd (g3.set ln (.rl (ws.set j w))))|_=>none)=some oo->∃p xs k n,V.ref la=V.ref p/\V.int kk=V.int k/\H3 p=some (.lst xs)/\ixN xs.length k=some n/\D.nx σ (upd H3 p (.lst (xs.set n v))):=λ{w} ew e=>by
     split at e
     ·rename_i ws e4
      exact rich e4 (by rw[ew];exact e)
     ·cases e
    cases y with
    |dat d =>
     dsimp only at e
     split at e
     ·rename_i ds e4
      obtain⟨j,e5,e⟩:=mp e;cases e;obtain⟨a',us,k1,k2,k3⟩:=h3.at_ _ _ e4;rw[hn] at k1;cases k1;cases r1' with
      |dat r1' =>
       obtain⟨hw,sw⟩:=h3.write hn k2 (k3.set r1' j);exact⟨_,us,kk,j,rfl,rfl,k2,by rw[k3.length];exact e5,q σ _ ρ3 (sall.trans sw) (r.step (sall.trans sw) hw)⟩
     ·rename_i ws e4
      exact rich e4 e
     ·cases e
    |ref n=>exact rest rfl e
    |inp n=>exact rest rfl e
    |ty n=>exact rest rfl e
    |exc n m=>exact rest rfl e
    |tup n=>exact rest rfl e
   |_=>cases e
  |_=>cases e
 |dat r2=>cases e
 |_=>cases e
noncomputable def ZLS(i j:Nat)(a:DA):DS:=λsd g=>(a sd g).bind λp=>match p.1 with|[x,y]=>some (.nx ((sd.set i (some x)).set j (some y)) p.2)|_=>none
theorem ZRe{i j:Nat}{aa:DA}{D:Ends}{σ : St}{H:Hp}(h:tS X.K (ZLS i j aa) D σ H):ZST i j (tA X.K aa) D σ H:=by
 obtain⟨ρ,sd,g,oo,r,e,q⟩:=h;obtain⟨⟨ws,g1⟩,e1,e⟩:=bnd e;refine⟨ρ,sd,g,ws,g1,r,e1,λvs H1 ρ1 s1 h1 r1=>?_⟩;cases r1 with
 |nil=>cases e
 |cons a t =>
  cases t with
  |nil=>cases e
  |cons b t =>
   cases t with
   |nil=>cases e;exact⟨_,_,rfl,q _ H1 ρ1 s1 (((r.step s1 h1).set a i).set b j)⟩
   |cons _ _=>cases e
end
structure JE (X:Cx) (e:Expr) (d:DE):Prop where
 h:PE X e (tE X.K d)
structure JT (X:Cx) (e:Expr) (d:DB):Prop where
 h:PT X e (tT X.K d)
structure JW (X:Cx) (e:Expr) (d:DB):Prop where
 h:PW X e (tT X.K d)
structure JA (X:Cx) (e:List Expr) (d:DA):Prop where
 h:PA X e (tA X.K d)
structure JS (X:Cx) (e:Stmt) (d:DS):Prop where
 h:PS X e (tS X.K d)
structure JSs (X:Cx) (e:List Stmt) (d:DS):Prop where
 h:PSs X e (tS X.K d)
structure JG (X:Cx) (e:Expr) (d:Pat):Prop where
 h:PG X e (gP X.K d)
structure JGs (X:Cx) (e:List Expr) (d:Pats):Prop where
 h:PGs X e (gPs X.K d)
structure JI (X:Cx) (tg e:Expr) (d:DI):Prop where
 h:PI X tg e (tI X.K d)
structure JO (X:Cx) (e:Option Expr) (d:DO):Prop where
 h:PO X e (tO X.K d)
structure JTs (X:Cx) (e:List Expr) (d:DB):Prop where
 h:PTs X e (tT X.K d)
theorem JW.pt{X:Cx}{e:Expr}{d:DB}(j:JW X e d):JT X e d:=⟨j.h.pt⟩
section
variable{X:Cx}{a b c e:Expr}{es:List Expr}{da db dc d:DE}{ta tb:DB}{aa:DA}{pos p2:Pos}{f f':W->W->G->Option (W×G)}
theorem ZJ(i:Nat){x:Str}{pos:Pos}(hN:X.N[i]? = some x:=by rfl)(hv:Vis X.env.scope x:=by first|exact Or.inl rfl|exact Or.inr (Or.inl rfl)|exact Or.inr (Or.inr rfl))(hd:(x == ("__debug__" : Str))=false:=by decide)(hcd:(x == ("__classdict__" : Str))=false:=by decide):JE X (.Name x pos) (ZB i):=⟨ZRo i hN hv hd hcd⟩
theorem ZJo{i j pos}:JE X (.Constant (.int i) j pos) (dC (.int i)):=⟨ZRt ⟩
theorem ZLM{b j pos}:JE X (.Constant (.bool b) j pos) (dC (.bool b)):=⟨de_bl ⟩
theorem ZC5{j pos}:JE X (.Constant .none j pos) (dC .none):=⟨ZRN ⟩
theorem ZAV{x j pos}:JE X (.Constant (.str x) j pos) (dC (.str x)):=⟨ZQB ⟩
theorem ZKA{x:Str}{n:Int}(hg:Gl X x)(h:ZOz X.mg x n)(hd:(x == ("__debug__" : Str))=false:=by decide):JE X (.Name x pos) (dC (.int n)):=⟨ZM4 hg h hd⟩
theorem ZL7{op:Operator}(ho:OpR X (binaryOp op) (rOp X.K f))(ha:JE X a da)(hb:JE X b db):JE X (.BinOp a op b pos) (dOp f da db):=⟨de_op ho ha.h hb.h⟩
theorem ZGX{op:CmpOp}(ho:OpR X (compareOp op) (rOp X.K f))(ha:JE X a da)(hb:JE X b db)(hm:behindInMarks op b=false):JE X (.Compare a [op] [b] pos) (dOp f da db):=⟨ZRp ho ha.h hb.h hm⟩
theorem ZIS(ho:IxR X (rOp X.K f))(ha:JE X a da)(hb:JE X b db)(hs:ZGf b):JE X (.Subscript a b pos) (dOp f da db):=⟨de_ix ho ha.h hb.h hs⟩
theorem ZCy{op:CmpOp}(ho:OpR X (compareOp op) (rOp X.K f))(ha:JE X a da)(hb:JE X b db)(hm:behindInMarks op b=false):JT X (.Compare a [op] [b] pos) (dB (dOp f da db)):=⟨ZQJ ho ha.h hb.h hm⟩
theorem ZBC(h:JE X e d)(he:∀whole,isTrue e X.env whole=(do let v ←whole;standAt e.pos;holding [v] (truthy v)):=by intro _;rfl):JT X e (dB d):=⟨ZRj h.h he⟩
theorem ZKZ{op op':CmpOp}(ho:OpR X (compareOp op) (rOp X.K f))(ho':OpR X (compareOp op') (rOp X.K f'))(ha:JE X a da)(hb:JE X b db)(hc:JE X c dc)(hm:lastMarks [op,op'] [b,c]=false:=by with_unfolding_all rfl):JT X (.Compare a [op,op'] [b,c] pos) (dB (ZCt f f' da db dc)):=⟨ZLg ho ho' ha.h hb.h hc.h hm⟩
theorem ZBl(h:JT X a ta):JT X (.UnaryOp .Not a pos) (ZDW ta):=⟨ZRz h.h⟩
theorem ZHR(h:JT X a ta):JW X (.BoolOp .And [a] pos) ta:=⟨ZOl h.h⟩
theorem ZJf(h:JT X a ta):JW X (.BoolOp .Or [a] pos) ta:=⟨ZRa h.h⟩
theorem ZGA{rest:List Expr}(ha:JT X a ta)(hb:JW X (.BoolOp .And (b::rest) pos) tb):JW X (.BoolOp .And (a::b::rest) pos) (ZHM ta tb):=⟨ZQZ ha.h hb.h⟩
theorem ZIE{rest:List Expr}(ha:JT X a ta)(hb:JW X (.BoolOp .Or (b::rest) pos) tb):JW X (.BoolOp .Or (a::b::rest) pos) (dOr ta tb):=⟨dw_or ha.h hb.h⟩
theorem ZJY{op}(h:JE X a da):JE X (.BoolOp op [a] pos) da:=⟨ZRg h.h⟩
theorem ZJm{rest:List Expr}(ha:JE X a da)(hb:JE X (.BoolOp .And (b::rest) pos) db):JE X (.BoolOp .And (a::b::rest) pos) (ZB3 da db):=⟨ZQM ha.h hb.h⟩
theorem ZQt{rest:List Expr}(ha:JE X a da)(hb:JE X (.BoolOp .Or (b::rest) pos) db):JE X (.BoolOp .Or (a::b::rest) pos) (ZK5 da db):=⟨de_or ha.h hb.h⟩
theorem ZJW(ha:JE X a da):JE X (.UnaryOp .Not a pos) (ZFh da):=⟨ZQc ha.h⟩
theorem ZQA(hc:JT X c ta)(ha:JE X a da)(hb:JE X b db):JE X (.IfExp c a b pos) (dIf ta da db):=⟨de_if hc.h ha.h hb.h⟩
theorem ZL  : JA X [] ZE:=⟨ZEk ⟩
theorem ZI(ha:JE X e d)(hr:JA X es aa)(hs:starEach (e::es) X.env=(false,eval e X.env)::starEach es X.env:=by rfl):JA X (e::es) (ZA d aa):=⟨ZCS ha.h hr.h hs⟩
theorem ZEC{x1}(h:JA X es aa):JE X (.Tuple es x1 pos) (dF ZDz aa):=⟨ZQH h.h⟩
theorem ZOX(h:JA X es aa):JE X (.List es pos) (dF ZDy aa):=⟨ZQ3 h.h⟩
theorem ZL1(h:JA X es aa):JE X (.List es pos) (dF ZDp aa):=⟨ZPT h.h⟩
end
section
variable{X:Cx}{x:Str}{p pos:Pos}{e:Expr}{es:List Expr}{aa:DA}{id T:String}{fn:List W->G->Option (W×G)}
theorem ZAR(hc:ZN X (.builtin id) (rF X.K fn))(hg:Gl X x)(hm:X.mg x=none)(hv:bootBuiltins x=some (.builtin id))(ha:JA X (e::es) aa)(hn:x≠"__name__":=by decide)(hdb:(x == ("__debug__" : Str))=false:=by decide)(he:starEach (e::es) X.env=(false,eval e X.env)::starEach es X.env:=by rfl)(hpl:(backTo pos (starEach es X.env)).any (·.1)=false:=by rfl):JE X (.Call (.Name x p) (e::es) [] pos) (dF fn aa):=⟨ZL2 hc hg hm hv ha.h hn hdb he hpl⟩
theorem ZEp(hc:ZN X (.type T) (rF X.K fn))(hg:Gl X x)(hm:X.mg x=none)(hv:bootBuiltins x=some (.type T))(ha:JA X (e::es) aa)(hn:x≠"__name__":=by decide)(hdb:(x == ("__debug__" : Str))=false:=by decide)(he:starEach (e::es) X.env=(false,eval e X.env)::starEach es X.env:=by rfl)(hpl:(backTo pos (starEach es X.env)).any (·.1)=false:=by rfl):JE X (.Call (.Name x p) (e::es) [] pos) (dF fn aa):=⟨ZKl hc hg hm hv ha.h hn hdb he hpl⟩
theorem ZBd{st:Stmt}{ps:List Str}{f:Addr}{fd:FuncData}{k n:Nat}(D:Def X.K X.mg x st ps f fd)(F:FnOk X.prog X.w X.K X.mg X.base CX0 k f fd ps (spD X.K n fn))(hr:Room k X.A)(ha:JA X (e::es) aa)(hm:Many aa n)(hg:Gl X x:=by rfl)(hdb:(x == ("__debug__" : Str))=false:=by decide)(he:starEach (e::es) X.env=(false,eval e X.env)::starEach es X.env:=by rfl)(hpl:(backTo pos (starEach es X.env)).any (·.1)=false:=by rfl):JE X (.Call (.Name x p) (e::es) [] pos) (dF fn aa):=⟨ZOk D F hr ha.h hm hg hdb he hpl⟩
end
section
variable{X:Cx}{pos:Pos}
theorem ZA3{i:Nat}{x:Str}(hN:X.N.Nodup)(hi:X.N[i]? = some x)(hx:Loc X.env.scope x)(hf:X.fn x=true∨X.env.scope.names.lookup x=some .local:=by first|exact .inl rfl|exact .inr rfl|assumption):JG X (.Name x pos) (.nm i):=⟨dg_nm hN hi hx hf⟩
theorem ZIs{es:List Expr}{k:Nat}{ps:Pats}(hc:X.calm=true)(h:JGs X es ps)(hn:(assignEach es X.env).length=ps.len:=by rfl)(hst:(assignEach es X.env).findIdx? (·.1)=none:=by rfl):JG X (.Tuple es k pos) (.tp ps):=⟨dg_tp hc h.h hn hst⟩
theorem ZGu  : JGs X [] .nil:=⟨ZR6 ⟩
theorem ZA1{e:Expr}{es:List Expr}{p:Pat}{ps:Pats}(h1:JG X e p)(h2:JGs X es ps)(hs:(assignEach (e::es) X.env).map (·.2)=assign e X.env::(assignEach es X.env).map (·.2):=by rfl):JGs X (e::es) (.cons p ps):=⟨ZOS h1.h h2.h hs⟩
end
section
variable{X:Cx}{pos:Pos}{st:Stmt}{rest ss:List Stmt}{a b:DS}{d:DE}{e c:Expr}{tc:DB}
theorem ZC0  : JSs X [] dNx:=⟨ZNn ⟩
theorem ZBf(h:JS X st a):JSs X [st] a:=⟨ZOx h.h⟩
theorem ZAs(h1:JS X st a)(h2:JSs X rest b):JSs X (st::rest) (ZR a b):=⟨ZMW h1.h h2.h⟩
theorem ZEG{i:Nat}{x:Str}{pos':Pos}(hN:X.N.Nodup)(hi:X.N[i]? = some x)(hx:Loc X.env.scope x)(he:JE X e d)(hs:swapsWith e (some (.Name x pos')) pos.line X.env=pure false:=by rfl)(hf:X.fn x=true∨X.env.scope.names.lookup x=some .local:=by first|exact .inl rfl|exact .inr rfl|assumption):JS X (.Assign [.Name x pos'] e pos) (Zo i d):=⟨ZRd hN hi hx he.h hs hf⟩
theorem ZEI{tg:Expr}{pt:Pat}(he:JE X e d)(hg:JG X tg pt)(hs:swapsWithSole [tg] e pos.line X.env=pure false:=by rfl)(hw:swappedStores [tg] e X.env=pure none:=by rfl)(h1:(assignEach [tg] X.env).map (·.2)=[assign tg X.env]:=by rfl):JS X (.Assign [tg] e pos) (ZH6 pt d):=⟨ZRf he.h hg.h hs hw h1⟩
theorem ZBz(he:JE X e d):JS X (.Return (some e) pos) (ZQ d):=⟨ZPw he.h⟩
theorem ZNI(he:JE X e d)(hs:swapsWith e none pos.line X.env=pure false:=by rfl):JS X (.Expr e pos) (ZC3 d):=⟨ZPY he.h hs⟩
theorem ZGl{sa sb:List Stmt}(hc:JT X c tc)(ha:JSs X sa a)(hb:JSs X sb b):JS X (.If c sa sb pos) (ZAM tc a b):=⟨ds_if hc.h ha.h hb.h⟩
end
section
variable{X:Cx}{tg:Expr}{pos:Pos}
theorem ZDA{l:Expr}{d:DE}(hl:JE X l d):JI X tg l (ZBX d):=⟨ZQv hl.h⟩
theorem ZIp{a:Expr}{da:DA}{p pos:Pos}(hg:Gl X "range")(hm:X.mg "range" = none)(ha:JA X [a] da)(hs:starEach [a] X.env=[(false,eval a X.env)]:=by rfl)(hn:Many da 1):JI X tg (.Call (.Name "range" p) [a] [] pos) (ZBn da):=⟨ZKX hg hm ha.h hs hn⟩
theorem ZOV{a b:Expr}{da:DA}{p pos:Pos}(hg:Gl X "zip")(hm:X.mg "zip" = none)(ha:JA X [a,b] da)(hs:starEach [a,b] X.env=[(false,eval a X.env),(false,eval b X.env)]:=by rfl)(hs2:starEach [b] X.env=[(false,eval b X.env)]:=by rfl)(hn:Many da 2):JI X tg (.Call (.Name "zip" p) [a,b] [] pos) (ZHA da):=⟨ZSG hg hm ha.h hs hs2 hn⟩
end
section
variable{X:Cx}{tg iter:Expr}{pos:Pos}{di:DI}{pt:Pat}{db:DS}
theorem ZNy{body:List Stmt}(hp:PassesOwn (model X.prog X.w) X.A X.env X.xe)(hc:X.calm=true)(hi:JI X tg iter di)(hg:JG X tg pt)(hb:JSs X body db)(hs:∀x,foldedSetIterable iter X.env x=pure x:=by intro _;rfl):JS X (.For tg iter body [] pos) (ZGU pt di db):=⟨ZRn hp hc hi.h hg.h hb.h hs⟩
theorem ZHP{X:Cx}:JTs X [] Zs:=⟨ZJg ⟩
end
section
variable{X:Cx}{tg elt iter:Expr}{ifs:List Expr}{scope sc:Scope}{pos:Pos}{di:DI}{pt:Pat}{dt:DB}{de:DE}{N NX:List Str}{own:Nat}{cap:List Nat}
theorem ZHm(hc:X.calm=true)(hi:JI X tg iter di)(hsc:X.env.scope=sc)(hNX:X.N=NX)(hb:∀cl C s0 H0 fp,JG (blk X N (compEnvC scope cl C X.env) s0 H0 fp) tg pt/\JTs (blk X N (compEnvC scope cl C X.env) s0 H0 fp) ifs dt/\JE (blk X N (compEnvC scope cl C X.env) s0 H0 fp) elt de)(co:ZBU sc scope NX N own cap=true)(hp:pt.all (λi=>decide (i<own))=true)(hs:∀x,foldedSetIterable iter X.env x=pure x:=by intro _;rfl):JE X (.ListComp elt [⟨tg,iter,ifs,0⟩] scope pos) (Z4 own cap pt di dt de):=⟨ZNx hc hi.h hsc hNX (λcl C s0 H0 fp=>⟨(hb cl C s0 H0 fp).1.h,(hb cl C s0 H0 fp).2.1.h,(hb cl C s0 H0 fp).2.2.h⟩) co hp hs⟩
theorem ZMM{i:Nat}{x:Str}{py spos:Pos}(hN:X.N.Nodup)(hi:X.N[i]? = some x)(hx:Loc X.env.scope x)(hc:X.calm=true)(hit:JI X tg iter di)(hsc:X.env.scope=sc)(hNX:X.N=NX)(hb:∀cl C s0 H0 fp,JG (blk X N (compEnvC scope cl C X.env) s0 H0 fp) tg pt/\JTs (blk X N (compEnvC scope cl C X.env) s0 H0 fp) ifs dt/\JE (blk X N (compEnvC scope cl C X.env) s0 H0 fp) elt de)(co:ZBU sc scope NX N own cap=true)(hp:pt.all (λi=>decide (i<own))=true)(hsw:swapsWith (.ListComp elt [⟨tg,iter,ifs,0⟩] scope pos) (some (.Name x py)) spos.line X.env=pure true:=by rfl)(hs:∀x,foldedSetIterable iter X.env x=pure x:=by intro _;rfl)(hf:X.fn x=true∨X.env.scope.names.lookup x=some .local:=by first|exact .inl rfl|exact .inr rfl|assumption):JS X (.Assign [.Name x py] (.ListComp elt [⟨tg,iter,ifs,0⟩] scope pos) spos) (Zo i (Z4 own cap pt di dt de)):=⟨ZN7 hN hi hx hc hit.h hsc hNX (λcl C s0 H0 fp=>⟨(hb cl C s0 H0 fp).1.h,(hb cl C s0 H0 fp).2.1.h,(hb cl C s0 H0 fp).2.2.h⟩) co hp hsw hs hf⟩
end
section
variable{X:Cx}
theorem ZLJ  : JO X none ZDG:=⟨ZOq ⟩
theorem ZMn{e:Expr}{d:DE}(h:JE X e d):JO X (some e) (ZFc d):=⟨ZPJ h.h⟩
theorem ZQx{e:Expr}{lo hi:Option Expr}{d:DE}{l h:DO}{pos p2:Pos}(he:JE X e d)(hl:JO X lo l)(hh:JO X hi h):JE X (.Subscript e (.Slice lo hi none p2) pos) (dSl d l h):=⟨de_sl he.h hl.h hh.h⟩
theorem ZL5{x:Str}{n:String}{pos:Pos}(hg:Gl X x)(hm:X.mg x=none)(hv:bootBuiltins x=some (.type n))(hn:x≠"__name__":=by decide)(hd:(x == ("__debug__" : Str))=false:=by decide):JE X (.Name x pos) (λ_ g=>some (.ty n,g)):=⟨de_ty hg hm hv hn hd⟩
theorem ZO9{a:Expr}{da:DE}{pos:Pos}(ha:JE X a da):JE X (.UnaryOp .USub a pos) (dUn (λw g=>match w with|.dat (.int i)=>some (.dat (.int (-i)),g)|_=>none) da):=⟨ZRr ha.h⟩
theorem ZPH{o e:Expr}{dl d:DE}{apos cpos:Pos}(ho:JE X o dl)(he:JE X e d)(hbase:attributeBase o "append" X.env (eval o X.env)=eval o X.env:=by rfl)(hfew:((backTo cpos (starEach [e] X.env)).all (λx=>!x.1) && (backToKw cpos (keywordEach [] X.env)).all (λx=>x.1.isSome)
   && decide ([e].length+([]:List Keyword).length+(if ([]:List Keyword).isEmpty then 0 else 1)<30))=true:=by rfl) (hline:(apos.endLine == cpos.line)=true:=by rfl) (hs:starEach [e] X.env=(false,eval e X.env)::starEach [] X.env:=by rfl) (hplain:(backTo cpos (starEach [] X.env)).any (·.1)=false:=by rfl):JE X (.Call (.Attribute o "append" apos) [e] [] cpos) (ZIK dl d):=⟨ZRL ho.h he.h hbase hfew hline hs hplain⟩
theorem ZOw{o i e:Expr}{dl di d:DE}{pos tpos:Pos}(he:JE X e d)(ho:JE X o dl)(hi:JE X i di)(ha:∀v,assign (.Subscript o i tpos) X.env v=(do
   let ov ←holding [v] (eval o X.env)
   let iv ←holding [v,ov] (eval i X.env)
   standAt tpos
   holding [v,ov,iv] (setItem ov iv v)
   release [v,ov,iv] []):=by intro _;rfl) (hs:swapsWithSole [.Subscript o i tpos] e pos.line X.env=pure false:=by rfl) (hw:swappedStores [.Subscript o i tpos] e X.env=pure none:=by rfl) (h1:(assignEach [.Subscript o i tpos] X.env).map (·.2)=[assign (.Subscript o i tpos) X.env]:=by rfl):JS X (.Assign [.Subscript o i tpos] e pos) (ZGV dl di d):=⟨ZRP he.h ho.h hi.h ha hs hw h1⟩
end
theorem Zd{P:Program}{w:World}{K:PySem.W.Frag}{mg:Str->Option Value}{base:Heap}{x qual:Str}{st:Stmt}{f:Addr}{fd:FuncData}{N ps:List Str}{k n m:Nat}{d:DS}{r:List W->G->Option (W×G)}(e:r=ZA9 n d)(hn:N.length=n)(hm:ps.length=m)(F:Fun K x qual st f fd)(S:FnScope N ps (ZF st))
  (hb:∀(cdv:Value) (A:Around) (outer:List Env) (s:Shared) (H:Hp) (E:XK),Room k (A.deeper (envOfC qual (ZF st) s.heap.objs.size f cdv))->JSs (ZCs CX0 P w K mg base N qual (ZF st) f cdv A outer s H E).nox (ZAJ st) d) :
  FnOk P w K mg base CX0 (k+1) f fd ps (spD K m r):=by
 subst e hn hm;exact ZQz F S λcdv A outer s H E hr=>(hb cdv A outer s H E hr).h
theorem ZPS{X:Cx}{a b c:Int}{j1 j2}{p1 p2 pos:Pos}(hc:ZSM a b)(h:a ^ b.toNat=c):JE X (.BinOp (.Constant (.int a) j1 p1) .Pow (.Constant (.int b) j2 p2) pos) (dC (.int c)):=⟨(ZPq ZRl ZIe ZIe).imp λσ H Q ⟨ρ,sd,g,x,g',r,e,q⟩=>by
 cases e;exact⟨a,b,rfl,rfl,hc,by show Q (.int (a ^ b.toNat)) H;rw[h];exact q _ H ρ .refl r.hr (.dat (.int _))⟩⟩
noncomputable def ZP1:W->G->Option (W×G):=λw g=>match w with|.dat (.int i)=>some (.dat (.int (-i)),g)|_=>none
structure EvP {α : Type} (o:Option (α×G)) (P : α->G->Prop):Prop where
 h:∃x g,o=some (x,g)/\P x g
section
variable{α : Type}{P : α->G->Prop}{g:G}
theorem ZAx{x : α}(h:P x g):EvP (some (x,g)) P:=⟨x,g,rfl,h⟩
theorem ZL6{o:Option (α×G)}{x : α}(e:o=some (x,g))(h:P x g):EvP o P:=⟨x,g,e,h⟩
theorem ZBN{c:Prop}[Decidable c]{A B:Option (α×G)}(h:c)(h1:EvP A P):EvP (if c then A else B) P:=by rw[if_pos h];exact h1
theorem ZIv{β : Type}{o:Option β}{y : β}{f : β->α×G}{x : α}(e:o=some y)(e2:f y=(x,g))(h:P x g):EvP (o.map f) P:=by
 subst e;exact⟨x,g,congrArg some e2,h⟩
end
section
variable{sd:Sd}{g:G}{da db dc d:DE}{ta tb:DB}{aa:DA}{f f':W->W->G->Option (W×G)}{P:W->G->Prop}{PB:Bool->G->Prop}{PA':List W->G->Prop}
theorem x_c{d:PyData}(h:P (.dat d) g):EvP (dC d sd g) P:=⟨_,_,rfl,h⟩
theorem x_op(h:EvP (da sd g) λx g1=>EvP (db sd g1) λy g2=>EvP (f x y g2) P):EvP (dOp f da db sd g) P:=by
 obtain⟨x,g1,e1,y,g2,e2,z,g3,e3,h⟩:=h;exact⟨z,g3,by unfold dOp;rw[e1];show(db sd g1).bind _=_;rw[e2];exact e3,h⟩
theorem x_un{fu:W->G->Option (W×G)}(h:EvP (da sd g) λx g1=>EvP (fu x g1) P):EvP (dUn fu da sd g) P:=by
 obtain⟨x,g1,e1,z,g3,e3,h⟩:=h;exact⟨z,g3,by unfold dUn;rw[e1];exact e3,h⟩
structure asB (PB:Bool->G->Prop) (x:W) (g:G):Prop where
 h:∃b,x=.dat (.bool b)/\PB b g
theorem as_b{b:Bool}(h:PB b g):asB PB (.dat (.bool b)) g:=⟨b,rfl,h⟩
theorem x_b(h:EvP (d sd g) (asB PB)):EvP (dB d sd g) PB:=by
 obtain⟨x,g1,e1,b,rfl,h⟩:=h;exact⟨b,g1,by unfold dB;rw[e1];rfl,h⟩
theorem x_not(h:EvP (ta sd g) λb g1=>PB (!b) g1):EvP (ZDW ta sd g) PB:=by
 obtain⟨x,g1,e1,h⟩:=h;exact⟨_,g1,by unfold ZDW;rw[e1];rfl,h⟩
theorem x_and(h:EvP (ta sd g) λb g1=>(b=true->EvP (tb sd g1) PB)/\(b=false->PB false g1)):EvP (ZHM ta tb sd g) PB:=by
 obtain⟨x,g1,e1,h1,h2⟩:=h;cases x with
 |true =>
  obtain⟨y,g2,e2,h⟩:=h1 rfl;exact⟨y,g2,by unfold ZHM;rw[e1];exact e2,h⟩
 |false=>exact⟨false,g1,by unfold ZHM;rw[e1];rfl,h2 rfl⟩
theorem x_or(h:EvP (ta sd g) λb g1=>(b=true->PB true g1)/\(b=false->EvP (tb sd g1) PB)):EvP (dOr ta tb sd g) PB:=by
 obtain⟨x,g1,e1,h1,h2⟩:=h;cases x with
 |false =>
  obtain⟨y,g2,e2,h⟩:=h2 rfl;exact⟨y,g2,by unfold dOr;rw[e1];exact e2,h⟩
 |true=>exact⟨true,g1,by unfold dOr;rw[e1];rfl,h1 rfl⟩
theorem ZPz(h:EvP (da sd g) (asB λb g1=>(b=true->EvP (db sd g1) P)/\(b=false->P (.dat (.bool false)) g1))):EvP (ZB3 da db sd g) P:=by
 obtain⟨x,g1,e1,b,rfl,h1,h2⟩:=h;cases b with
 |true =>
  obtain⟨y,g2,e2,h⟩:=h1 rfl;exact⟨y,g2,by unfold ZB3;rw[e1];exact e2,h⟩
 |false=>exact⟨_,g1,by unfold ZB3;rw[e1];rfl,h2 rfl⟩
theorem x_orV(h:EvP (da sd g) (asB λb g1=>(b=true->P (.dat (.bool true)) g1)/\(b=false->EvP (db sd g1) P))):EvP (ZK5 da db sd g) P:=by
 obtain⟨x,g1,e1,b,rfl,h1,h2⟩:=h;cases b with
 |false =>
  obtain⟨y,g2,e2,h⟩:=h2 rfl;exact⟨y,g2,by unfold ZK5;rw[e1];exact e2,h⟩
 |true=>exact⟨_,g1,by unfold ZK5;rw[e1];rfl,h1 rfl⟩
theorem ZIg(h:EvP (da sd g) (asB λb g1=>P (.dat (.bool !b)) g1)):EvP (ZFh da sd g) P:=by
 obtain⟨x,g1,e1,b,rfl,h⟩:=h;exact⟨_,g1,by unfold ZFh;rw[e1];rfl,h⟩
theorem x_if(h:EvP (ta sd g) λb g1=>(b=true->EvP (da sd g1) P)/\(b=false->EvP (db sd g1) P)):EvP (dIf ta da db sd g) P:=by
 obtain⟨x,g1,e1,h1,h2⟩:=h;cases x with
 |true =>
  obtain⟨y,g2,e2,h⟩:=h1 rfl;exact⟨y,g2,by unfold dIf;rw[e1];exact e2,h⟩
 |false =>
  obtain⟨y,g2,e2,h⟩:=h2 rfl;exact⟨y,g2,by unfold dIf;rw[e1];exact e2,h⟩
theorem x_nil(h:PA' [] g):EvP (ZE sd g) PA':=⟨_,_,rfl,h⟩
theorem ZSB(h:EvP (d sd g) λx g1=>EvP (aa sd g1) λxs g2=>PA' (x::xs) g2):EvP (ZA d aa sd g) PA':=by
 obtain⟨x,g1,e1,y,g2,e2,h⟩:=h;exact⟨_,g2,by unfold ZA;rw[e1];show(aa sd g1).map _=_;rw[e2];rfl,h⟩
theorem x_f{fn:List W->G->Option (W×G)}(h:EvP (aa sd g) λxs g1=>EvP (fn xs g1) P):EvP (dF fn aa sd g) P:=by
 obtain⟨x,g1,e1,y,g2,e2,h⟩:=h;exact⟨y,g2,by unfold dF;rw[e1];exact e2,h⟩
theorem ZOn(h:EvP (da sd g) λx g1=>EvP (db sd g1) λy g2=>EvP (f x y g2) (asB λb g3=>(b=true->EvP (dc sd g3) λz g4=>EvP (f' y z g4) P)/\(b=false->P (.dat (.bool false)) g3))):EvP (ZCt f f' da db dc sd g) P:=by
 obtain⟨x,g1,e1,y,g2,e2,z,g3,e3,b,rfl,h1,h2⟩:=h;cases b with
 |true =>
  obtain⟨u,g4,e4,v,g5,e5,h⟩:=h1 rfl;exact⟨v,g5,by unfold ZCt;rw[e1];show(db sd g1).bind _=_;rw[e2];show(f x y g2).bind _=_;rw[e3];show(dc sd g3).bind _=_;rw[e4];exact e5,h⟩
 |false=>exact⟨_,g3,by unfold ZCt;rw[e1];show(db sd g1).bind _=_;rw[e2];show(f x y g2).bind _=_;rw[e3];rfl,h2 rfl⟩
theorem ZMN{PO':Option Int->G->Prop}(h:PO' none g):EvP (ZDG sd g) PO':=⟨_,_,rfl,h⟩
structure asI (PO':Option Int->G->Prop) (x:W) (g:G):Prop where
 h:∃i,x=.dat (.int i)/\PO' (some i) g
theorem as_i{PO':Option Int->G->Prop}{i:Int}(h:PO' (some i) g):asI PO' (.dat (.int i)) g:=⟨i,rfl,h⟩
theorem ZP8{PO':Option Int->G->Prop}(h:EvP (d sd g) (asI PO')):EvP (ZFc d sd g) PO':=by
 obtain⟨x,g1,e1,i,rfl,h⟩:=h;exact⟨some i,g1,by unfold ZFc;rw[e1];rfl,h⟩
theorem x_sl{l u:DO}(h:EvP (d sd g) λx g1=>EvP (l sd g1) λi g2=>EvP (u sd g2) λj g3=>EvP (slO x i j g3) P):EvP (dSl d l u sd g) P:=by
 obtain⟨x,g1,e1,i,g2,e2,j,g3,e3,z,g4,e4,h⟩:=h;exact⟨z,g4,by unfold dSl;rw[e1];show(l sd g1).bind _=_;rw[e2];show(u sd g2).bind _=_;rw[e3];exact e4,h⟩
structure EvI (o:Option (List PyData×Option Nat×G)) (P:List PyData->Option Nat->G->Prop):Prop where
 h:∃xs src g,o=some (xs,src,g)/\P xs src g
theorem ZRH{PI':List PyData->Option Nat->G->Prop}{xs:List PyData}{src:Option Nat}(h:PI' xs src g):EvI (some (xs,src,g)) PI':=⟨_,_,_,rfl,h⟩
theorem ZQm{PI':List PyData->Option Nat->G->Prop}(h:EvP (d sd g) λx g1=>EvI (ZPp x g1) PI'):EvI (ZBX d sd g) PI':=by
 obtain⟨x,g1,e1,xs,src,g2,e2,h⟩:=h;exact⟨xs,src,g2,by unfold ZBX;rw[e1];exact e2,h⟩
theorem ZFE{PI':List PyData->Option Nat->G->Prop}{j:Int}{g1:G}(h:EvP (aa sd g) λws g1=>∃j:Int,ws=[.dat (.int j)]/\(j<=1000/\-1000<=j)/\PI' (ZFM j.toNat 0) none g1):EvI (ZBn aa sd g) PI':=by
 obtain⟨ws,g1,e1,j,rfl,hj,h⟩:=h;exact⟨_,_,g1,by unfold ZBn;rw[e1];exact if_pos hj,h⟩
theorem ZRV{PI':List PyData->Option Nat->G->Prop}(h:EvP (aa sd g) λws g1=>∃ds es:List PyData,ws=[.dat (.tuple ds),.dat (.tuple es)]/\PI' (ZB4 ds es) none g1):EvI (ZHA aa sd g) PI':=by
 obtain⟨ws,g1,e1,j,k,rfl,h⟩:=h;exact⟨_,_,g1,by unfold ZHA;rw[e1];rfl,h⟩
theorem ZQC{own:Nat}{cap:List Nat}{pt:Pat}{di:DI}{dt:DB}{de:DE}(h:EvI (di sd g) λxs src g1=>xs.length<=1000/\EvP (ZAh src xs pt dt de (ZDI own cap sd) xs g1) λys g2=>P (.dat (.list ys)) g2):EvP (Z4 own cap pt di dt de sd g) P:=by
 obtain⟨xs,src,g1,e1,hl,ys,g2,e2,h⟩:=h;refine⟨_,g2,?_,h⟩;unfold Z4;rw[e1];show(if xs.length<=1000 then _ else _)=_;rw[if_pos hl];show(ZAh src xs pt dt de (ZDI own cap sd) xs g1).map _=_;rw[e2];rfl
structure EvS (o:Option Out) (P:Out->Prop):Prop where
 h:∃x,o=some x/\P x
variable{PS':Out->Prop}{a b:DS}
inductive seqP (b:DS) (P:Out->Prop):Out->Prop
 |nx {sd:Sd} {g:G}:EvS (b sd g) P->seqP b P (.nx sd g)
 |rt {x:W} {g:G}:P (.rt x g)->seqP b P (.rt x g)
 |bk {sd:Sd} {g:G}:P (.bk sd g)->seqP b P (.bk sd g)
 |ct {sd:Sd} {g:G}:P (.ct sd g)->seqP b P (.ct sd g)
theorem ZEj(h:EvS (b sd g) PS'):seqP b PS' (.nx sd g):=.nx h
theorem ZQS{x:W}(h:PS' (.rt x g)):seqP b PS' (.rt x g):=.rt h
theorem ZNa(h:EvS (a sd g) (seqP b PS')):EvS (ZR a b sd g) PS':=by
 obtain⟨o,e,h⟩:=h;cases h with
 |nx h =>
  obtain⟨o,e2,h⟩:=h;exact⟨o,by unfold ZR;rw[e];exact e2,h⟩
 |rt h=>exact⟨_,by unfold ZR;rw[e];rfl,h⟩
 |bk h=>exact⟨_,by unfold ZR;rw[e];rfl,h⟩
 |ct h=>exact⟨_,by unfold ZR;rw[e];rfl,h⟩
theorem ZR1(h:PS' (.nx sd g)):EvS (dNx sd g) PS':=⟨_,rfl,h⟩
theorem ZNS{i:Nat}(h:EvP (d sd g) λx g1=>PS' (.nx (sd.set i (some x)) g1)):EvS (Zo i d sd g) PS':=by
 obtain⟨x,g1,e,h⟩:=h;exact⟨_,by unfold Zo;rw[e];rfl,h⟩
theorem x_asg{pt:Pat}(h:EvP (d sd g) λx g1=>∃sd1,ZW pt x sd=some sd1/\PS' (.nx sd1 g1)):EvS (ZH6 pt d sd g) PS':=by
 obtain⟨x,g1,e,sd1,e1,h⟩:=h;exact⟨_,by unfold ZH6;rw[e];show(ZW pt x sd).map _=_;rw[e1];rfl,h⟩
theorem x_ret(h:EvP (d sd g) λx g1=>PS' (.rt x g1)):EvS (ZQ d sd g) PS':=by
 obtain⟨x,g1,e,h⟩:=h;exact⟨_,by unfold ZQ;rw[e];rfl,h⟩
theorem ZQE(h:EvP (d sd g) λx g1=>PS' (.nx sd g1)):EvS (ZC3 d sd g) PS':=by
 obtain⟨x,g1,e,h⟩:=h;exact⟨_,by unfold ZC3;rw[e];rfl,h⟩
theorem x_ifS(h:EvP (ta sd g) λk g1=>(k=true->EvS (a sd g1) PS')/\(k=false->EvS (b sd g1) PS')):EvS (ZAM ta a b sd g) PS':=by
 obtain⟨k,g1,e,h1,h2⟩:=h;cases k with
 |true =>
  obtain⟨o,e2,h⟩:=h1 rfl;exact⟨o,by unfold ZAM;rw[e];exact e2,h⟩
 |false =>
  obtain⟨o,e2,h⟩:=h2 rfl;exact⟨o,by unfold ZAM;rw[e];exact e2,h⟩
theorem x_for{pt:Pat}{di:DI}(h:EvI (di sd g) λxs src g1=>EvS (ZBc src xs pt b xs sd g1) PS'):EvS (ZGU pt di b sd g) PS':=by
 obtain⟨xs,src,g1,e1,o,e2,h⟩:=h;exact⟨o,by unfold ZGU;rw[e1];exact e2,h⟩
theorem x_app{dl:DE}(h:EvP (dl sd g) λl g1=>∃n,l=.ref n/\isL g1 n=true/\EvP (d sd g1) λx g2=>∃y,x=.dat y/\∃ds,g2[n]? = some (.pl ds)/\ds.length<1000/\P (.dat .none) (g2.set n (.pl (ds++[y])))):EvP (ZIK dl d sd g) P:=by
 obtain⟨l,g1,e1,n,rfl,hil,x,g2,e2,y,rfl,ds,e3,hl,h⟩:=h;refine⟨_,_,?_,h⟩;unfold ZIK;rw[e1];show(if isL g1 n=true then _ else _)=_;rw[if_pos hil];show(d sd g1).bind _=_;rw[e2];show(match g2[n]? with|some (.pl ds)=>_|some (.rl ws)=>_|_=>_)=_;rw[e3];exact if_pos hl
theorem x_sto{dl di:DE}(h:EvP (d sd g) λv g1=>∃x,v=.dat x/\EvP (dl sd g1) λl g2=>∃n,l=.ref n/\EvP (di sd g2) λi g3=>∃k,i=.dat (.int k)/\∃ds,g3[n]? = some (.pl ds)/\∃j,ixN ds.length k=some j/\PS' (.nx sd (g3.set n (.pl (ds.set j x))))):EvS (ZGV dl di d sd g) PS':=by
 obtain⟨v,g1,e1,x,rfl,l,g2,e2,n,rfl,i,g3,e3,k,rfl,ds,e4,j,e5,h⟩:=h;refine⟨_,?_,h⟩;unfold ZGV;rw[e1];show(dl sd g1).bind _=_;rw[e2];show(di sd g2).bind _=_;rw[e3];show(match g3[n]? with|some (.pl ds)=>_|some (.rl ws)=>_|_=>_)=_;rw[e4];show(ixN ds.length k).map _=_;rw[e5];rfl
end
inductive runP (P:W->G->Prop):Out->Prop
 |rt {x:W} {g':G}:P x g'->runP P (.rt x g')
 |nx {sd:Sd} {g':G}:P (.dat .none) g'->runP P (.nx sd g')
theorem ZQa{x:W}{g':G}{P:W->G->Prop}(h:P x g'):runP P (.rt x g'):=.rt h
theorem Zu{n:Nat}{d:DS}{ws:List W}{g:G}{P:W->G->Prop}(h:EvS (d (ws.map some++List.replicate (n-ws.length) none) g) (runP P)):EvP (ZA9 n d ws g) P:=by
 obtain⟨o,e,h⟩:=h;unfold ZA9;rw[e];cases h with
 |rt h=>exact⟨_,_,rfl,h⟩
 |nx h=>exact⟨_,_,rfl,h⟩
noncomputable def stepP(src:Option Nat)(xs:List PyData)(I:Sd->G->Prop)(P:Out->Prop):Out->Prop
 |.nx sd g=>Zj src xs g/\I sd g
 |.ct sd g=>Zj src xs g/\I sd g
 |.bk sd g=>P (.nx sd g)
 |.rt x g=>P (.rt x g)
theorem ZAe{α : Type}{src:Option Nat}{xs:List PyData}{g:G}{k:Option α}(h:Zj src xs g):ZAN src xs g k=k:=by
 unfold ZAN;cases src with
 |none=>rfl
 |some n=>exact if_pos h
theorem ZDH{src:Option Nat}{xs:List PyData}{pt:Pat}{db:DS}{P:Out->Prop}(I:Nat->Sd->G->Prop){sd:Sd}{g:G}(h0:I 0 sd g)
  (hs:∀i x sd g,xs[i]? = some x->I i sd g->∃sd1,ZW pt (.dat x) sd=some sd1/\EvS (db sd1 g) (stepP src xs (I (i+1)) P))(hd:∀sd g,I xs.length sd g->P (.nx sd g)):EvS (ZBc src xs pt db xs sd g) P:=by
 have go:∀(k i:Nat) sd g,i+k=xs.length->I i sd g->EvS (ZBc src xs pt db (xs.drop i) sd g) P:=by
  intro k
  induction k with
  |zero =>
   intro i sd g hi h;have:i=xs.length:=by omega
   subst this
   rw[drop_length,ZBc];exact⟨_,rfl,hd sd g h⟩
  |succ k ih =>
   intro i sd g hi h;have hlt:i<xs.length:=by omega
   rw[drop_eq_getElem_cons hlt,ZBc];obtain⟨sd1,e1,o,e2,h2⟩:=hs i xs[i] sd g (getElem?_eq_getElem hlt) h;rw[e1];show EvS ((db sd1 g).bind _) P;rw[e2];cases o with
   |nx sd2 g2=>show EvS (ZAN _ _ _ _) P;rw[ZAe h2.1];exact ih (i+1) sd2 g2 (by omega) h2.2
   |ct sd2 g2=>show EvS (ZAN _ _ _ _) P;rw[ZAe h2.1];exact ih (i+1) sd2 g2 (by omega) h2.2
   |bk sd2 g2=>exact⟨_,rfl,h2⟩
   |rt x g2=>exact⟨_,rfl,h2⟩
 exact go xs.length 0 sd g (by omega) h0
theorem ZM6{α : Type}{src:Option Nat}{xs:List PyData}{pt:Pat}{dt:DB}{de:DE}{sd0:Sd}{g:G}(enc : α->PyData)(c : α->Bool)(f : α->PyData)(so:Zj src xs g):∀L:List α,
  (∀a∈L,∃sd1,ZW pt (.dat (enc a)) sd0=some sd1/\EvP (dt sd1 g) λb g1=>b=c a/\g1=g/\(c a=true->EvP (de sd1 g) λy g2=>y=.dat (f a)/\g2=g))->ZAh src xs pt dt de sd0 (L.map enc) g=some ((L.filter c).map f,g)
 |[],_=>rfl
 |a::L,h=>by
  obtain⟨sd1,e1,b,g1,e2,rfl,rfl,h2⟩:=h a (mem_cons_self ..);rw[map_cons,ZAh,e1];show((dt sd1 g1).bind _)=_;rw[e2];show(if c a=true then _ else _)=_;have ih:=ZM6 enc c f so L λz hz=>h z (mem_cons_of_mem _ hz)
  cases hc:c a with
  |true =>
   rw[if_pos rfl];obtain⟨y,g2,e3,rfl,rfl⟩:=h2 hc;rw[e3];show ZAN src xs g2 _=_;rw[ZAe so,ih,List.filter_cons_of_pos hc];rfl
  |false =>
   rw[if_neg Bool.false_ne_true,ZAe so,ih,List.filter_cons_of_neg (by rw[hc];exact Bool.false_ne_true)]
theorem ZN4{α : Type}{src:Option Nat}{xs:List PyData}{pt:Pat}{dt:DB}{de:DE}{sd0:Sd}{g:G}{P:List PyData->G->Prop}(enc : α->PyData)(c : α->Bool)(f : α->PyData)(L:List α)(e:xs=L.map enc)(so:Zj src xs g)
  (h:∀a∈L,∃sd1,ZW pt (.dat (enc a)) sd0=some sd1/\EvP (dt sd1 g) λb g1=>b=c a/\g1=g/\(c a=true->EvP (de sd1 g) λy g2=>y=.dat (f a)/\g2=g))(hP:P ((L.filter c).map f) g):EvP (ZAh src xs pt dt de sd0 xs g) P:=by
 refine⟨_,g,?_,hP⟩
 conv=>lhs;arg 7;rw[e]
 exact ZM6 enc c f so L h
theorem Z7{α : Type}{src:Option Nat}{xs:List PyData}{pt:Pat}{de:DE}{sd0:Sd}{g:G}{P:List PyData->G->Prop}(enc : α->PyData)(f : α->PyData)(L:List α)(e:xs=L.map enc)(so:Zj src xs g)
  (h:∀a∈L,∃sd1,ZW pt (.dat (enc a)) sd0=some sd1/\EvP (de sd1 g) λy g2=>y=.dat (f a)/\g2=g)(hP:P (L.map f) g):EvP (ZAh src xs pt Zs de sd0 xs g) P:=by
 refine ZN4 enc (λ_=>true) f L e so (λa ha=>?_) ?_
 ·obtain⟨sd1,e1,h1⟩:=h a ha
  exact⟨sd1,e1,true,g,rfl,rfl,rfl,λ_=>h1⟩
 ·rw[List.filter_eq_self.mpr λ_ _=>rfl]
  exact hP
theorem ev_cj{src:Option Nat}{xs:List PyData}{pt:Pat}{dt:DB}{de:DE}{sd0:Sd}{P:List PyData->G->Prop}(J:Nat->List PyData->G->Prop){g:G}(h0:J 0 [] g)
  (h:∀i x g acc,xs[i]? = some x->J i acc g->∃sd1,ZW pt (.dat x) sd0=some sd1/\EvP (dt sd1 g) λb g1=>(b=true->EvP (de sd1 g1) λy g2=>∃d,y=.dat d/\Zj src xs g2/\J (i+1) (acc++[d]) g2)/\(b=false->Zj src xs g1/\J (i+1) acc g1))
  (hP:∀acc g,J xs.length acc g->P acc g):EvP (ZAh src xs pt dt de sd0 xs g) P:=by
 have go:∀(k i:Nat) acc g,i+k=xs.length->J i acc g->EvP (ZAh src xs pt dt de sd0 (xs.drop i) g) λys g2=>P (acc++ys) g2:=by
  intro k
  induction k with
  |zero =>
   intro i acc g hi h1;have:i=xs.length:=by omega
   subst this
   rw[drop_length,ZAh];exact⟨_,_,rfl,by show P (acc++[]) g;rw[append_nil];exact hP acc g h1⟩
  |succ k ih =>
   intro i acc g hi h1;have hlt:i<xs.length:=by omega
   rw[drop_eq_getElem_cons hlt,ZAh];obtain⟨sd1,e1,b,g1,e2,kt,kf⟩:=h i xs[i] g acc (getElem?_eq_getElem hlt) h1;rw[e1];show EvP ((dt sd1 g).bind _) _;rw[e2];show EvP (if b=true then _ else _) _;cases b with
   |true =>
    obtain⟨y,g2,e3,d,rfl,so,i2⟩:=kt rfl;rw[if_pos rfl,e3];show EvP (ZAN _ _ _ _) _;rw[ZAe so];obtain⟨ys,g3,e4,hp⟩:=ih (i+1) (acc++[d]) g2 (by omega) i2;rw[e4];refine⟨_,g3,rfl,?_⟩;rw[append_assoc] at hp;exact hp
   |false =>
    obtain⟨so,i2⟩:=kf rfl;rw[if_neg Bool.false_ne_true,ZAe so];exact ih (i+1) acc g1 (by omega) i2
 have:=go xs.length 0 [] g (by omega) h0;rw[List.drop_zero] at this
 exact this
theorem ZLa{src:Option Nat}{xs:List PyData}{pt:Pat}{dt:DB}{de:DE}{sd0:Sd}{P:List PyData->G->Prop}(I:G->Prop)(R:Nat->List PyData->Prop){g:G}(h0:I g)(hR0:R 0 [])
  (h:∀i x g acc,xs[i]? = some x->I g->R i acc->∃sd1,ZW pt (.dat x) sd0=some sd1/\EvP (dt sd1 g) λb g1=>(b=true->EvP (de sd1 g1) λy g2=>∃d,y=.dat d/\Zj src xs g2/\I g2/\R (i+1) (acc++[d]))/\(b=false->Zj src xs g1/\I g1/\R (i+1) acc))
  (hP:∀acc g,I g->R xs.length acc->P acc g):EvP (ZAh src xs pt dt de sd0 xs g) P:=ev_cj (λi acc g=>I g/\R i acc) ⟨h0,hR0⟩ (λi x g acc hx j=>h i x g acc hx j.1 j.2) λacc g j=>hP acc g j.1 j.2
section
variable{g:G}{P:W->G->Prop}
theorem ZQD{xs ys:List PyData}(h:xs.length+ys.length<=1000)(q:P (.dat (.tuple (xs++ys))) g):EvP (ZT (.dat (.tuple xs)) (.dat (.tuple ys)) g) P:=ZBN h (ZAx q)
theorem ZL4{xs ys:List PyData}(h:xs.length+ys.length<=1000)(q:P (.dat (.list (xs++ys))) g):EvP (ZT (.dat (.list xs)) (.dat (.list ys)) g) P:=ZL6 (if_pos h) q
theorem ZEo{i j:Int}(h:ZIl i j=true)(q:P (.dat (.int (i*j))) g):EvP (ZCX (.dat (.int i)) (.dat (.int j)) g) P:=ZBN h (ZAx q)
theorem ZPb{i j:Int}(h : 0<j)(q:P (.dat (.int (i % j))) g):EvP (ZAu (.dat (.int i)) (.dat (.int j)) g) P:=ZBN (decide_eq_true h) (ZAx q)
theorem y_div{i j:Int}(h : 0<j)(h2:j<2 ^ 64)(q:P (.dat (.int (i / j))) g):EvP (ZEY (.dat (.int i)) (.dat (.int j)) g) P:=ZBN (by show(decide (0<j) && decide (j<2 ^ 64))=true;rw[decide_eq_true h,decide_eq_true h2];rfl) (ZAx q)
theorem y_ixL{xs:List PyData}{i:Int}{d:PyData}(h:atI xs i=some d)(q:P (.dat d) g):EvP (Za (.dat (.list xs)) (.dat (.int i)) g) P:=ZIv h rfl q
theorem ZB9{n:Nat}{xs:List PyData}{i:Int}{d:PyData}(hn:g[n]? = some (.pl xs))(h:atI xs i=some d)(q:P (.dat d) g):EvP (Za (.ref n) (.dat (.int i)) g) P:=by
 refine⟨_,_,?_,q⟩;show(match g[n]? with|some (.pl ds)=>(atI ds i).map λd=>(W.dat d,g)|some (.rl ws)=>(atI ws i).map λw=>(w,g)|_=>none)=_;rw[hn];show(atI xs i).map _=_;rw[h];rfl
theorem ZAT{n:Nat}{xs:List W}{i:Int}{d:W}(hn:g[n]? = some (.rl xs))(h:atI xs i=some d)(q:P d g):EvP (Za (.ref n) (.dat (.int i)) g) P:=by
 refine⟨_,_,?_,q⟩;show(match g[n]? with|some (.pl ds)=>(atI ds i).map λd=>(W.dat d,g)|some (.rl ws)=>(atI ws i).map λw=>(w,g)|_=>none)=_;rw[hn];show(atI xs i).map _=_;rw[h];rfl
theorem ZOj{n:Nat}{xs:List W}(hn:g[n]? = some (.rl xs))(q:P (.dat (.int (xs.length:Int))) g):EvP (f1 ZFQ [.ref n] g) P:=by
 refine⟨_,_,?_,q⟩;show(match g[n]? with|some (.pl ds)=>some (W.dat (.int (ds.length:Int)),g)|some (.rl ws)=>some (W.dat (.int (ws.length:Int)),g)|_=>none)=_;rw[hn]
theorem ZIX{n:Nat}{xs:List PyData}(hn:g[n]? = some (.pl xs))(q:P (.dat (.tuple xs)) g):EvP (f1 ZCr [.ref n] g) P:=ZIv (y:=xs) (ZJT hn) rfl q
theorem ZIz{x y:PyData}(h:(ok0 x && ok0 y)=true)(q:P (.dat (.bool (x.eqv y))) g):EvP (ZC1 (.dat x) (.dat y) g) P:=ZBN h (ZAx q)
theorem ZQN{x y:PyData}(h:(ok0 x && ok0 y)=true)(q:P (.dat (.bool (!x.eqv y))) g):EvP (ZHO (.dat x) (.dat y) g) P:=ZBN h (ZAx q)
theorem ZPk{x:PyData}{ys:List PyData}(h:(ok0 x && PyData.canLayAll0 ys)=true)(q:P (.dat (.bool (ys.any λy=>y.eqv x))) g):EvP (ZIW (.dat x) (.dat (.list ys)) g) P:=ZBN h (ZAx q)
theorem ZSE{x:PyData}{ys:List PyData}(h:(ok0 x && PyData.canLayAll0 ys)=true)(q:P (.dat (.bool (!ys.any λy=>y.eqv x))) g):EvP (ZDQ (.dat x) (.dat (.tuple ys)) g) P:=ZBN h (ZAx q)
end
theorem ZGF(ns:List Int):PyData.canLayAll0 (ns.map .int)=true:=by
 induction ns with
 |nil=>rfl
 |cons n ns ih=>show(true && PyData.canLayAll0 (ns.map .int))=true;rw[ih];rfl
theorem ZAW{i j:Int}:(PyData.int i).eqv (.int j)=decide (i=j):=by
 show(i == j)=_;exact rfl
theorem ZCq{i j:Int}(h : -(2 ^ 64)<j/\j<2 ^ 64):ZIl i j=true:=by
 unfold ZIl;rw[decide_eq_true h.1,decide_eq_true h.2];simp
theorem Z2{α : Type}{g:List α}{b:Nat}{x : α}(h:b<g.length):(g.set b x)[b]? = some x:=getElem?_set_self h
noncomputable def Bx(g:G)(b:Nat):Prop:=∃x n c:Int,g[b]? = some (.pl [.int x,.int n,.int c])
theorem Bx.lt{g:G}{b:Nat}(h:Bx g b):b<g.length:=by
 obtain⟨x,n,c,e⟩:=h;exact(List.getElem?_eq_some_iff.mp e).1
structure Dr (b:Nat) (g g':G):Prop where
 bx:Bx g' b
 len:g.length<=g'.length
 kp:∀n,n<g.length->n≠b->g'[n]? = g[n]?
theorem Dr.refl{b:Nat}{g:G}(h:Bx g b):Dr b g g:=⟨h,le_refl _,λ_ _ _=>rfl⟩
theorem Dr.trans{b:Nat}{g g1 g2:G}(h:Dr b g g1)(k:Dr b g1 g2):Dr b g g2:=⟨k.bx,le_trans h.len k.len,λn h1 hn=>(k.kp n (lt_of_lt_of_le h1 h.len) hn).trans (h.kp n h1 hn)⟩
theorem Dr.set{b:Nat}{g:G}{x n c:Int}(h:b<g.length):Dr b g (g.set b (.pl [.int x,.int n,.int c])):=⟨⟨x,n,c,Z2 h⟩,by rw[length_set];exact le_refl _,λm _ hm=>getElem?_set_ne (Ne.symm hm)⟩
theorem Dr.put{b n:Nat}{g gx:G}{c:Cell}(h:Dr b g gx)(hb:b<g.length)(hn:g.length<=n):Dr b g (gx.set n c):=⟨by
 obtain⟨x,y,z,e⟩:=h.bx;exact⟨x,y,z,by rw[getElem?_set_ne (by omega)];exact e⟩,by rw[length_set];exact h.len,λm h1 h2=>by rw[getElem?_set_ne (by omega)];exact h.kp m h1 h2⟩
theorem Dr.app{b:Nat}{g gx:G}{c:Cell}(h:Dr b g gx):Dr b g (gx++[c]):=⟨by
 obtain⟨x,y,z,e⟩:=h.bx;exact⟨x,y,z,by rw[getElem?_append_left h.bx.lt];exact e⟩,by have:=h.len;rw[length_append];omega,λm h1 h2=>by rw[getElem?_append_left (by have:=h.len;omega)];exact h.kp m h1 h2⟩
theorem ZGh{g:G}{c:Cell}:(g++[c])[g.length]? = some c:=by
 rw[getElem?_append_right (le_refl _),sub_self];rfl
theorem ZQX{P:Program}{w:World}{K:PySem.W.Frag}{mg:Str->Option Value}{base:Heap}{k:Nat}{f:Addr}{fd:FuncData}{ps:List Str}{r:List W->G->Option (W×G)}(F:FnOk P w K mg base CX0 k f fd ps (spD K 1 r))
  (h:∀ns:List Int,ns.length<=63->∃g',r [.inp ns] []=some (.dat (.bool true),g')):FnOk P w K mg base CX0 k f fd ps (λvs H Q _=>∃(a:Addr) (ns:List Int),vs=[.ref a]/\SqL K H a (ns.map V.int)/\ns.length<=63/\∀H',Q (.bl true) H'):=F.imp λvs H Q E ⟨a,ns,e,hS,hl,q⟩=>by
 subst e;obtain⟨g',eg⟩:=h ns hl;refine⟨rfl,⟨[],[]⟩,[.inp ns],[],.dat (.bool true),g',⟨rfl,nodup_nil,λn ds e=>by simp at e,λa z=>by cases z⟩,.cons (.inp ?_) .nil,eg,λv H' ρ' s' h' r'=>?_⟩
 ·rcases hS with z|z
  ·exact .inl ⟨z,λq=>q.elim (λz=>by cases z) λz=>by cases z⟩
  ·exact .inr z
 ·cases r' with
  |dat r' =>
   cases r' with
   |bl b=>exact q H'
theorem ZHI(ns:List Bool):ZAb (ns.map .bool)=some ns:=by
 induction ns with
 |nil=>rfl
 |cons n ns ih=>rw[map_cons,ZAb,ih];rfl
section
variable{g:G}{P:W->G->Prop}
theorem ZMk{bs:List Bool}(q:P (.dat (.bool (bs.all id))) g):EvP (f1 ZEe [.dat (.list (bs.map .bool))] g) P:=by
 refine ZL6 ?_ q;show ZEe _ g=_;unfold ZEe;show((ZAb (bs.map .bool)).map _)=_;rw[ZHI];rfl
end
theorem ZJv(n:Nat):ZFM n 0=(List.range n).map λj:Nat=>PyData.int (j:Int):=by
 unfold ZFM;refine map_congr_left λj _=>?_
 rw[Int.zero_add]
noncomputable def okR(d:PyData):Bool:=d.canLay0 && (d.showable && (!d.hasDict && (decide (d.depth<=40) && decide (d.shown.length<=1000000))))
noncomputable def ZJc:W->G->Option (W×G)
 |.dat (.tuple ds),g=>if okR (.tuple ds)=true then some (.dat (.str (PyData.tuple ds).shown),g) else none
 |_,_=>none
section
variable{X:Cx}
theorem ZLj(hu:X.A.units+64<cLine)(hg:X.A.guards=some []):ZN X (.builtin "repr") (rF X.K (f1 ZJc)):=by
 intro pins s σ H xs us Q I r h;obtain⟨ρ,ws,g,z,g',hR,rl,e,q⟩:=h;cases rl with
 |nil=>cases e
 |cons r1 t =>
  cases t with
  |cons _ _=>cases e
  |nil =>
   cases r1 with
   |@dat v d r1 =>
    cases r1 with
    |@tup a xs ds f t =>
     change (if okR (.tuple ds)=true then some (W.dat (.str (PyData.tuple ds).shown),g) else none)=some (z,g') at e
     split at e
     ·rename_i hz
      cases e;unfold okR at hz;simp only[Bool.and_eq_true,decide_eq_true_eq,Bool.not_eq_true'] at hz;obtain⟨h1,h2,h3,h4,h5⟩:=hz;obtain⟨u,rfl,ru⟩:=ZAk r;obtain⟨as,ra⟩:=(RelD.tup f t).reads I h1 ru;cases ru;refine repr_of_reads' ra h2 (λz=>by rw[h3] at z;cases z) hg (by omega) (λ_ _ z=>z) (λh' u tk kp=>?_) (le_trans h5 (by decide));exact⟨.str _,H,I.kept (t':=tk) kp,⟨u,rfl⟩,q.at hR (.dat (.str _))⟩
     ·cases e
    |_=>cases e
   |_=>cases e
theorem RelDL.ofStrs{K:PySem.W.Frag}{ρ : Rh}{H:Hp}:∀{ns:List Str},RelDL K ρ H (ns.map V.str) (ns.map .str)
 |[]=>.nil
 |n::ns=>.cons (.str n) RelDL.ofStrs
end
section
variable{X:Cx}
theorem ZK2(hc:X.calm=true):ZN X (.builtin "any") (λxs H Q=>∃(p:Addr) (ns:List Int),xs=[.ref p]/\SqT X.K H p (ns.map V.int)/\Q (.bl (ns.any λk=>k != 0)) H):=by
 intro pins s σ H xs us Q I r h;obtain⟨p,ns,rfl,hq,q⟩:=h;obtain⟨u,rfl,ru⟩:=ZAk r;cases ru;obtain⟨its,rv,pl,hz⟩:=I.tuple hq;have hlen:=rv.length;rw[length_map] at hlen;have hpl:p<s.heap.objs.size:=by
  obtain⟨o,e,_⟩:=pl;exact lt_size e
 refine call_any_walk (iter_tuple pl ⟨s.heap.objs.size,_,_,_,_,_,λi=>ns.getD i 0 != 0,rfl,Walks.tuple (A:=X.A.in1) (show X.A.in1.handled=none from I.ok.hd hc) s.heap.objs.size p (ne_of_lt hpl) its.toArray,?_,?_,λh' tk k=>?_⟩)
 ·exact⟨⟨_,get?_push_size _ rfl,rfl,rfl⟩,pl.push _⟩
 ·intro i v s' Q' E' hv hQ
  have hv':its[i]? = some v:=by simpa using hv
  have hi:i<ns.length:=by rw[hlen];exact(List.getElem?_eq_some_iff.mp hv').1
  obtain⟨u,hu,ru⟩:=rv.get (i:=i) (x:=V.int ns[i]) (by simp[hi]);rw[hv'] at hu;cases hu;obtain⟨t,rfl⟩:=ru;have e:ns.getD i 0=ns[i]:=by simp[List.getD,hi]
  dsimp only at hQ;rw[e] at hQ;exact PySem.P.truthy_int hQ
 ·have e:((List.range its.toArray.size).any λi=>ns.getD i 0 != 0)=ns.any λk=>k != 0:=by
   rw[Bool.eq_iff_iff,any_eq_true,any_eq_true];constructor
   ·rintro ⟨i,hi,z⟩
    have hi':i<ns.length:=by simpa [←hlen] using hi
    exact⟨ns[i],getElem_mem hi',by simpa [List.getD,hi'] using z⟩
   ·rintro ⟨b,hb,z⟩
    obtain⟨i,hi,rfl⟩:=List.mem_iff_getElem.mp hb;exact⟨i,by simp[←hlen,hi],by simpa [List.getD,hi] using z⟩
  rw[e];exact⟨.bl _,H,I.kept λb o q=>k b o (by simp;exact ne_of_lt (lt_size q)) (get?_push_of_some _ q),rfl,q⟩
noncomputable def ZFv:W->G->Option (W×G)
 |.dat (.tuple ds),g=>(ZAy ds).map λns=>(.dat (.bool (ns.any λk=>k != 0)),g)
 |w,g=>ZOv w g
theorem cAny2(hc:X.calm=true):ZN X (.builtin "any") (rF X.K (f1 ZFv)):=c1 ((ZLb hc).or (ZK2 hc)) λρ H g x w z g' Q hR r e q=>by
 have lists:ZOv w g=some (z,g')->(∃(p:Addr) (bs:List Bool),[x]=[V.ref p]/\SqL X.K H p (bs.map V.bl)/\Q (.bl (bs.any id)) H):=λe=>by
  obtain⟨ds,e1,e⟩:=bnd e;obtain⟨bs,e2,e⟩:=mp e;cases e;obtain⟨l,vs,rfl,h1,t1⟩:=Zc hR r e1;have:=ZDt t1 e2;subst this
  exact⟨l,bs,rfl,SqL.of h1,q.at hR (.dat (.bl _))⟩
 cases r with
 |ref h=>exact .inl (lists e)
 |ty=>exact .inl (lists e)
 |exc _=>exact .inl (lists e)
 |tup _ _=>exact .inl (lists e)
 |inp h=>exact .inl (lists e)
 |dat r =>
  cases r with
  |tup f t =>
   obtain⟨ns,e1,e⟩:=mp e;cases e;have:=ZAw t e1;subst this
   exact .inr ⟨_,ns,rfl,f.sq,q.at hR (.dat (.bl _))⟩
  |lst h n t=>exact .inl (lists e)
  |_=>exact .inl (lists e)
noncomputable def ZME(dl dk d:DE):DE:=λsd g=>(dl sd g).bind λl=>match l.1 with
 |.ref n=>if isL l.2 n=true then (dk sd l.2).bind λk=>(d sd k.2).bind λp=>match k.1,p.1 with
  |.dat (.int i),.dat x=>(lk p.2 n).bind λds=>if (0<=i/\i<=ds.length)/\ds.length<1000 then some (.dat .none,p.2.set n (.pl (ds.take i.toNat++x::ds.drop i.toNat))) else none
  |_,_=>none
  else none
 |_=>none
theorem ZQ8{o e1 e2:Expr}{dl dk d:DE}{apos cpos:Pos}(ho:PE X o (tE X.K dl))(hk:PE X e1 (tE X.K dk))(he:PE X e2 (tE X.K d))(hbase:attributeBase o "insert" X.env (eval o X.env)=eval o X.env:=by rfl)
  (hfew:((backTo cpos (starEach [e1,e2] X.env)).all (λ x=>!x.1) && (backToKw cpos (keywordEach [] X.env)).all (λ x=>x.1.isSome)
   && decide ([e1,e2].length+([]:List Keyword).length+(if ([]:List Keyword).isEmpty then 0 else 1)<30))=true:=by rfl)
  (hline:(apos.endLine == cpos.line)=true:=by rfl)(hs:starEach [e1,e2] X.env=(false,eval e1 X.env)::starEach [e2] X.env:=by rfl)(hs2:starEach [e2] X.env=(false,eval e2 X.env)::starEach [] X.env:=by rfl)(hplain:(backTo cpos (starEach [e2] X.env)).any (·.1)=false:=by rfl) :
  PE X (.Call (.Attribute o "insert" apos) [e1,e2] [] cpos) (tE X.K (ZME dl dk d)):=(ZHX PySem.F.plainAttrs_list PySem.F.slot_list_insert PySem.F.type_list_insert ZKR ho (ZCS hk (ZCS he ZEk hs2) hs) hbase hfew hline hs hplain).imp λσ H Q ⟨ρ,sd,g,x,g',r,e,q⟩=>by
 obtain⟨⟨y,g1⟩,e1,e⟩:=bnd e;refine⟨ρ,sd,g,y,g1,r,e1,λv H1 ρ1 s1 h1 r1=>?_⟩;cases r1 with
 |@ref la ln hn =>
  dsimp only at e
  split at e
  case isFalse=>cases e
  rename_i hil
  obtain⟨⟨p,g2⟩,e2,e⟩:=bnd e;obtain⟨⟨p3,g3⟩,e3,e⟩:=bnd e;obtain⟨vs0,h0⟩:=ZId hil h1 hn;refine⟨.inl ⟨rfl,_,SqL.of h0⟩,ρ1,sd,g1,[p,p3],g3,r.step s1 h1,by show(dk sd g1).bind _=_;rw[e2];show((d sd g2).bind _).map _=_;rw[e3];rfl,λvs H2 ρ2 s2 h2 r2=>?_⟩;cases r2 with
  |cons r2 t =>
   cases t with
   |cons r3 t =>
    cases t;cases r2 with
    |dat r2 =>
     cases r2 with
     |int i =>
      cases r3 with
      |dat r3 =>
       obtain⟨ds,e4,e⟩:=bnd e;dsimp only at e
       split at e
       ·rename_i hz
        cases e;obtain⟨a',us,k1,k2,k3⟩:=h2.at_ _ _ (ZDC e4);have hn2 : ρ2.c[ln]? = some la:=by
         obtain⟨rr,ee⟩:=s2.pre;rw[ee,getElem?_append_left (List.getElem?_eq_some_iff.mp hn).1];exact hn
        rw[hn2] at k1;cases k1;obtain⟨hw,sw⟩:=h2.write hn2 k2 ((k3.take i.toNat).append (.cons r3 (k3.drop i.toNat)));exact⟨_,us,i,_,rfl,rfl,k2,by rw[k3.length];exact hz.1,by rw[k3.length];exact hz.2,q _ _ ρ2 (s1.trans (s2.trans sw)) hw (.dat .non)⟩
       ·cases e
      |_=>cases e
     |_=>cases e
    |_=>cases e
 |dat r1=>cases r1 <;> cases e
 |_=>cases e
theorem ZJj{K:PySem.W.Frag}{ρ : Rh}{H:Hp}:∀{vs:List V} {ws:List W} {i:Nat} {w:W},RelL K ρ H vs ws->ws[i]? = some w->∃v,vs[i]? = some v/\Rel K ρ H v w
 |_,_,_,_,.nil,h=>by simp at h
 |_,_,0,_,.cons t _,h=>by cases h;exact⟨_,rfl,t⟩
 |_,_,i+1,_,.cons _ t,h=>ZJj (i:=i) t (by simpa using h)
theorem ZPC{o e1 e2:Expr}{dl dk d:DE}{apos cpos:Pos}(ho:JE X o dl)(hk:JE X e1 dk)(he:JE X e2 d)(hbase:attributeBase o "insert" X.env (eval o X.env)=eval o X.env:=by rfl)
  (hfew:((backTo cpos (starEach [e1,e2] X.env)).all (λ x=>!x.1) && (backToKw cpos (keywordEach [] X.env)).all (λ x=>x.1.isSome)
   && decide ([e1,e2].length+([]:List Keyword).length+(if ([]:List Keyword).isEmpty then 0 else 1)<30))=true:=by rfl)
  (hline:(apos.endLine == cpos.line)=true:=by rfl)(hs:starEach [e1,e2] X.env=(false,eval e1 X.env)::starEach [e2] X.env:=by rfl)(hs2:starEach [e2] X.env=(false,eval e2 X.env)::starEach [] X.env:=by rfl)(hplain:(backTo cpos (starEach [e2] X.env)).any (·.1)=false:=by rfl) :
  JE X (.Call (.Attribute o "insert" apos) [e1,e2] [] cpos) (ZME dl dk d):=⟨ZQ8 ho.h hk.h he.h hbase hfew hline hs hs2 hplain⟩
end
section
variable{sd:Sd}{g:G}{P:W->G->Prop}{d:DE}
theorem x_ins{dl dk:DE}(h:EvP (dl sd g) λl g1=>∃n,l=.ref n/\isL g1 n=true/\EvP (dk sd g1) λk g2=>∃i:Int,k=.dat (.int i)/\EvP (d sd g2) λx g3=>∃y,x=.dat y/\∃ds:List PyData,g3[n]? = some (.pl ds)/\((0<=i/\i<=ds.length)/\ds.length<1000)/\P (.dat .none) (g3.set n (.pl (ds.take i.toNat++y::ds.drop i.toNat)))):EvP (ZME dl dk d sd g) P:=by
 obtain⟨l,g1,e1,n,rfl,hil,k,g2,e2,i,rfl,x,g3,e3,y,rfl,ds,e4,hz,h⟩:=h;refine⟨_,_,?_,h⟩;unfold ZME;rw[e1];show(if isL g1 n=true then _ else _)=_;rw[if_pos hil];show(dk sd g1).bind _=_;rw[e2];show(d sd g2).bind _=_;rw[e3];show(lk g3 n).bind _=_;rw[ZJT e4];exact if_pos hz
end
section
variable{X:Cx}{pos:Pos}
noncomputable def ZHs(i j l:Nat)(a:DA):DS:=λsd g=>(a sd g).bind λp=>match p.1 with|[x,y,z]=>some (.nx (((sd.set l (some z)).set j (some y)).set i (some x)) p.2)|_=>none
theorem ZPW{i j l:Nat}{aa:DA}{D:Ends}{σ : St}{H:Hp}(h:tS X.K (ZHs i j l aa) D σ H):ZPm i j l (tA X.K aa) D σ H:=by
 obtain⟨ρ,sd,g,oo,r,e,q⟩:=h;obtain⟨⟨ws,g1⟩,e1,e⟩:=bnd e;refine⟨ρ,sd,g,ws,g1,r,e1,λvs H1 ρ1 s1 h1 r1=>?_⟩;cases r1 with
 |nil=>cases e
 |cons a t =>
  cases t with
  |nil=>cases e
  |cons b t =>
   cases t with
   |nil=>cases e
   |cons c t =>
    cases t with
    |nil=>cases e;exact⟨_,_,_,rfl,q _ H1 ρ1 s1 ((((r.step s1 h1).set c l).set b j).set a i)⟩
    |cons _ _=>cases e
theorem ZLu{i j l:Nat}{x y z:Str}{a b c:Expr}{aa:DA}{px py pz pt:Pos}{kt k2 pt2}(hc:X.calm=true)(hN:X.N.Nodup)(hi:X.N[i]? = some x)(hj:X.N[j]? = some y)(hl:X.N[l]? = some z)
  (hx:X.env.scope.names.lookup x=some .local)(hy:X.env.scope.names.lookup y=some .local)(hz:X.env.scope.names.lookup z=some .local)(ha:JA X [a,b,c] aa)
  (hw:swappedStores [.Tuple [.Name x px,.Name y py,.Name z pz] kt pt] (.Tuple [a,b,c] k2 pt2) X.env=pure (some [x,y,z]):=by rfl)
  (hs:swapsWithSole [.Tuple [.Name x px,.Name y py,.Name z pz] kt pt] (.Tuple [a,b,c] k2 pt2) pos.line X.env=pure false:=by rfl) :
  JS X (.Assign [.Tuple [.Name x px,.Name y py,.Name z pz] kt pt] (.Tuple [a,b,c] k2 pt2) pos) (ZHs i j l aa):=⟨(ZOr hc hN hi hj hl hx hy hz ha.h hw hs).imp λ_ _ _ h=>ZPW h⟩
theorem ZOT{i j:Nat}{x y:Str}{a b:Expr}{aa:DA}{px py pt:Pos}{kt k2 pt2}(hc:X.calm=true)(hN:X.N.Nodup)(hi:X.N[i]? = some x)(hj:X.N[j]? = some y)(hij:i≠j)
  (hx:X.env.scope.names.lookup x=some .local)(hy:X.env.scope.names.lookup y=some .local)(ha:JA X [a,b] aa)
  (hw:swappedStores [.Tuple [.Name x px,.Name y py] kt pt] (.Tuple [a,b] k2 pt2) X.env=pure (some [x,y]))
  (hs:swapsWithSole [.Tuple [.Name x px,.Name y py] kt pt] (.Tuple [a,b] k2 pt2) pos.line X.env=pure false:=by rfl) :
  JS X (.Assign [.Tuple [.Name x px,.Name y py] kt pt] (.Tuple [a,b] k2 pt2) pos) (ZLS i j aa):=⟨(ZSF hc hN hi hj hij hx hy ha.h hw hs).imp λ_ _ _ h=>ZRe h⟩
end
section
variable{sd:Sd}{g:G}{aa:DA}{PS':Out->Prop}
theorem ZRs{i j l:Nat}(h:EvP (aa sd g) λws g1=>∃x y z,ws=[x,y,z]/\PS' (.nx (((sd.set l (some z)).set j (some y)).set i (some x)) g1)):EvS (ZHs i j l aa sd g) PS':=by
 obtain⟨ws,g1,e1,x,y,z,rfl,h⟩:=h;exact⟨_,by unfold ZHs;rw[e1];rfl,h⟩
theorem x_par{i j:Nat}(h:EvP (aa sd g) λws g1=>∃x y,ws=[x,y]/\PS' (.nx ((sd.set i (some x)).set j (some y)) g1)):EvS (ZLS i j aa sd g) PS':=by
 obtain⟨ws,g1,e1,x,y,rfl,h⟩:=h;exact⟨_,by unfold ZLS;rw[e1];rfl,h⟩
end
section
variable{X:Cx}{pos:Pos}
noncomputable def ZGH(ws:List W)(g:G):Option (W×G):=if ws.length<=1000 then some (.ref g.length,g++[.rl ws]) else none
theorem ZNG{es:List Expr}{aa:DA}(h:PA X es (tA X.K aa)):PE X (.List es pos) (tE X.K (dF ZGH aa)):=(ZIL h).imp λσ H Q ⟨ρ,sd,g,x,g',r,e,q⟩=>by
 obtain⟨⟨ws,g1⟩,e1,e⟩:=bnd e;refine⟨ρ,sd,g,ws,g1,r,e1,λvs H1 ρ1 s1 h1 r1=>?_⟩;unfold ZGH at e
 split at e
 ·rename_i hz
  cases e;refine⟨by rw[r1.length];exact le_of_lt (ZS hz),λp hp=>?_⟩;obtain⟨hr2,st⟩:=h1.allocC hp (o:=.lst vs) (c:=.rl ws) λs=>⟨vs,ZC,r1.mono s⟩
  exact q _ _ _ (s1.trans st) hr2 (.ref (by show(ρ1.c++[p])[_]? = _;rw[←h1.len];simp))
 ·cases e
theorem ZKu{es:List Expr}{aa:DA}(h:JA X es aa):JE X (.List es pos) (dF ZGH aa):=⟨ZNG h.h⟩
noncomputable def ZHY(ws:List W)(g:G):Option (W×G):=if ws.length<=1000 then some (.tup ws,g) else none
theorem ZOb{es:List Expr}{aa:DA}{x1}(h:PA X es (tA X.K aa)):PE X (.Tuple es x1 pos) (tE X.K (dF ZHY aa)):=(ZIH h).imp λσ H Q ⟨ρ,sd,g,x,g',r,e,q⟩=>by
 obtain⟨⟨ws,g1⟩,e1,e⟩:=bnd e;refine⟨ρ,sd,g,ws,g1,r,e1,λvs H1 ρ1 s1 h1 r1=>?_⟩;unfold ZHY at e
 split at e
 ·rename_i hz
  cases e;refine⟨by rw[r1.length];exact le_of_lt (ZS hz),λp hp=>?_⟩;obtain⟨sm,hr2,hn⟩:=ZAO (o:=.tup vs) h1 hp;exact q _ _ ρ1 (s1.trans (.same sm)) hr2 (.tup (.inl ⟨.inl ZC,hn⟩) (r1.mono (.same sm)))
 ·cases e
theorem ZMV{es:List Expr}{aa:DA}{x1}(h:JA X es aa):JE X (.Tuple es x1 pos) (dF ZHY aa):=⟨ZOb h.h⟩
end
noncomputable def ZMU:W->Bool
 |.dat .none=>true
 |_=>false
noncomputable def ZPa:W->W->G->Option (W×G)
 |x,.dat .none,g=>some (.dat (.bool (ZMU x)),g)
 |_,_,_=>none
noncomputable def ZHa:W->W->G->Option (W×G)
 |x,.dat .none,g=>some (.dat (.bool !(ZMU x)),g)
 |_,_,_=>none
theorem ZFg{K:PySem.W.Frag}{ρ : Rh}{H:Hp}{x:V}{w:W}{v:Value}(r:Rel K ρ H x w)(rx:ZU x v):(v == Value.none)=ZMU w:=by
 cases r with
 |dat r =>
  cases r with
  |non=>cases rx;rfl
  |bl b=>cases rx;rfl
  |int i=>obtain⟨t,rfl⟩:=rx;rfl
  |str i=>obtain⟨t,rfl⟩:=rx;rfl
  |tup _ _=>cases rx;rfl
  |lst _ _ _=>cases rx;rfl
  |dct _ _=>cases rx;rfl
 |ref _=>cases rx;rfl
 |inp _=>cases rx;rfl
 |ty=>cases rx;rfl
 |exc _=>cases rx;rfl
 |tup _ _=>cases rx;rfl
section
variable{X:Cx}
theorem ZSO:OpR X (compareOp .Is) (rOp X.K ZPa):=by
 intro pins s σ H x y v u Q I rx ry h;obtain⟨ρ,a,b,g,z,g',hR,ra,rb,e,q⟩:=h;cases rb with
 |dat rb =>
  cases rb with
  |non =>
   cases e;cases ry;exact is_none_gen ⟨.bl _,H,I,by rw[ZFg ra rx];rfl,q.at hR (.dat (.bl _))⟩
  |_=>cases e
 |_=>cases e
theorem ZJJ:OpR X (compareOp .IsNot) (rOp X.K ZHa):=by
 intro pins s σ H x y v u Q I rx ry h;obtain⟨ρ,a,b,g,z,g',hR,ra,rb,e,q⟩:=h;cases rb with
 |dat rb =>
  cases rb with
  |non =>
   cases e;cases ry;exact isnot_none_gen ⟨.bl _,H,I,by rw[ZFg ra rx];rfl,q.at hR (.dat (.bl _))⟩
  |_=>cases e
 |_=>cases e
end
theorem bT{A B:Prop}(h:A):(true=true->A)/\(true=false->B):=⟨λ_=>h,λz=>by cases z⟩
theorem bF{A B:Prop}(h:B):(false=true->A)/\(false=false->B):=⟨(λz=>by cases z),λ_=>h⟩
noncomputable def ZBS(K:PySem.W.Frag)(x ql:Str)(st:Stmt)(f:Addr):Prop:=∃fd,Fun K x ql st f fd
theorem fnAt_mk{K:PySem.W.Frag}{x qual:Str}{st:Stmt}{f:Addr}{oc:Value}{od an:Option Addr}{osl:Array (Option Value)}{kV doc pm cdv ct:Value}(l:K.lookup f=some ⟨oc,od,.func (PySem.W.fnOf x qual (ZBr st) (ZAJ st) (ZF st) .none kV doc pm an cdv ct),osl⟩)
  (c:PySem.W.codeIn K cdv qual=true)(k:PySem.W.keepIn K (.ref f)=true):ZBS K x qual st f:=⟨_,ZMH l c k⟩
section
variable{X:Cx}
noncomputable def ZRA:V->List V->Hp->VK->Prop:=λx vs H Q=>∃(l:Addr) (ns:List Int) (k:Int),x=.ref l/\vs=[.int k]/\H l=some (.lst (ns.map V.int))/\Q (.int ((ns.count k:Nat):Int)) H
theorem ZLD:MtM X "list.count" ZRA:=by
 intro pins s σ H x vs v us Q I rx rv h;obtain⟨l,ns,k,rfl,rfl,hH,q⟩:=h;cases rx;obtain⟨u,rfl,ru⟩:=rv.one;obtain⟨t,rfl⟩:=ru;obtain⟨z,its,n,r,hl,e⟩:=I.lstM hH;refine count_list_ints (ns:=ns) (vs:=its) ⟨_,e,rfl,n,rfl⟩ (ZAI r) ?_;exact⟨.int _,H,I.tok _,⟨_,rfl⟩,q⟩
end
section
variable{K:PySem.W.Frag}{ρ ρ':Rh}{H:Hp}
mutual
theorem Rel.lessC(hc:∀(n:Nat) (a:Addr),ρ.c[n]? = some a->ρ'.c[n]? = some a)(s:∀a,ρ'.mem a->ρ.mem a):∀{v:V} {x:W},Rel K ρ H v x->Rel K ρ' H v x
 |_,_,.dat h=>.dat (h.less s)
 |_,_,.ref h=>.ref (hc _ _ h)
 |_,_,.inp h=>.inp (h.less s)
 |_,_,.ty=>.ty
 |_,_,.exc h=>.exc (h.less s)
 |_,_,.tup h t=>.tup (h.less s) (RelL.lessC hc s t)
theorem RelL.lessC(hc:∀(n:Nat) (a:Addr),ρ.c[n]? = some a->ρ'.c[n]? = some a)(s:∀a,ρ'.mem a->ρ.mem a):∀{vs:List V} {xs:List W},RelL K ρ H vs xs->RelL K ρ' H vs xs
 |_,_,.nil=>.nil
 |_,_,.cons h t=>.cons (Rel.lessC hc s h) (RelL.lessC hc s t)
end
theorem RelF.lessC(hc:∀(n:Nat) (a:Addr),ρ.c[n]? = some a->ρ'.c[n]? = some a)(s:∀a,ρ'.mem a->ρ.mem a):∀{ns:List Str} {vs:List (Str×V)} {xs:List W},RelF K ρ H ns vs xs->RelF K ρ' H ns vs xs
 |_,_,_,.nil=>.nil
 |_,_,_,.cons h t=>.cons (h.lessC hc s) (t.lessC hc s)
theorem RelK.lessC(hc:∀(n:Nat) (a:Addr),ρ.c[n]? = some a->ρ'.c[n]? = some a)(s:∀a,ρ'.mem a->ρ.mem a):∀{vs:List (Key×V)} {xs:List (Key×W)},RelK K ρ H vs xs->RelK K ρ' H vs xs
 |_,_,.nil=>.nil
 |_,_,.cons h t=>.cons (h.lessC hc s) (t.lessC hc s)
theorem Zv.lessC(hc:∀(n:Nat) (a:Addr),ρ.c[n]? = some a->ρ'.c[n]? = some a)(s:∀a,ρ'.mem a->ρ.mem a){a:Addr}{c:Cell}(h:Zv K ρ H a c):Zv K ρ' H a c:=by
 cases c with
 |pl ds=>obtain⟨vs,h1,h2⟩:=h;exact⟨vs,h1,h2.less s⟩
 |rl ws=>obtain⟨vs,h1,h2⟩:=h;exact⟨vs,h1,h2.lessC hc s⟩
 |dk ws=>obtain⟨vs,h1,h2⟩:=h;exact⟨vs,h1,h2.lessC hc s⟩
 |ob c fs=>obtain⟨C,dx,vs,h0,h1,h2⟩:=h;exact⟨C,dx,vs,h0,h1,h2.lessC hc s⟩
theorem HR.reveal{g:G}{D:Addr}{acc:List V}{ws:List W}{ρ1:Rh}{H1:Hp}(hD:H1 D=none)(hnh:D∉ρ.h)(h:HR K (ρ.hide D) H g)(st:Stp ρ1 H1 ρ H)(hacc:H D=some (.lst acc))(ra:RelL K (ρ.hide D) H acc ws):HR K (ρ.add D) H (g++[.rl ws])/\Stp ρ1 H1 (ρ.add D) H:=by
 have hc:∀(n:Nat) (a:Addr),(ρ.hide D).c[n]? = some a->(ρ.add D).c[n]? = some a:=λn a e=>by
  show(ρ.c++[D])[n]? = some a;have e : ρ.c[n]? = some a:=e;rw[getElem?_append_left (List.getElem?_eq_some_iff.mp e).1];exact e
 have hs:∀a,(ρ.add D).mem a->(ρ.hide D).mem a:=λa z=>by
  rcases z with z|z
  ·rcases List.mem_append.mp z with z|z
   ·exact .inl z
   ·exact .inr (by rw[List.mem_singleton.mp z];exact mem_cons_self ..)
  ·exact .inr (mem_cons_of_mem _ z)
 have hn:=(h.hid D (mem_cons_self ..)).1;have hn:D∉ρ.c:=hn;refine⟨⟨?_,?_,λn c e=>?_,λa z=>?_⟩,?_⟩
 ·show(ρ.c++[D]).length=_
  rw[length_append,length_append,show ρ.c.length=g.length from h.len];rfl
 ·show(ρ.c++[D]).Nodup
  rw[nodup_append];refine⟨h.nd,by simp,λa ha b hb z=>?_⟩;rw[List.mem_singleton.mp hb] at z;rw[z] at ha;exact hn ha
 ·by_cases hl:n<g.length
  ·rw[getElem?_append_left hl] at e
   obtain⟨a,h1,h2⟩:=h.ce n c e;exact⟨a,hc n a h1,h2.lessC hc hs⟩
  ·have hl2:n<(g++[Cell.rl ws]).length:=(List.getElem?_eq_some_iff.mp e).1
   have hn':n=g.length:=by rw[length_append] at hl2;simp at hl2;omega
   rw[hn',getElem?_append_right (le_refl _),sub_self] at e;cases e;refine⟨D,?_,acc,hacc,ra.lessC hc hs⟩;show(ρ.c++[D])[n]? = some D;rw[hn',←show ρ.c.length=g.length from h.len,getElem?_append_right (le_refl _),sub_self];rfl
 ·have z:a∈ρ.h:=z
  obtain⟨h1,o,h2⟩:=h.hid a (mem_cons_of_mem _ z);refine⟨λq=>?_,o,h2⟩;rcases List.mem_append.mp q with q|q
  ·exact h1 q
  ·rw[List.mem_singleton.mp q] at z;exact hnh z
 ·obtain⟨r,er⟩:=st.pre
  refine⟨⟨r++[D],by show ρ.c++[D]=_;rw[er,append_assoc]⟩,st.hid,st.frm,λa z=>?_,st.kd⟩;rcases List.mem_append.mp z with z|z
  ·exact st.fre a z
  ·rw[List.mem_singleton.mp z];exact .inr hD
end
noncomputable def Z0(src:Option Nat)(xs:List PyData)(pt:Pat)(dt:DB)(de:DE)(sd0:Sd):List PyData->G->Option (List W×G)
 |[],g=>some ([],g)
 |x::r,g=>(ZW pt (.dat x) sd0).bind λsd1=>(dt sd1 g).bind λb=>if b.1=true then (de sd1 b.2).bind λy=>ZAN src xs y.2 ((Z0 src xs pt dt de sd0 r y.2).map λq=>(y.1::q.1,q.2))
  else ZAN src xs b.2 (Z0 src xs pt dt de sd0 r b.2)
noncomputable def ZAi(own:Nat)(cap:List Nat)(pt:Pat)(di:DI)(dt:DB)(de:DE):DE:=λsd g=>(di sd g).bind λt=>if t.1.length<=1000 then (Z0 t.2.1 t.1 pt dt de (ZDI own cap sd) t.1 t.2.2).map λp=>(.ref p.2.length,p.2++[.rl p.1]) else none
section
variable{X:Cx}{tg elt iter:Expr}{ifs:List Expr}{scope sc:Scope}{pos:Pos}{di:DI}{pt:Pat}{dt:DB}{de:DE}{N NX:List Str}{own:Nat}{cap:List Nat}
theorem ZGY{src:Option Nat}{xs:List PyData}{sd0:Sd}{g2:G}:∀{r:List PyData} {ys:List W} {g:G},Z0 src xs pt dt de sd0 r g=some (ys,g2)->CRun (Zj src xs) pt dt de sd0 (r.map .dat) g ys g2
 |[],_,_,e=>by
  rw[Z0] at e;cases e;exact .nil
 |x::r,ys,g,e=>by
  rw[Z0] at e;obtain⟨sd1,e2,e⟩:=bnd e;obtain⟨⟨b,g3⟩,e3,e⟩:=bnd e;cases b with
  |false =>
   rw[if_neg Bool.false_ne_true] at e;obtain⟨so,e⟩:=ZAD e;exact .no e2 e3 so (ZGY e)
  |true =>
   rw[if_pos rfl] at e;obtain⟨⟨w,g4⟩,e4,e⟩:=bnd e;obtain⟨so,e⟩:=ZAD e;obtain⟨⟨ys',g5⟩,e6,e⟩:=mp e;cases e;exact .yes e2 e3 e4 so (ZGY e6)
theorem ZHS{K:PySem.W.Frag}{σ : St}{H:Hp}{Q:VK}(hp:pt.all (λi=>decide (i<own))=true)(h:tE K (ZAi own cap pt di dt de) σ H Q):ZFD own cap (tI K di) (gP K pt) (tT K dt) (tE K de) σ H Q:=by
 obtain⟨ρ,sd,g,x,gz,r,e,q⟩:=h;obtain⟨⟨xs,src,g1⟩,e1,e⟩:=bnd e;dsimp only at e
 split at e
 ·rename_i hz
  obtain⟨⟨zs,g2⟩,e2,e⟩:=mp e;cases e;refine⟨ρ,sd,g,xs,src,g1,r,e1,λJ H1 ρ1 s1 h1 ⟨so,it⟩ D hD=>ZDf hp (IO:=λρ H=>ItOk K ρ H J xs src) (λs i=>i.mono s) (λh i=>i.grow h) (λi h s=>i.useW h s) (by rw[length_map];exact hz) hD (ZEF (r.step s1 h1) own cap) (λi hi=>ZDO hi) so (it.hide hD) (ZGY e2) λacc H' ρ' s' hr hacc ra=>?_⟩;have hnh:D∉ρ1.h:=λz=>h1.nin hD (.inr z)
  obtain⟨hrv,srv⟩:=HR.reveal (H1:=H1) hD (by rw[s'.hid];exact hnh) hr s' hacc ra;refine q _ H' (ρ'.add D) (s1.trans srv) hrv (.ref ?_);show(ρ'.c++[D])[g2.length]? = some D;rw[←hr.shown.len,getElem?_append_right (le_refl _),sub_self];rfl
 ·cases e
theorem ZNH(hc:X.calm=true)(hi:PI X tg iter (tI X.K di))(hsc:X.env.scope=sc)(hNX:X.N=NX)
  (hb:∀cl C s0 H0 fp,PG (blk X N (compEnvC scope cl C X.env) s0 H0 fp) tg (gP X.K pt)/\PTs (blk X N (compEnvC scope cl C X.env) s0 H0 fp) ifs (tT X.K dt)/\PE (blk X N (compEnvC scope cl C X.env) s0 H0 fp) elt (tE X.K de))
  (co:ZBU sc scope NX N own cap=true)(hp:pt.all (λi=>decide (i<own))=true)(hs:∀x,foldedSetIterable iter X.env x=pure x:=by intro _;rfl):PE X (.ListComp elt [⟨tg,iter,ifs,0⟩] scope pos) (tE X.K (ZAi own cap pt di dt de)) :=
 (ZGt hc hi hsc hNX hb co hs).imp λ_ _ _ h=>ZHS hp h
theorem ZNF{i:Nat}{x:Str}{py spos:Pos}(hN:X.N.Nodup)(hi:X.N[i]? = some x)(hx:Loc X.env.scope x)(hc:X.calm=true)(hit:PI X tg iter (tI X.K di))(hsc:X.env.scope=sc)(hNX:X.N=NX)
  (hb:∀cl C s0 H0 fp,PG (blk X N (compEnvC scope cl C X.env) s0 H0 fp) tg (gP X.K pt)/\PTs (blk X N (compEnvC scope cl C X.env) s0 H0 fp) ifs (tT X.K dt)/\PE (blk X N (compEnvC scope cl C X.env) s0 H0 fp) elt (tE X.K de))
  (co:ZBU sc scope NX N own cap=true)(hp:pt.all (λi=>decide (i<own))=true)(hsw:swapsWith (.ListComp elt [⟨tg,iter,ifs,0⟩] scope pos) (some (.Name x py)) spos.line X.env=pure true:=by rfl)(hs:∀x,foldedSetIterable iter X.env x=pure x:=by intro _;rfl)
  (hf:X.fn x=true∨X.env.scope.names.lookup x=some .local:=by first|exact .inl rfl|exact .inr rfl|assumption) :
  PS X (.Assign [.Name x py] (.ListComp elt [⟨tg,iter,ifs,0⟩] scope pos) spos) (tS X.K (Zo i (ZAi own cap pt di dt de))):=(ZJl hN hi hx hc hit hsc hNX hb co hsw hs hf).imp λD σ H ⟨ρ,sd,g,o,r,e,q⟩=>by
 obtain⟨⟨y,g1⟩,e1,e⟩:=bnd e;cases e;exact ZHS hp ⟨ρ,sd,g,y,g1,r,e1,λv H1 ρ1 s1 h1 r1=>q _ H1 ρ1 s1 ((r.step s1 h1).set r1 i)⟩
theorem ZKk(hc:X.calm=true)(hi:JI X tg iter di)(hsc:X.env.scope=sc)(hNX:X.N=NX)(hb:∀cl C s0 H0 fp,JG (blk X N (compEnvC scope cl C X.env) s0 H0 fp) tg pt/\JTs (blk X N (compEnvC scope cl C X.env) s0 H0 fp) ifs dt/\JE (blk X N (compEnvC scope cl C X.env) s0 H0 fp) elt de)(co:ZBU sc scope NX N own cap=true)(hp:pt.all (λi=>decide (i<own))=true)(hs:∀x,foldedSetIterable iter X.env x=pure x:=by intro _;rfl):JE X (.ListComp elt [⟨tg,iter,ifs,0⟩] scope pos) (ZAi own cap pt di dt de):=⟨ZNH hc hi.h hsc hNX (λcl C s0 H0 fp=>⟨(hb cl C s0 H0 fp).1.h,(hb cl C s0 H0 fp).2.1.h,(hb cl C s0 H0 fp).2.2.h⟩) co hp hs⟩
theorem ZKi{i:Nat}{x:Str}{py spos:Pos}(hN:X.N.Nodup)(hi:X.N[i]? = some x)(hx:Loc X.env.scope x)(hc:X.calm=true)(hit:JI X tg iter di)(hsc:X.env.scope=sc)(hNX:X.N=NX)(hb:∀cl C s0 H0 fp,JG (blk X N (compEnvC scope cl C X.env) s0 H0 fp) tg pt/\JTs (blk X N (compEnvC scope cl C X.env) s0 H0 fp) ifs dt/\JE (blk X N (compEnvC scope cl C X.env) s0 H0 fp) elt de)(co:ZBU sc scope NX N own cap=true)(hp:pt.all (λi=>decide (i<own))=true)(hsw:swapsWith (.ListComp elt [⟨tg,iter,ifs,0⟩] scope pos) (some (.Name x py)) spos.line X.env=pure true:=by rfl)(hs:∀x,foldedSetIterable iter X.env x=pure x:=by intro _;rfl)(hf:X.fn x=true∨X.env.scope.names.lookup x=some .local:=by first|exact .inl rfl|exact .inr rfl|assumption):JS X (.Assign [.Name x py] (.ListComp elt [⟨tg,iter,ifs,0⟩] scope pos) spos) (Zo i (ZAi own cap pt di dt de)):=⟨ZNF hN hi hx hc hit.h hsc hNX (λcl C s0 H0 fp=>⟨(hb cl C s0 H0 fp).1.h,(hb cl C s0 H0 fp).2.1.h,(hb cl C s0 H0 fp).2.2.h⟩) co hp hsw hs hf⟩
end
section
variable{sd:Sd}{g:G}{P:W->G->Prop}
theorem ZJN{own:Nat}{cap:List Nat}{pt:Pat}{di:DI}{dt:DB}{de:DE}(h:EvI (di sd g) λxs src g1=>xs.length<=1000/\EvP (Z0 src xs pt dt de (ZDI own cap sd) xs g1) λws g2=>P (.ref g2.length) (g2++[.rl ws])):EvP (ZAi own cap pt di dt de sd g) P:=by
 obtain⟨xs,src,g1,e1,hl,ys,g2,e2,h⟩:=h;refine⟨_,_,?_,h⟩;unfold ZAi;rw[e1];show(if xs.length<=1000 then _ else _)=_;rw[if_pos hl];show(Z0 src xs pt dt de (ZDI own cap sd) xs g1).map _=_;rw[e2];rfl
theorem ZJS{src:Option Nat}{xs:List PyData}{pt:Pat}{dt:DB}{de:DE}{sd0:Sd}{Q:List W->G->Prop}(q:Q [] g):EvP (Z0 src xs pt dt de sd0 [] g) Q:=⟨_,_,rfl,q⟩
theorem ZG9{src:Option Nat}{xs:List PyData}{pt:Pat}{de:DE}{sd0 sd1:Sd}{x:PyData}{r:List PyData}{Q:List W->G->Prop}(e:ZW pt (.dat x) sd0=some sd1)(h:EvP (de sd1 g) λy g1=>Zj src xs g1/\EvP (Z0 src xs pt Zs de sd0 r g1) λws g2=>Q (y::ws) g2):EvP (Z0 src xs pt Zs de sd0 (x::r) g) Q:=by
 obtain⟨y,g1,e1,so,ws,g2,e2,q⟩:=h;refine⟨_,_,?_,q⟩;rw[Z0,e];show((de sd1 g).bind λy=>ZAN src xs y.2 ((Z0 src xs pt Zs de sd0 r y.2).map λq=>(y.1::q.1,q.2)))=_;rw[e1];show ZAN src xs g1 ((Z0 src xs pt Zs de sd0 r g1).map λq=>(y::q.1,q.2))=_;rw[ZAe so,e2];rfl
end
end L2
namespace L2
open PySem PySem.Spec PyProof.Rows H1
noncomputable abbrev DIW:=Sd->G->Option (List W×Nat×G)
noncomputable def ZKT(n:Nat)(ws:List W)(g:G):Prop:=g[n]? = some (.rl ws)
open Classical in
noncomputable def ZHQ{α : Type}(n:Nat)(ws:List W)(g:G)(k:Option α):Option α:=if ZKT n ws g then k else none
theorem ZFw{α : Type}{n:Nat}{ws:List W}{g:G}{k:Option α}{y : α}(h:ZHQ n ws g k=some y):ZKT n ws g/\k=some y:=by
 unfold ZHQ at h
 split at h
 ·exact⟨by assumption,h⟩
 ·cases h
theorem ZPX{α : Type}{n:Nat}{ws:List W}{g:G}{k:Option α}(h:ZKT n ws g):ZHQ n ws g k=k:=by
 unfold ZHQ;exact if_pos h
noncomputable def iRl(d:DE):DIW:=λsd g=>(d sd g).bind λt=>match t.1 with
 |.ref n=>match t.2[n]? with
  |some (.rl ws)=>some (ws,n,t.2)
  |_=>none
 |_=>none
noncomputable def ItW(K:PySem.W.Frag)(ρ : Rh)(J:It)(n:Nat):Prop:=∃a,ρ.c[n]? = some a/\J=Itl K a
section
variable{K:PySem.W.Frag}{ρ ρ':Rh}{H H':Hp}{J:It}{n:Nat}
theorem ItW.mono(s:Stp ρ H ρ' H')(h:ItW K ρ J n):ItW K ρ' J n:=by
 obtain⟨a,h1,h2⟩:=h;exact⟨a,ZDM s h1,h2⟩
theorem ItW.use{g:G}{ws:List W}(h:ItW K ρ J n)(h':HR K ρ H g)(so:ZKT n ws g):(∀(i:Nat) x,ws[i]? = some x->J.go i H/\∀v H2,J.yld i H v H2->Same H H2/\Rel K ρ H2 v x)/\∀i,ws.length<=i->J.stop i H:=by
 obtain⟨a,h,rfl⟩:=h;obtain⟨b,e1,vs,e2,tq⟩:=h'.ce n _ so;rw[h] at e1;cases e1;have hq:SqL K H a vs:=SqL.of e2;refine⟨λi x e=>?_,λi hi=>⟨vs,hq,by rw[tq.length];exact hi⟩⟩;obtain⟨v,e1,r1⟩:=ZJj tq e;refine⟨⟨vs,v,hq,e1⟩,λu H2 y=>?_⟩;obtain⟨rfl,y⟩:=y;have:=y vs hq;rw[e1] at this
 cases this
 exact⟨Same.refl _,r1⟩
end
noncomputable def tIW(K:PySem.W.Frag)(d:DIW):TI:=λσ H R=>∃ρ sd g xs src g',Rst K ρ H σ sd g/\d sd g=some (xs,src,g')/\∀J H' ρ',Stp ρ H ρ' H'->HR K ρ' H' g'->ZKT src xs g'/\ItW K ρ' J src->R J H'
theorem di_rl{X:Cx}{tg l:Expr}{d:DE}(hl:PE X l (tE X.K d)):PI X tg l (tIW X.K (iRl d)):=(ZFf hl).imp λσ H R ⟨ρ,sd,g,xs,src,g',r,e,q⟩=>by
 obtain⟨⟨y,g1⟩,e1,e⟩:=bnd e;refine⟨ρ,sd,g,y,g1,r,e1,λv H1 ρ1 s1 h1 r1=>?_⟩;cases r1 with
 |@ref a n h =>
  dsimp only at e
  split at e
  ·rename_i ws e2
   cases e;obtain⟨b,e3,vs,e4,tq⟩:=h1.ce _ _ e2;rw[h] at e3;cases e3;exact .inl ⟨_,rfl,⟨vs,SqL.of e4⟩,q _ H1 ρ1 s1 h1 ⟨e2,_,h,rfl⟩⟩
  ·cases e
 |ty=>cases e
 |exc _=>cases e
 |tup _ _=>cases e
 |inp h=>cases e
 |dat h=>cases e
noncomputable def ZAG(n:Nat)(xs:List W)(pt:Pat)(dt:DB)(de:DE)(sd0:Sd):List W->G->Option (List PyData×G)
 |[],g=>some ([],g)
 |x::r,g=>(ZW pt x sd0).bind λsd1=>(dt sd1 g).bind λb=>if b.1=true then (de sd1 b.2).bind λy=>match y.1 with
   |.dat d=>ZHQ n xs y.2 ((ZAG n xs pt dt de sd0 r y.2).map λq=>(d::q.1,q.2))
   |_=>none
  else ZHQ n xs b.2 (ZAG n xs pt dt de sd0 r b.2)
noncomputable def ZB2(own:Nat)(cap:List Nat)(pt:Pat)(di:DIW)(dt:DB)(de:DE):DE:=λsd g=>(di sd g).bind λt=>if t.1.length<=1000 then (ZAG t.2.1 t.1 pt dt de (ZDI own cap sd) t.1 t.2.2).map λp=>(.dat (.list p.1),p.2) else none
section
variable{X:Cx}{tg elt iter:Expr}{ifs:List Expr}{scope sc:Scope}{pos:Pos}{di:DIW}{pt:Pat}{dt:DB}{de:DE}{N NX:List Str}{own:Nat}{cap:List Nat}
theorem ZGn{n:Nat}{xs:List W}{sd0:Sd}{g2:G}:∀{r:List W} {ys:List PyData} {g:G},ZAG n xs pt dt de sd0 r g=some (ys,g2)->CRun (ZKT n xs) pt dt de sd0 r g (ys.map .dat) g2
 |[],_,_,e=>by
  rw[ZAG] at e;cases e;exact .nil
 |x::r,ys,g,e=>by
  rw[ZAG] at e;obtain⟨sd1,e2,e⟩:=bnd e;obtain⟨⟨b,g3⟩,e3,e⟩:=bnd e;cases b with
  |false =>
   rw[if_neg Bool.false_ne_true] at e;obtain⟨so,e⟩:=ZFw e;exact .no e2 e3 so (ZGn e)
  |true =>
   rw[if_pos rfl] at e;obtain⟨⟨w,g4⟩,e4,e⟩:=bnd e;dsimp only at e
   split at e
   ·obtain⟨so,e⟩:=ZFw e
    obtain⟨⟨ys',g5⟩,e6,e⟩:=mp e;cases e;exact .yes e2 e3 e4 so (ZGn e6)
   ·cases e
theorem ZNV{K:PySem.W.Frag}{σ : St}{H:Hp}{Q:VK}(hp:pt.all (λi=>decide (i<own))=true)(h:tE K (ZB2 own cap pt di dt de) σ H Q):ZFD own cap (tIW K di) (gP K pt) (tT K dt) (tE K de) σ H Q:=by
 obtain⟨ρ,sd,g,x,gz,r,e,q⟩:=h;obtain⟨⟨xs,src,g1⟩,e1,e⟩:=bnd e;dsimp only at e
 split at e
 ·rename_i hz
  obtain⟨⟨zs,g2⟩,e2,e⟩:=mp e;cases e;exact⟨ρ,sd,g,xs,src,g1,r,e1,λJ H1 ρ1 s1 h1 ⟨so,it⟩ D hD=>ZDf hp (IO:=λρ _=>ItW K ρ J src) (λs i=>i.mono s) (λ_ i=>i) (λi h s=>i.use h s) hz hD (ZEF (r.step s1 h1) own cap) (λi hi=>ZDO hi) so it (ZGn e2) λacc H' ρ' s' hr hacc ra=>ZGg hD h1 q s1 s' hr hacc ra⟩
 ·cases e
theorem ZMg(hc:X.calm=true)(hi:PI X tg iter (tIW X.K di))(hsc:X.env.scope=sc)(hNX:X.N=NX)
  (hb:∀cl C s0 H0 fp,PG (blk X N (compEnvC scope cl C X.env) s0 H0 fp) tg (gP X.K pt)/\PTs (blk X N (compEnvC scope cl C X.env) s0 H0 fp) ifs (tT X.K dt)/\PE (blk X N (compEnvC scope cl C X.env) s0 H0 fp) elt (tE X.K de))
  (co:ZBU sc scope NX N own cap=true)(hp:pt.all (λi=>decide (i<own))=true)(hs:∀x,foldedSetIterable iter X.env x=pure x:=by intro _;rfl):PE X (.ListComp elt [⟨tg,iter,ifs,0⟩] scope pos) (tE X.K (ZB2 own cap pt di dt de)) :=
 (ZGt hc hi hsc hNX hb co hs).imp λ_ _ _ h=>ZNV hp h
structure JIW (X:Cx) (tg iter:Expr) (d:DIW):Prop where
 h:PI X tg iter (tIW X.K d)
theorem ZP7{l:Expr}{d:DE}(hl:JE X l d):JIW X tg l (iRl d):=⟨di_rl hl.h⟩
theorem ZKf(hc:X.calm=true)(hi:JIW X tg iter di)(hsc:X.env.scope=sc)(hNX:X.N=NX)(hb:∀cl C s0 H0 fp,JG (blk X N (compEnvC scope cl C X.env) s0 H0 fp) tg pt/\JTs (blk X N (compEnvC scope cl C X.env) s0 H0 fp) ifs dt/\JE (blk X N (compEnvC scope cl C X.env) s0 H0 fp) elt de)(co:ZBU sc scope NX N own cap=true)(hp:pt.all (λi=>decide (i<own))=true)(hs:∀x,foldedSetIterable iter X.env x=pure x:=by intro _;rfl):JE X (.ListComp elt [⟨tg,iter,ifs,0⟩] scope pos) (ZB2 own cap pt di dt de):=⟨ZMg hc hi.h hsc hNX (λcl C s0 H0 fp=>⟨(hb cl C s0 H0 fp).1.h,(hb cl C s0 H0 fp).2.1.h,(hb cl C s0 H0 fp).2.2.h⟩) co hp hs⟩
end
section
variable{sd:Sd}{g:G}{P:W->G->Prop}
theorem ZOK{own:Nat}{cap:List Nat}{pt:Pat}{d:DE}{dt:DB}{de:DE}(h:EvP (d sd g) λl g1=>∃n,l=.ref n/\∃ws,g1[n]? = some (.rl ws)/\ws.length<=1000/\EvP (ZAG n ws pt dt de (ZDI own cap sd) ws g1) λys g2=>P (.dat (.list ys)) g2):EvP (ZB2 own cap pt (iRl d) dt de sd g) P:=by
 obtain⟨l,g1,e1,n,rfl,ws,e2,hl,ys,g2,e3,h⟩:=h;refine⟨_,_,?_,h⟩;unfold ZB2 iRl;rw[e1];show Option.bind (match g1[n]? with|some (.rl ws)=>some (ws,n,g1)|_=>none) _=_;rw[e2];show(if ws.length<=1000 then _ else _)=_;rw[if_pos hl];show(ZAG n ws pt dt de (ZDI own cap sd) ws g1).map _=_;rw[e3];rfl
theorem ZO7{n:Nat}{xs:List W}{pt:Pat}{dt:DB}{de:DE}{sd0:Sd}{Q:List PyData->G->Prop}(q:Q [] g):EvP (ZAG n xs pt dt de sd0 [] g) Q:=⟨_,_,rfl,q⟩
theorem ZLN{n:Nat}{xs:List W}{pt:Pat}{de:DE}{sd0 sd1:Sd}{x:W}{r:List W}{Q:List PyData->G->Prop}(e:ZW pt x sd0=some sd1)(h:EvP (de sd1 g) λy g1=>∃d,y=.dat d/\g1[n]? = some (.rl xs)/\EvP (ZAG n xs pt Zs de sd0 r g1) λws g2=>Q (d::ws) g2):EvP (ZAG n xs pt Zs de sd0 (x::r) g) Q:=by
 obtain⟨y,g1,e1,d,rfl,so,ws,g2,e2,q⟩:=h;refine⟨_,_,?_,q⟩;rw[ZAG,e];show((de sd1 g).bind λy=>match y.1 with|.dat d=>ZHQ n xs y.2 ((ZAG n xs pt Zs de sd0 r y.2).map λq=>(d::q.1,q.2))|_=>none)=_;rw[e1];show ZHQ n xs g1 ((ZAG n xs pt Zs de sd0 r g1).map λq=>(d::q.1,q.2))=_;rw[ZPX so,e2];rfl
end
end L2
namespace L2
open PySem PySem.Spec PyProof.Rows H1
noncomputable def ZHE:PyData->Option Key
 |.int i=>some (.inl i)
 |.str x=>some (.inr x)
 |_=>none
noncomputable def ZAo:List (Key×W)->Option (List Int)
 |[]=>some []
 |(.inl i,_)::r=>(ZAo r).map λns=>i::ns
 |_::_=>none
noncomputable def ZJH:W->G->Option (W×G)
 |.ref n,g=>match g[n]? with
  |some (.dk kvs)=>(ZAo kvs).bind λns=>if ns.length<64 then some (.dat (.list ((ZAf ns).map .int)),g) else none
  |_=>none
 |_,_=>none
section
variable{X:Cx}{K:PySem.W.Frag}{ρ : Rh}{H:Hp}
theorem RelK.put{k:Key}{v:V}{x:W}(t:Rel K ρ H v x){vs:List (Key×V)}{ws:List (Key×W)}(r:RelK K ρ H vs ws):RelK K ρ H (ZBW vs k v) (ZBW ws k x):=by
 have ha:(vs.any λkv=>decide (kv.1=k))=ws.any λkv=>decide (kv.1=k):=by
  induction r with
  |nil=>rfl
  |cons h t ih=>rw[any_cons,any_cons,ih]
 unfold ZBW;rw[ha]
 split
 ·rename_i h
  clear ha h
  induction r with
  |nil=>exact .nil
  |@cons k' v' x' vs xs h q ih =>
   rw[map_cons,map_cons]
   by_cases e:k'=k
   ·rw[if_pos (show(k',v').1=k from e),if_pos (show(k',x').1=k from e)];exact .cons t ih
   ·rw[if_neg (show ¬(k',v').1=k from e),if_neg (show ¬(k',x').1=k from e)];exact .cons h ih
 ·clear ha
  rename_i h
  clear h
  induction r with
  |nil=>exact .cons t .nil
  |cons h q ih=>exact .cons h ih
theorem ZFy:∀{vs:List (Key×V)} {kvs:List (Key×W)} {ns:List Int},RelK K ρ H vs kvs->ZAo kvs=some ns->vs.map (·.1)=ns.map Sum.inl
 |_,_,_,.nil,e=>by cases e;rfl
 |_,_,_,.cons (k:=.inl i) h t,e=>by
  rw[ZAo] at e;obtain⟨ms,e1,rfl⟩:=mp e;rw[map_cons,map_cons,ZFy t e1]
 |_,_,_,.cons (k:=.inr i) h t,e=>by cases e
theorem cSrtD(hc:X.calm=true):ZN X (.builtin "sorted") (rF X.K (f1 ZJH)):=c1 (ZGS hc) λρ H g x w z g' Q hR r e q=>by
 unfold ZJH at e
 split at e
 ·rename_i n g
  split at e
  ·rename_i kvs e1
   obtain⟨ns,e2,e⟩:=bnd e
   split at e
   ·rename_i hz
    cases e;cases r with
    |ref h =>
     obtain⟨a,k1,vs,k2,k3⟩:=hR.ce _ _ e1;rw[h] at k1;cases k1;refine⟨_,vs,ns,rfl,k2,ZFy k3 e2,hz,λp ms hp pm pw=>?_⟩;rw[ZET pm pw];exact q.new hR RelDL.ofInts hp
   ·cases e
  ·cases e
 ·cases e
end
theorem HR.toPl{K:PySem.W.Frag}{ρ : Rh}{H:Hp}{g:G}{n:Nat}{ws:List W}{ds:List PyData}(h:HR K ρ H g)(e:g[n]? = some (.rl ws))(d:dats ws=some ds):HR K ρ H (g.set n (.pl ds)):=⟨by rw[length_set];exact h.len,h.nd,λm c q=>by
 by_cases hm:n=m
 ·subst hm
  rw[getElem?_set_self (List.getElem?_eq_some_iff.mp e).1] at q;cases q;obtain⟨a,h1,vs,h2,h3⟩:=h.ce n _ e;exact⟨a,h1,vs,h2,ZDF h3 d⟩
 ·rw[getElem?_set_ne hm] at q
  exact h.ce m c q,h.hid⟩
noncomputable def dPl(d:DE):DE:=λsd g=>(d sd g).bind λp=>match p.1 with
 |.ref n=>match p.2[n]? with
  |some (.rl ws)=>(dats ws).map λds=>(.ref n,p.2.set n (.pl ds))
  |_=>none
 |_=>none
theorem ZQL{X:Cx}{e:Expr}{d:DE}(h:JE X e d):JE X e (dPl d):=⟨h.h.imp λσ H Q ⟨ρ,sd,g,x,g',r,e,q⟩=>by
 obtain⟨⟨y,g1⟩,e1,e⟩:=bnd e;cases y with
 |ref n =>
  dsimp only at e
  split at e
  ·rename_i ws e2
   obtain⟨ds,e3,e⟩:=mp e;cases e;exact⟨ρ,sd,g,_,g1,r,e1,λv H' ρ' s h r=>q v H' ρ' s (h.toPl e2 e3) r⟩
  ·cases e
 |_=>cases e⟩
theorem ZHH:∀ds:List PyData,dats (ds.map .dat)=some ds
 |[]=>rfl
 |d::r=>by rw[map_cons,dats,ZHH r];rfl
theorem x_pl{sd:Sd}{g:G}{P:W->G->Prop}{d:DE}(h:EvP (d sd g) λx g1=>∃n,x=.ref n/\∃ds:List PyData,g1[n]? = some (.rl (ds.map .dat))/\P (.ref n) (g1.set n (.pl ds))):EvP (dPl d sd g) P:=by
 obtain⟨x,g1,e1,n,rfl,ds,e2,h⟩:=h;refine⟨_,_,?_,h⟩;unfold dPl;rw[e1];show(match g1[n]? with|some (.rl ws)=>(dats ws).map λds=>(W.ref n,g1.set n (.pl ds))|_=>none)=_;rw[e2];show(dats (ds.map .dat)).map _=_;rw[ZHH];rfl
section
variable{X:Cx}{K:PySem.W.Frag}{ρ : Rh}{H:Hp}
theorem ZKm{d:PyData}{v:V}{k:Key}(r:RelD K ρ H v d)(e:ZHE d=some k):v=kV k:=by
 cases r with
 |int i=>cases e;rfl
 |str x=>cases e;rfl
 |_=>cases e
end
theorem ZQF{P:List Value->Prop}{n:Nat}(h:∀a us,us.length=n->P (a::us)):∀us:List Value,us.length=n+1->P us
 |a::us,e=>h a us (Nat.succ.inj e)
theorem ZSQ{P:List Value->Prop}(h:∀a,P [a]):∀us:List Value,us.length=1->P us:=ZQF λa us e=>by rw[List.length_eq_zero_iff.mp e];exact h a
theorem ZSY{P:List Value->Prop}(h:∀a b,P [a,b]):∀us:List Value,us.length=2->P us:=ZQF λa=>ZSQ (h a)
theorem len3{P:List Value->Prop}(h:∀a b c,P [a,b,c]):∀us:List Value,us.length=3->P us:=ZQF λa=>ZSY (h a)
noncomputable def tgN0:Expr->List Str
 |.Name x _=>[x]
 |_=>[]
noncomputable def tgN1:Expr->List Str
 |.Name x _=>[x]
 |.Tuple es _ _=>es.flatMap tgN0
 |_=>[]
noncomputable def tgN:Expr->List Str
 |.Name x _=>[x]
 |.Tuple es _ _=>es.flatMap tgN1
 |_=>[]
section
variable{X:Cx}{tg elt iter:Expr}{ifs:List Expr}{scope sc:Scope}{pos:Pos}{di:DI}{pt:Pat}{dt:DB}{de:DE}{own:Nat}{cap:List Nat}
theorem ZKb(hc:X.calm=true)(hi:JI X tg iter di)(hb:∀cl C s0 H0 fp,JG (blk X (tgN tg++cap.map λi=>X.N.getD i "") (compEnvC scope cl C X.env) s0 H0 fp) tg pt/\JTs (blk X (tgN tg++cap.map λi=>X.N.getD i "") (compEnvC scope cl C X.env) s0 H0 fp) ifs dt/\JE (blk X (tgN tg++cap.map λi=>X.N.getD i "") (compEnvC scope cl C X.env) s0 H0 fp) elt de)(co:ZBU X.env.scope scope X.N (tgN tg++cap.map λi=>X.N.getD i "") own cap=true)(hp:pt.all (λi=>decide (i<own))=true)(hs:∀x,foldedSetIterable iter X.env x=pure x:=by intro _;rfl):JE X (.ListComp elt [⟨tg,iter,ifs,0⟩] scope pos) (Z4 own cap pt di dt de):=ZHm hc hi rfl rfl hb co hp hs
theorem ZKB{i:Nat}{x:Str}{py spos:Pos}(hN:X.N.Nodup)(hi:X.N[i]? = some x)(hx:Loc X.env.scope x)(hc:X.calm=true)(hit:JI X tg iter di)(hb:∀cl C s0 H0 fp,JG (blk X (tgN tg++cap.map λi=>X.N.getD i "") (compEnvC scope cl C X.env) s0 H0 fp) tg pt/\JTs (blk X (tgN tg++cap.map λi=>X.N.getD i "") (compEnvC scope cl C X.env) s0 H0 fp) ifs dt/\JE (blk X (tgN tg++cap.map λi=>X.N.getD i "") (compEnvC scope cl C X.env) s0 H0 fp) elt de)(co:ZBU X.env.scope scope X.N (tgN tg++cap.map λi=>X.N.getD i "") own cap=true)(hp:pt.all (λi=>decide (i<own))=true)(hsw:swapsWith (.ListComp elt [⟨tg,iter,ifs,0⟩] scope pos) (some (.Name x py)) spos.line X.env=pure true:=by rfl)(hs:∀x,foldedSetIterable iter X.env x=pure x:=by intro _;rfl)(hf:X.fn x=true∨X.env.scope.names.lookup x=some .local:=by first|exact .inl rfl|exact .inr rfl|assumption):JS X (.Assign [.Name x py] (.ListComp elt [⟨tg,iter,ifs,0⟩] scope pos) spos) (Zo i (Z4 own cap pt di dt de)):=ZMM hN hi hx hc hit rfl rfl hb co hp hsw hs hf
theorem ZIT(hc:X.calm=true)(hi:JI X tg iter di)(hb:∀cl C s0 H0 fp,JG (blk X (tgN tg++cap.map λi=>X.N.getD i "") (compEnvC scope cl C X.env) s0 H0 fp) tg pt/\JTs (blk X (tgN tg++cap.map λi=>X.N.getD i "") (compEnvC scope cl C X.env) s0 H0 fp) ifs dt/\JE (blk X (tgN tg++cap.map λi=>X.N.getD i "") (compEnvC scope cl C X.env) s0 H0 fp) elt de)(co:ZBU X.env.scope scope X.N (tgN tg++cap.map λi=>X.N.getD i "") own cap=true)(hp:pt.all (λi=>decide (i<own))=true)(hs:∀x,foldedSetIterable iter X.env x=pure x:=by intro _;rfl):JE X (.ListComp elt [⟨tg,iter,ifs,0⟩] scope pos) (ZAi own cap pt di dt de):=ZKk hc hi rfl rfl hb co hp hs
theorem ZH4{i:Nat}{x:Str}{py spos:Pos}(hN:X.N.Nodup)(hi:X.N[i]? = some x)(hx:Loc X.env.scope x)(hc:X.calm=true)(hit:JI X tg iter di)(hb:∀cl C s0 H0 fp,JG (blk X (tgN tg++cap.map λi=>X.N.getD i "") (compEnvC scope cl C X.env) s0 H0 fp) tg pt/\JTs (blk X (tgN tg++cap.map λi=>X.N.getD i "") (compEnvC scope cl C X.env) s0 H0 fp) ifs dt/\JE (blk X (tgN tg++cap.map λi=>X.N.getD i "") (compEnvC scope cl C X.env) s0 H0 fp) elt de)(co:ZBU X.env.scope scope X.N (tgN tg++cap.map λi=>X.N.getD i "") own cap=true)(hp:pt.all (λi=>decide (i<own))=true)(hsw:swapsWith (.ListComp elt [⟨tg,iter,ifs,0⟩] scope pos) (some (.Name x py)) spos.line X.env=pure true:=by rfl)(hs:∀x,foldedSetIterable iter X.env x=pure x:=by intro _;rfl)(hf:X.fn x=true∨X.env.scope.names.lookup x=some .local:=by first|exact .inl rfl|exact .inr rfl|assumption):JS X (.Assign [.Name x py] (.ListComp elt [⟨tg,iter,ifs,0⟩] scope pos) spos) (Zo i (ZAi own cap pt di dt de)):=ZKi hN hi hx hc hit rfl rfl hb co hp hsw hs hf
end
section
variable{X:Cx}{tg elt iter:Expr}{ifs:List Expr}{scope sc:Scope}{pos:Pos}{di:DIW}{pt:Pat}{dt:DB}{de:DE}{own:Nat}{cap:List Nat}
theorem ZIU(hc:X.calm=true)(hi:JIW X tg iter di)(hb:∀cl C s0 H0 fp,JG (blk X (tgN tg++cap.map λi=>X.N.getD i "") (compEnvC scope cl C X.env) s0 H0 fp) tg pt/\JTs (blk X (tgN tg++cap.map λi=>X.N.getD i "") (compEnvC scope cl C X.env) s0 H0 fp) ifs dt/\JE (blk X (tgN tg++cap.map λi=>X.N.getD i "") (compEnvC scope cl C X.env) s0 H0 fp) elt de)(co:ZBU X.env.scope scope X.N (tgN tg++cap.map λi=>X.N.getD i "") own cap=true)(hp:pt.all (λi=>decide (i<own))=true)(hs:∀x,foldedSetIterable iter X.env x=pure x:=by intro _;rfl):JE X (.ListComp elt [⟨tg,iter,ifs,0⟩] scope pos) (ZB2 own cap pt di dt de):=ZKf hc hi rfl rfl hb co hp hs
end
noncomputable def ZPt:DE:=λ_ g=>some (.ref g.length,g++[.dk []])
noncomputable def ZJw(dl di d:DE):DS:=λsd g=>(d sd g).bind λv=>(dl sd v.2).bind λl=>(di sd l.2).bind λi=>match l.1,i.1 with
 |.ref n,.dat k=>match i.2[n]? with
  |some (.dk kvs)=>(ZHE k).bind λq=>if kvs.length<1000 then some (.nx sd (i.2.set n (.dk (ZBW kvs q v.1)))) else none
  |_=>none
 |_,_=>none
theorem ZHg{K:PySem.W.Frag}{ρ : Rh}{H:Hp}:∀{vs:List (Key×V)} {ws:List (Key×W)},RelK K ρ H vs ws->vs.length=ws.length
 |_,_,.nil=>rfl
 |_,_,.cons _ t=>by rw[length_cons,length_cons,ZHg t]
section
variable{X:Cx}
theorem ZNB{pos:Pos}:JE X (.Dict [] [] pos) ZPt:=⟨ZPO.imp λσ H Q ⟨ρ,sd,g,x,g',r,e,q⟩=>by
 cases e;intro p hp;obtain⟨hr2,st⟩:=r.hr.allocC hp (o:=.dK []) (c:=.dk []) λs=>⟨[],ZC,.nil⟩
 exact q _ _ _ st hr2 (.ref (by show(ρ.c++[p])[_]? = _;rw[←r.hr.len];simp))⟩
theorem ZLL{o i e:Expr}{dl di d:DE}{pos tpos:Pos}(he:JE X e d)(ho:JE X o dl)(hi:JE X i di)(ha:∀v,assign (.Subscript o i tpos) X.env v=(do
   let ov ←holding [v] (eval o X.env)
   let iv ←holding [v,ov] (eval i X.env)
   standAt tpos
   holding [v,ov,iv] (setItem ov iv v)
   release [v,ov,iv] []):=by intro _;rfl) (hs:swapsWithSole [.Subscript o i tpos] e pos.line X.env=pure false:=by rfl) (hw:swappedStores [.Subscript o i tpos] e X.env=pure none:=by rfl)
  (h1:(assignEach [.Subscript o i tpos] X.env).map (·.2)=[assign (.Subscript o i tpos) X.env]:=by rfl):JS X (.Assign [.Subscript o i tpos] e pos) (ZJw dl di d):=⟨(ZGP he.h (ZGx ho.h hi.h ZRF ha) hs hw h1).imp λD σ H ⟨ρ,sd,g,oo,r,e,q⟩=>by
 obtain⟨⟨y,g1⟩,e1,e⟩:=bnd e;obtain⟨⟨l,g2⟩,e2,e⟩:=bnd e;obtain⟨⟨k,g3⟩,e3,e⟩:=bnd e;refine⟨ρ,sd,g,y,g1,r,e1,λv H1 ρ1 s1 h1 r1=>⟨ρ1,sd,g1,l,g2,r.step s1 h1,e2,λu H2 ρ2 s2 h2 r2=>⟨ρ2,sd,g2,k,g3,r.step (s1.trans s2) h2,e3,λt H3 ρ3 s3 h3 r3=>?_⟩⟩⟩;have r1':=(r1.mono s2).mono s3;have r2':=r2.mono s3;have sall:=s1.trans (s2.trans s3);cases r2' with
 |@ref la ln hn =>
  cases r3 with
  |dat r3 =>
   dsimp only at e
   split at e
   ·rename_i kvs e4
    obtain⟨k,e5,e⟩:=bnd e
    split at e
    ·rename_i hz
     cases e;obtain⟨a',k1,us,k2,k3⟩:=h3.ce _ _ e4;rw[hn] at k1;cases k1;have hl:us.length=kvs.length:=ZHg k3;obtain⟨hw,sw⟩:=h3.writeC hn (o:=.dK (ZBW us k v)) (c:=.dk (ZBW kvs k y)) (λu e=>by rw[k2] at e;cases e;rfl) (λs=>⟨_,ZC,(k3.put r1').mono s⟩);exact⟨la,us,k,rfl,ZKm r3 e5,k2,by rw[hl];exact hz,q σ _ ρ3 (sall.trans sw) (r.step (sall.trans sw) hw)⟩
    ·cases e
   ·cases e
  |_=>cases e
 |_=>cases e⟩
end
section
variable{sd:Sd}{g:G}{P:W->G->Prop}{PS':Out->Prop}{dl di d:DE}
theorem ZPx(h:EvP (d sd g) λv g1=>EvP (dl sd g1) λl g2=>∃n,l=.ref n/\EvP (di sd g2) λi g3=>∃k q kvs,i=.dat k/\g3[n]? = some (.dk kvs)/\ZHE k=some q/\kvs.length<1000/\PS' (.nx sd (g3.set n (.dk (ZBW kvs q v))))):EvS (ZJw dl di d sd g) PS':=by
 obtain⟨v,g1,e1,l,g2,e2,n,rfl,i,g3,e3,k,q,kvs,rfl,e4,e5,e6,h⟩:=h;refine⟨_,?_,h⟩;unfold ZJw;rw[e1];show(dl sd g1).bind _=_;rw[e2];show(di sd g2).bind _=_;rw[e3];show(match g3[n]? with|some (.dk kvs)=>(ZHE k).bind λq=>if kvs.length<1000 then some (Out.nx sd (g3.set n (.dk (ZBW kvs q v)))) else none|_=>none)=_;rw[e4];show(ZHE k).bind _=_;rw[e5];exact if_pos e6
theorem ZQQ{n:Nat}{kvs:List (Key×W)}{ns:List Int}(hn:g[n]? = some (.dk kvs))(hk:ZAo kvs=some ns)(hl:ns.length<64)(q:P (.dat (.list ((ZAf ns).map .int))) g):EvP (f1 ZJH [.ref n] g) P:=by
 refine ZL6 ?_ q;show(match g[n]? with|some (.dk kvs)=>(ZAo kvs).bind λns=>if ns.length<64 then some (W.dat (.list ((ZAf ns).map .int)),g) else none|_=>none)=_;rw[hn];show(ZAo kvs).bind _=_;rw[hk];exact if_pos hl
end
theorem ZGm:∀ns:List Int,ZAy (ns.map .int)=some ns
 |[]=>rfl
 |n::ns=>by rw[map_cons,ZAy,ZGm ns];rfl
end L2
namespace L2
open PySem PySem.Spec PyProof.Rows H1 PySem.SeqAt
noncomputable def ZKE:List PyData->Option (List Str)
 |[]=>some []
 |.str s::r=>(ZKE r).map (s::·)
 |_::_=>none
theorem ZI6:∀{ds:List PyData} {ss:List Str},ZKE ds=some ss->ds=ss.map .str
 |[],_,e=>by cases e;rfl
 |.str s::r,_,e=>by
  obtain⟨ts,e1,rfl⟩:=mp e;rw[ZI6 e1];rfl
 |.none::_,_,e=>by cases e
 |.bool _::_,_,e=>by cases e
 |.int _::_,_,e=>by cases e
 |.list _::_,_,e=>by cases e
 |.tuple _::_,_,e=>by cases e
 |.dict _::_,_,e=>by cases e
theorem ZHL:∀{ss:List Str},ZKE (ss.map .str)=some ss
 |[]=>rfl
 |s::r=>by show(ZKE (r.map .str)).map _=_;rw[ZHL];rfl
end L2
namespace L2
open PySem PySem.Spec PyProof.Rows H1
inductive OutX where
 |no (o:Out)
 |ex (nm:Str) (t:Option Int) (g:G)
noncomputable abbrev DX:=Sd->G->Option OutX
noncomputable def Xw(K:PySem.W.Frag)(ρ : Rh)(H:Hp)(E:XK)(nm:Str)(t:Option Int)(g:G):Prop:=∀x H' ρ',Stp ρ H ρ' H'->HR K ρ' H' g->Rel K ρ' H' (.ref x) (.exc nm t)->H x=none->E (.ref x) none H'
theorem Stp.none{ρ ρ':Rh}{H H':Hp}{x:Addr}(s:Stp ρ H ρ' H')(h:H' x=none):H x=none:=by
 cases e:H x with
 |none=>rfl
 |some o=>obtain⟨o',e1,_⟩:=s.kd x o e;rw[h] at e1;cases e1
theorem Xw.step{K:PySem.W.Frag}{ρ ρ1:Rh}{H H1:Hp}{E:XK}{nm:Str}{t:Option Int}{g:G}(h:Xw K ρ H E nm t g)(s:Stp ρ H ρ1 H1):Xw K ρ1 H1 E nm t g:=λx H' ρ' s' hr r n=>h x H' ρ' (s.trans s') hr r (s.none n)
noncomputable def ZEv(K:PySem.W.Frag)(ρ : Rh)(H:Hp)(D:Ends)(E:XK):OutX->Prop
 |.no o=>ZDo K ρ H D o
 |.ex nm t g=>Xw K ρ H E nm t g
theorem ZEv.step{K:PySem.W.Frag}{ρ ρ':Rh}{H H':Hp}{D:Ends}{E:XK}{o:OutX}(h:ZEv K ρ H D E o)(s:Stp ρ H ρ' H'):ZEv K ρ' H' D E o:=by
 cases o with
 |no o=>exact ZDo.step h s
 |ex nm t g=>exact Xw.step h s
noncomputable def tX(K:PySem.W.Frag)(E:XK)(d:DX):TS:=λD σ H=>∃ρ sd g o,Rst K ρ H σ sd g/\d sd g=some o/\ZEv K ρ H D E o
structure JX (X:Cx) (E:XK) (e:Stmt) (d:DX):Prop where
 h:PS X e (tX X.K E d)
structure JXs (X:Cx) (E:XK) (e:List Stmt) (d:DX):Prop where
 h:PSs X e (tX X.K E d)
noncomputable def dUp(d:DS):DX:=λsd g=>(d sd g).map .no
noncomputable def ZBF(a b:DX):DX:=λsd g=>(a sd g).bind λo=>match o with|.no (.nx sd' g')=>b sd' g'|o=>some o
noncomputable def ZGz(c:DB)(a b:DX):DX:=λsd g=>(c sd g).bind λp=>if p.1=true then a sd p.2 else b sd p.2
section
variable{X:Cx}{E:XK}{pos:Pos}{st:Stmt}{rest:List Stmt}{d:DS}{a b:DX}
theorem ZHj(h:JS X st d):JX X E st (dUp d):=⟨h.h.imp λD σ H ⟨ρ,sd,g,o,r,e,q⟩=>by
 obtain⟨o1,e1,e⟩:=mp e;cases e;exact⟨ρ,sd,g,o1,r,e1,q⟩⟩
theorem ZAp(h:JX X E st a):JXs X E [st] a:=⟨ZI7 h.h⟩
theorem ZAK(h1:JX X E st a)(h2:JXs X E rest b):JXs X E (st::rest) (ZBF a b):=⟨(ZHK h1.h h2.h).imp λD σ H ⟨ρ,sd,g,o,r,e,q⟩=>by
 obtain⟨o1,e1,e⟩:=bnd e;refine⟨ρ,sd,g,o1,r,e1,?_⟩;cases o1 with
 |ex nm t g1=>cases e;exact q
 |no o1 =>
  cases o1 with
  |nx sd1 g1=>exact λσ1 H1 ρ1 s1 r1=>⟨ρ1,sd1,g1,o,r1,e,q.step s1⟩
  |rt x g1=>cases e;exact q
  |bk _ _=>cases e;exact q
  |ct _ _=>cases e;exact q⟩
theorem ZH0{c:Expr}{sa sb:List Stmt}{tc:DB}(hc:JT X c tc)(ha:JXs X E sa a)(hb:JXs X E sb b):JX X E (.If c sa sb pos) (ZGz tc a b):=⟨(ZPc hc.h ha.h hb.h).imp λD σ H ⟨ρ,sd,g,o,r,e,q⟩=>by
 obtain⟨⟨k,g1⟩,e1,e⟩:=bnd e;refine⟨ρ,sd,g,k,g1,r,e1,λH1 ρ1 s1 h1=>?_⟩;cases k with
 |true=>exact⟨ρ1,sd,g1,o,r.step s1 h1,e,q.step s1⟩
 |false=>exact⟨ρ1,sd,g1,o,r.step s1 h1,e,q.step s1⟩⟩
theorem ZC2:JXs X E [] (dUp dNx):=⟨ZJd.imp λD σ H ⟨ρ,sd,g,o,r,e,q⟩=>by
 cases e;exact q σ H ρ .refl r⟩
end
theorem Rst.cut{K:PySem.W.Frag}{ρ : Rh}{H:Hp}{σ : St}{sd:Sd}{g:G}(r:Rst K ρ H σ sd g)(i:Nat):Rst K ρ H (σ.set i none) (sd.set i none) g:=⟨by rw[length_set,length_set,r.len],λj x e=>by
 by_cases hj:i=j
 ·subst hj
  have hl:i<sd.length:=by have:=(List.getElem?_eq_some_iff.mp e).1;rw[length_set] at this;exact this
  rw[getElem?_set_self hl] at e;cases e
 ·rw[getElem?_set_ne hj] at e ⊢
  exact r.env j x e,r.hr⟩
noncomputable def tBX(K:PySem.W.Frag)(d:DX):TB:=λD F σ H=>∃ρ sd g o,Rst K ρ H σ sd g/\d sd g=some o/\ZEv K ρ H D (F σ) o
structure JB (X:Cx) (e:Stmt) (d:DX):Prop where
 h:PB X e (tBX X.K d)
structure JBs (X:Cx) (e:List Stmt) (d:DX):Prop where
 h:PBs X e (tBX X.K d)
noncomputable def ZIn(i:Nat)(nm:Str)(db:DX)(ds:DS):DS:=λsd g=>(db sd g).bind λo=>match o with
 |.no (.nx sd' g')=>some (.nx sd' g')
 |.ex nm' t g'=>if nm'=nm then (ds (sd.set i (some (.exc nm' t))) g').bind λo=>match o with
   |.nx sd2 g2=>some (.nx (sd2.set i none) g2)
   |_=>none
  else none
 |_=>none
section
variable{X:Cx}{pos p pos':Pos}{st:Stmt}{e:Expr}{es:List Expr}{x:Str}{a b:DX}{aa:DA}{s0:Stmt}{f:Addr}{fd:FuncData}{k n:Nat}{ps:List Str}{fn:List W->G->Option (W×G)}{fx:List W->G->Option (Str×Option Int×G)}
theorem ZOB(h:JB X st a):JBs X [st] a:=⟨ZN1 h.h⟩
theorem PB.imp{t u:TB}(h:PB X st t)(q:∀D F σ H,u D F σ H->t D F σ H):PB X st u:=λpins s σ H D F I z=>h pins s σ H D F I (q D F σ H z)
theorem ZPE{body suite:List Stmt}{b0:Stmt}{cn n nm:Str}{cnp hpos:Pos}{i:Nat}{r:List Env}{L B C:Addr}{ds:DS}(hN:X.N.Nodup)(hi:X.N[i]? = some n)(hn:X.env.scope.names.lookup n=some .local)(hx:∀e s,X.xe e s->False)(hs:X.stack=X.env::r)(hf:X.env.frame=some L)(hg:Gl X cn)(hm:X.mg cn=some (.ref B))(hB:ZDN X.K B=true)
  (xc:XC0 X.K X.mg nm C)(sub:PySem.W.mroIn X.K C (.ref B)=some true)(hb:JBs X body a)(hsu:∀x,JSs (X.caught x) (b0::suite) ds)(hdb:(cn == ("__debug__" : Str))=false:=by decide) :
  JS X (.Try body [.ExceptHandler (some (.Name cn cnp)) (some n) (b0::suite) hpos] [] [] pos) (ZIn i nm a ds):=⟨(ZQj (tsu:=tS X.K ds) hN hi hn hx hs hf hg hm hB hb.h (λx=>(hsu x).h) hdb).imp λD σ H ⟨ρ,sd,g,o,r,e,q⟩=>by
 obtain⟨o1,e1,e⟩:=bnd e;refine⟨ρ,sd,g,o1,r,e1,?_⟩;cases o1 with
 |no o1 =>
  cases o1 with
  |nx sd1 g1=>cases e;exact q
  |_=>cases e
 |ex nm' t g1 =>
  dsimp only at e
  split at e
  ·rename_i en
   have xc':XC0 X.K X.mg nm' C:=en ▸ xc;obtain⟨o2,e2,e3⟩:=bnd e;intro x H' ρ' s' h' r' hx';cases r' with
   |exc xr =>
    obtain⟨C',od,y,k1,⟨k2,k3⟩,k4⟩:=id xr;rw[xc'.ns] at k1;cases k1;refine⟨x,C,od,.ref y,rfl,k2,xc.ex,sub,ρ',_,g1,o2,(r.step s' h').set (.exc xr) i,e2,?_⟩;cases o2 with
    |nx sd2 g2 =>
     cases e3;exact λσ2 H2 ρ2 s2 r2=>q _ H2 ρ2 (s'.trans s2) (r2.cut i)
    |_=>cases e3
  ·cases e⟩
end
noncomputable def dXI(nm:Str)(b:Bool)(d:DE):DE:=λsd g=>(d sd g).bind λp=>match p.1 with
 |.exc nm' _=>if nm'=nm then some (.dat (.bool b),p.2) else none
 |_=>none
section
variable{X:Cx}{pos p np np2 tp:Pos}{e:Expr}{d:DE}{nm y y2:Str}{C f D D2:Addr}{b:Bool}
theorem ZJq{mg:Str->Option Value}{K:PySem.W.Frag}{ρ : Rh}{H:Hp}{v:V}{t:Option Int}(xc:XC0 K mg nm C)(r:Rel K ρ H v (.exc nm t)):ZIB H v C t:=by
 cases r with
 |exc xr =>
  obtain⟨C',od,y,k1,⟨k2,_⟩,k3,k4⟩:=xr;rw[xc.ns] at k1;cases k1;cases t with
  |none=>exact⟨_,od,_,rfl,k2,k3 rfl⟩
  |some n =>
   obtain⟨dx,e1,e2,_⟩:=k4 n rfl;exact⟨_,od,_,rfl,k2,dx,e1,e2⟩
theorem ZLl{t':Expr}(xc:XC0 X.K X.mg nm C)(h:∀n:Option Int,PE X t' (λσ H Q=>tE X.K d σ H λv H1=>ZIB H1 v C n/\Q (.bl b) H1)):JE X t' (dXI nm b d):=⟨λpins s σ H Q I hh=>by
 obtain⟨ρ,sd,g,w,g',r,e0,q⟩:=hh;obtain⟨⟨w1,g1⟩,e1,e2⟩:=bnd e0;clear e0;dsimp only at e2
 split at e2
 ·rename_i nm' n
  split at e2
  ·rename_i en
   cases e2;exact h n pins s σ H Q I ⟨ρ,sd,g,_,g',r,e1,λv H1 ρ1 s1 h1 r1=>⟨ZJq xc (by rw[←en];exact r1),q _ H1 ρ1 s1 h1 (.dat (.bl b))⟩⟩
  ·cases e2
 ·cases e2⟩
theorem ZMY{T:String}(xc:XC0 X.K X.mg nm C)(hm:X.mg y=none)(hy:bootBuiltins y=some (.type T))(hk:PySem.W.kitOne X.K (.ref C) (.type T)=some b)(hmi:X.mg "isinstance" = none)(he:JE X e d)(hgi:Gl X "isinstance":=by rfl)(hg:Gl X y:=by rfl)(hdb:(y == ("__debug__" : Str))=false:=by decide)(hyn:y≠"__name__":=by decide)
  (hs:starEach [e,.Name y np] X.env=(false,eval e X.env)::starEach [.Name y np] X.env:=by rfl)(hs2:starEach [.Name y np] X.env=(false,eval (.Name y np) X.env)::starEach [] X.env:=by rfl)(hpl:(backTo pos (starEach [.Name y np] X.env)).any (·.1)=false:=by rfl) :
  JE X (.Call (.Name "isinstance" p) [e,.Name y np] [] pos) (dXI nm b d):=ZLl xc λn=>ZO1 xc hm hy hk hgi hmi hg he.h hdb hyn hs hs2 hpl
theorem ZLw{x1}(xc:XC0 X.K X.mg nm C)(hm:X.mg y=some (.ref D))(hm2:X.mg y2=some (.ref D2))(hk:PySem.W.kitAny X.K (.ref C) [.ref D,.ref D2]=some b)(hmi:X.mg "isinstance" = none)(he:JE X e d)(hgi:Gl X "isinstance":=by rfl)(hg:Gl X y:=by rfl)(hg2:Gl X y2:=by rfl)(hdb:(y == ("__debug__" : Str))=false:=by decide)(hdb2:(y2 == ("__debug__" : Str))=false:=by decide)
  (hs:starEach [e,.Tuple [.Name y np,.Name y2 np2] x1 tp] X.env=(false,eval e X.env)::starEach [.Tuple [.Name y np,.Name y2 np2] x1 tp] X.env:=by rfl)(hs2:starEach [.Tuple [.Name y np,.Name y2 np2] x1 tp] X.env=(false,eval (.Tuple [.Name y np,.Name y2 np2] x1 tp) X.env)::starEach [] X.env:=by rfl)(hs3:starEach [.Name y np,.Name y2 np2] X.env=(false,eval (.Name y np) X.env)::starEach [.Name y2 np2] X.env:=by rfl)(hs4:starEach [.Name y2 np2] X.env=(false,eval (.Name y2 np2) X.env)::starEach [] X.env:=by rfl)(hpl:(backTo pos (starEach [.Tuple [.Name y np,.Name y2 np2] x1 tp] X.env)).any (·.1)=false:=by rfl) :
  JE X (.Call (.Name "isinstance" p) [e,.Tuple [.Name y np,.Name y2 np2] x1 tp] [] pos) (dXI nm b d):=ZLl xc λn=>by
 refine(ZOU (t:=n) xc hk hgi hmi (ZCL he.h (ZCL (ZIH (ZCL (ZJ6 hm hg hdb) (ZCL (ZJ6 hm2 hg2 hdb2) ZGy hs4) hs3)) ZGy hs2) hs) hs hpl).imp λσ H Q h=>?_
 obtain⟨ρ,sd,g,w,g',r,e0,q⟩:=h;refine⟨ρ,sd,g,w,g',r,e0,λv H1 ρ1 s1 h1 r1=>?_⟩;refine⟨by show 2<=sizeLine;decide,λp hp=>?_⟩;obtain⟨sm,hr2,_⟩:=ZAO (o:=.tup [.ref D,.ref D2]) h1 hp;obtain⟨hv,q2⟩:=q v _ ρ1 (s1.trans (.same sm)) hr2 (r1.mono (.same sm));exact⟨v,p,rfl,hv,ZC,q2⟩
end
theorem ZLq{P:Program}{w:World}{K:PySem.W.Frag}{mg:Str->Option Value}{base:Heap}{N:List Str}{qual:Str}{scope:Scope}{f:Addr}{cdv:Value}{A:Around}{outer:List Env}{s0:Shared}{H0:Hp}{E:XK}:ZIf (ZCs (CXR P w) P w K mg base N qual scope f cdv A outer s0 H0 E) E:=λ_ _ _ _ _ _ _ _ I hx ht hE=>ZPK I hx ht hE
noncomputable def EvX(o:Option OutX)(P:OutX->Prop):Prop:=∃z,o=some z/\P z
section
variable{sd:Sd}{g:G}{P:OutX->Prop}{PS':Out->Prop}{d:DS}{a b:DX}{ta:DB}{aa:DA}{nm:Str}{pt:Pat}{xs:List PyData}
theorem u_up(h:EvS (d sd g) λo=>P (.no o)):EvX (dUp d sd g) P:=by
 obtain⟨o,e,h⟩:=h;exact⟨.no o,by unfold dUp;rw[e];rfl,h⟩
theorem u_if(h:EvP (ta sd g) λk g1=>(k=true->EvX (a sd g1) P)/\(k=false->EvX (b sd g1) P)):EvX (ZGz ta a b sd g) P:=by
 obtain⟨k,g1,e,h1,h2⟩:=h;cases k with
 |true =>
  obtain⟨o,e2,h⟩:=h1 rfl;exact⟨o,by unfold ZGz;rw[e];exact e2,h⟩
 |false =>
  obtain⟨o,e2,h⟩:=h2 rfl;exact⟨o,by unfold ZGz;rw[e];exact e2,h⟩
theorem ZQ5{i:Nat}{sd1:Sd}{g1:G}(h:a sd g=some (.no (.nx sd1 g1)))(q:PS' (.nx sd1 g1)):EvS (ZIn i nm a d sd g) PS':=⟨_,by unfold ZIn;rw[h];rfl,q⟩
noncomputable def ZSS(i:Nat)(P:Out->Prop):Out->Prop
 |.nx sd g=>P (.nx (sd.set i none) g)
 |_=>False
theorem ZQl{i:Nat}{t:Option Int}{g1:G}(h:a sd g=some (.ex nm t g1))(q:EvS (d (sd.set i (some (.exc nm t))) g1) (ZSS i PS')):EvS (ZIn i nm a d sd g) PS':=by
 obtain⟨o,e,q⟩:=q;cases o with
 |nx sd2 g2 =>
  refine⟨_,?_,q⟩;unfold ZIn;rw[h];show(if nm=nm then _ else _)=_;rw[if_pos rfl,e];rfl
 |_=>exact q.elim
end
inductive OutE where
 |val (x:W) (g:G)
 |ex (nm:Str) (t:Option Int) (g:G)
inductive OutC where
 |ok (ys:List PyData) (g:G)
 |ex (nm:Str) (t:Option Int) (g:G)
noncomputable abbrev DEX:=Sd->G->Option OutE
noncomputable def ZDU(K:PySem.W.Frag)(ρ : Rh)(H:Hp)(Q:VK)(E:XK):OutE->Prop
 |.val x g=>Pv K ρ H x g Q
 |.ex nm t g=>Xw K ρ H E nm t g
theorem ZDU.step{K:PySem.W.Frag}{ρ ρ':Rh}{H H':Hp}{Q:VK}{E:XK}{o:OutE}(h:ZDU K ρ H Q E o)(s:Stp ρ H ρ' H'):ZDU K ρ' H' Q E o:=by
 cases o with
 |val x g=>exact Pv.step h s
 |ex nm t g=>exact Xw.step h s
noncomputable def tEX(K:PySem.W.Frag)(E:XK)(d:DEX):TE:=λσ H Q=>∃ρ sd g o,Rst K ρ H σ sd g/\d sd g=some o/\ZDU K ρ H Q E o
noncomputable def spE(K:PySem.W.Frag)(n:Nat)(fe:List W->G->Option OutE):Sp:=λvs H Q E=>vs.length=n/\∃ρ ws g o,HR K ρ H g/\RelL K ρ H vs ws/\fe ws g=some o/\ZDU K ρ H Q E o
noncomputable def ZCe(n:Nat)(d:DX)(ws:List W)(g:G):Option OutE:=match d (ws.map some++List.replicate (n-ws.length) none) g with
 |some (.no (.rt x g'))=>some (.val x g')
 |some (.no (.nx _ g'))=>some (.val (.dat .none) g')
 |some (.ex nm t g')=>some (.ex nm t g')
 |_=>none
noncomputable def ZIa(fe:List W->G->Option OutE)(ws:List W)(g:G):Option (W×G):=match fe ws g with
 |some (.val x g')=>some (x,g')
 |_=>none
theorem ZN8{P:Program}{w:World}{K:PySem.W.Frag}{mg:Str->Option Value}{base:Heap}{x qual:Str}{st:Stmt}{f:Addr}{fd:FuncData}{N ps:List Str}{k n m:Nat}{d:DX}{r:List W->G->Option OutE}(e:r=ZCe n d)(hn:N.length=n)(hm:ps.length=m)(F:Fun K x qual st f fd)(S:FnScope N ps (ZF st))
  (hb:∀(cdv:Value) (A:Around) (outer:List Env) (s:Shared) (H:Hp) (E:XK),Room k (A.deeper (envOfC qual (ZF st) s.heap.objs.size f cdv))->JXs (ZCs (CXR P w) P w K mg base N qual (ZF st) f cdv A outer s H E) E (ZAJ st) d) :
  FnOk P w K mg base (CXR P w) (k+1) f fd ps (spE K m r):=by
 subst e hn hm;obtain⟨oc,od,kV,doc,pm,an,cdv,ct,osl,rfl,lk,hcd⟩:=F.ex;refine ZPv lk hcd S (λvs H Q E h=>h.1) λA outer s H vs Q E hr h=>⟨_,(hb cdv A outer s H E hr).h,?_⟩
 obtain⟨hl,ρ,ws,g,o,hR,rl,e,q⟩:=h;unfold ZCe at e;unfold ZCY;rw[rl.length];cases ho:d (ws.map some++List.replicate (N.length-ws.length) none) g with
 |none=>rw[ho] at e;cases e
 |some o1 =>
  rw[ho] at e;refine⟨ρ,_,g,o1,ZDV hR _ rl,ho,?_⟩;cases o1 with
  |ex nm t g'=>cases e;exact q
  |no o1 =>
   cases o1 with
   |rt x g'=>cases e;exact q
   |nx sd g'=>cases e;exact λσ1 H1 ρ1 s1 r1=>q _ H1 ρ1 s1 r1.hr (.dat .non)
   |_=>cases e
theorem ZGG{P:Program}{w:World}{K:PySem.W.Frag}{mg:Str->Option Value}{base:Heap}{f:Addr}{fd:FuncData}{ps:List Str}{k m:Nat}{fe:List W->G->Option OutE}(F:FnOk P w K mg base (CXR P w) k f fd ps (spE K m fe)):FnOk P w K mg base CX0 k f fd ps (spD K m (ZIa fe)):=by
 have key:∀{vs H Q E},spD K m (ZIa fe) vs H Q E->spE K m fe vs H Q E0:=λ{vs H Q E} h=>by
  obtain⟨hl,ρ,ws,g,z,g',hR,rl,e,q⟩:=h;unfold ZIa at e
  split at e
  ·rename_i x g2 e2
   cases e;exact⟨hl,ρ,ws,g,_,hR,rl,e2,q⟩
  ·cases e
 refine⟨λvs H Q E h=>F.len vs H Q E0 (key h),λA outer s H a us vs Q E hr he hb r h=>codeAny_mono (F.run A outer s H a us vs Q E0 hr he hb r (key h)) λr s' hq=>?_⟩;cases r with
 |error e=>exact absurd hq ZQP
 |ok fl=>cases fl <;> exact hq
structure JEX (X:Cx) (E:XK) (e:Expr) (d:DEX):Prop where
 h:PE X e (tEX X.K E d)
structure JEB (X:Cx) (E:XK) (e:Expr) (d:DEX):Prop where
 h:PEX X E e (tEX X.K E d)
noncomputable def ZNW(d:DE):DEX:=λsd g=>(d sd g).map λp=>.val p.1 p.2
noncomputable def ZBk(fe:List W->G->Option OutE)(aa:DA):DEX:=λsd g=>(aa sd g).bind λp=>fe p.1 p.2
noncomputable def ZLn(c:DB)(a b:DEX):DEX:=λsd g=>(c sd g).bind λp=>if p.1=true then a sd p.2 else b sd p.2
noncomputable def dFE(fn:W->G->Option (W×G))(d:DEX):DEX:=λsd g=>(d sd g).bind λo=>match o with
 |.val x g=>(fn x g).map λp=>.val p.1 p.2
 |.ex nm t g=>some (.ex nm t g)
noncomputable def ZO6(d:PyData):OutC->OutC
 |.ok ys g=>.ok (d::ys) g
 |.ex nm t g=>.ex nm t g
noncomputable def ZPi(ds:List PyData):OutC->OutC
 |.ok ys g=>.ok (ds++ys) g
 |.ex nm t g=>.ex nm t g
noncomputable def ZA5(src:Option Nat)(xs:List PyData)(pt:Pat)(de:DEX)(sd0:Sd):List PyData->G->Option OutC
 |[],g=>some (.ok [] g)
 |x::r,g=>(ZW pt (.dat x) sd0).bind λsd1=>(de sd1 g).bind λo=>match o with
  |.val (.dat d) g2=>ZAN src xs g2 ((ZA5 src xs pt de sd0 r g2).map (ZO6 d))
  |.ex nm t g2=>some (.ex nm t g2)
  |_=>none
noncomputable def OutC.e:OutC->OutE
 |.ok ys g=>.val (.dat (.list ys)) g
 |.ex nm t g=>.ex nm t g
noncomputable def ZCl(own:Nat)(cap:List Nat)(pt:Pat)(di:DI)(de:DEX):DEX:=λsd g=>(di sd g).bind λt=>if t.1.length<=1000 then (ZA5 t.2.1 t.1 pt de (ZDI own cap sd) t.1 t.2.2).map OutC.e else none
noncomputable def ZEW(i:Nat)(d:DEX):DX:=λsd g=>(d sd g).map λo=>match o with
 |.val x g=>.no (.nx (sd.set i (some x)) g)
 |.ex nm t g=>.ex nm t g
noncomputable def ZFj(d:DEX):DX:=λsd g=>(d sd g).map λo=>match o with
 |.val x g=>.no (.rt x g)
 |.ex nm t g=>.ex nm t g
noncomputable def ZBL(nm:Str)(aa:DA):DX:=λsd g=>(aa sd g).bind λp=>if p.1.length=1 then some (.ex nm none p.2) else none
theorem Xw.hide{K:PySem.W.Frag}{ρ : Rh}{H:Hp}{E:XK}{nm:Str}{t:Option Int}{g:G}{D:Addr}(h:Xw K ρ H E nm t g):Xw K (ρ.hide D) H E nm t g:=λx H' ρ' s hr r n=>by
 obtain⟨u,eh⟩:=s.unhide;rw[eh] at hr r;refine h x H' ⟨ρ'.c,ρ.h⟩ u hr.shown ?_ n;cases r with
 |exc xr=>exact .exc (ZC8.less (ρ':=(⟨ρ'.c,ρ.h⟩:Rh)) (ρ:=(⟨ρ'.c,ρ.h⟩:Rh).hide D) (λ_ z=>z.elim .inl λq=>.inr (mem_cons_of_mem _ q)) xr)
inductive CRunX (so:G->Prop) (pt:Pat) (de:DEX) (sd0:Sd):List PyData->G->OutC->Prop
 |nil {g:G}:CRunX so pt de sd0 [] g (.ok [] g)
 |yes {x:PyData} {r:List PyData} {y:PyData} {sd1:Sd} {g g2:G} {o:OutC}:ZW pt (.dat x) sd0=some sd1->de sd1 g=some (.val (.dat y) g2)->so g2->CRunX so pt de sd0 r g2 o->CRunX so pt de sd0 (x::r) g (ZO6 y o)
 |ex {x:PyData} {r:List PyData} {sd1:Sd} {g g2:G} {nm:Str} {t:Option Int}:ZW pt (.dat x) sd0=some sd1->de sd1 g=some (.ex nm t g2)->CRunX so pt de sd0 (x::r) g (.ex nm t g2)
theorem ZJU{src:Option Nat}{xs:List PyData}{pt:Pat}{de:DEX}{sd0:Sd}:∀{r:List PyData} {g:G} {o:OutC},ZA5 src xs pt de sd0 r g=some o->CRunX (Zj src xs) pt de sd0 r g o
 |[],_,_,e=>by
  rw[ZA5] at e;cases e;exact .nil
 |x::r,g,o,e=>by
  rw[ZA5] at e;obtain⟨sd1,e2,e⟩:=bnd e;obtain⟨o1,e3,e⟩:=bnd e
  split at e
  ·obtain⟨so,e⟩:=ZAD e
   obtain⟨o2,e6,e⟩:=mp e;cases e;exact .yes e2 e3 so (ZJU e6)
  ·cases e
   exact .ex e2 e3
  ·cases e
theorem ZIV{K:PySem.W.Frag}{E:XK}{Q:VK}{J:It}{pt:Pat}{de:DEX}{src:Option Nat}{xs:List PyData}{own:Nat}{ρ ρ1:Rh}{H H1:Hp}{σ0:St}{sd0:Sd}{g1:G}{D:Addr}{o:OutC}(hp:pt.all (λi=>decide (i<own))=true)
  (hz:xs.length<=1000)(s01:Stp ρ H ρ1 H1)(hD:H1 D=none)(r1:Rst K ρ1 H1 σ0 sd0 g1)(hσ : ∀i,i<own->σ0[i]? = some none)(so1:Zj src xs g1)(io:ItOk K (ρ1.hide D) (upd H1 D (.lst [])) J xs src)(run:CRunX (Zj src xs) pt de sd0 xs g1 o)
  (q:ZDU K ρ H Q E o.e):ZEL J (gP K pt) (tT K Zs) (tEX K E de) σ0 D Q (upd H1 D (.lst [])):=by
 have hDm:∀{ρx:Rh},D∈(ρx.hide D).h:=λ{ρx}=>mem_cons_self ..
 refine⟨λi m acc H'=>m=xs.length-i/\i<=xs.length/\acc.length<=i/\∃ρ' g' ads o',Stp ρ1 H1 ρ' H'/\Rst K (ρ'.hide D) H' σ0 sd0 g'/\Zj src xs g'/\H' D=some (.lst acc)/\RelL K (ρ'.hide D) H' acc (ads.map .dat)/\ItOk K (ρ'.hide D) H' J xs src/\CRunX (Zj src xs) pt de sd0 (xs.drop i) g' o'/\ZPi ads o'=o,⟨xs.length,rfl,zero_le _,le_refl _,ρ1,g1,[],o,.same (_root_.H1.Same.upd hD),r1.hide hD,so1,ZC,.nil,io,run,by cases o <;> rfl⟩,?_⟩
 rintro i m acc H' ⟨rfl,hi,ha,ρ',g',ads,o',s',r',so',hacc,ra,it',e',ez⟩
 obtain⟨hgo,hst⟩:=it'.use r'.hr so'
 by_cases hlt:i<xs.length
 ·rw[drop_eq_getElem_cons hlt] at e'
  obtain⟨hg1,hy⟩:=hgo i xs[i] (getElem?_eq_getElem hlt);refine .inr ⟨hg1,λacc2 H2=>acc2.length<=i+1/\∃ρ' g' ads o',Stp ρ1 H1 ρ' H2/\Rst K (ρ'.hide D) H2 σ0 sd0 g'/\Zj src xs g'/\H2 D=some (.lst acc2)/\RelL K (ρ'.hide D) H2 acc2 (ads.map .dat)/\ItOk K (ρ'.hide D) H2 J xs src/\CRunX (Zj src xs) pt de sd0 (xs.drop (i+1)) g' o'/\ZPi ads o'=o,λacc2 H2 ⟨k0,k⟩=>⟨xs.length-(i+1),by omega,rfl,hlt,k0,k⟩,λv H2 y=>?_⟩;obtain⟨sm,rv⟩:=hy v H2 y;have s2:Stp (ρ'.hide D) H' (ρ'.hide D) H2:=.same sm;cases e' with
  |@ex _ _ sd1 _ g3 nm t e2 e3 =>
   refine ZDl (f:=λi=>decide (i<own)) hp e2 (r'.step s2 (r'.hr.same sm)) (.dat rv) λσ3 r3 kp=>⟨?_,ρ'.hide D,_,g',true,g',r3,rfl,λH3 ρ3 s3 h3=>?_⟩
   ·exact⟨kp.1,λi v e=>by
     by_cases hi:i<own
     ·rw[hσ i hi] at e;cases e
     ·rw[kp.2 i (decide_eq_false hi)];exact e⟩
   have s23:=s2.trans s3;obtain⟨u3,e3h⟩:=s23.unhide;have r3':=r3.step s3 h3;rw[e3h] at r3';refine ZQ1 ?_;have ez:OutC.ex nm t g3=o:=ez;subst ez;exact⟨_,sd1,g',_,r3',e3,Xw.hide (Xw.step q (s01.trans (s'.trans u3)))⟩
  |@yes _ _ w sd1 _ g4 o2 e2 e4 so4 e6 =>
   refine ZDl (f:=λi=>decide (i<own)) hp e2 (r'.step s2 (r'.hr.same sm)) (.dat rv) λσ3 r3 kp=>⟨?_,ρ'.hide D,_,g',true,g',r3,rfl,λH3 ρ3 s3 h3=>?_⟩
   ·exact⟨kp.1,λi v e=>by
     by_cases hi:i<own
     ·rw[hσ i hi] at e;cases e
     ·rw[kp.2 i (decide_eq_false hi)];exact e⟩
   have s23:=s2.trans s3;obtain⟨u3,e3h⟩:=s23.unhide;have hD3:H3 D=some (.lst acc):=s23.frm _ _ hacc (r'.hr.hid D hDm).1;have r3':=r3.step s3 h3;rw[e3h] at r3' h3 s3 s23;refine ZQ1 ?_;refine⟨(⟨ρ3.c,ρ'.h⟩:Rh).hide D,sd1,g',.val (.dat w) g4,r3',e4,λy4 H4 ρ4 s4 h4 r4=>?_⟩;obtain⟨u4,e4h⟩:=s4.unhide;rw[e4h] at h4 r4 s4;have s24:=s23.trans s4;have hD4:H4 D=some (.lst acc):=s4.frm _ _ hD3 (h3.hid D hDm).1;refine⟨hD4,Nat.lt_of_le_of_lt ha (ZS (by omega)),?_⟩;refine⟨by rw[length_append];exact Nat.add_le_add_right ha 1,⟨ρ4.c,ρ'.h⟩,g4,ads++[w],o2,((s'.trans u3).trans u4).grow hD,(r'.step s24 h4).grow hDm,so4,ZC,by rw[map_append];exact((ra.mono s24).append (.cons r4 .nil)).grow hDm,(it'.mono s24).grow hDm,e6,?_⟩;rw[←ez];cases o2 with
   |ok ys g=>show OutC.ok ((ads++[w])++ys) g=OutC.ok (ads++(w::ys)) g;rw[append_assoc];rfl
   |ex nm t g=>rfl
 ·have ei:i=xs.length:=by omega
  subst ei;rw[drop_length] at e';cases e';have ez:OutC.ok (ads++[]) g'=o:=ez;rw[append_nil] at ez;subst ez;exact .inl ⟨hst _ (le_refl _),ZGg hD r1.hr q s01 s' r'.hr hacc ra⟩
section
variable{X:Cx}{E:XK}{pos p:Pos}{e a b:Expr}{es:List Expr}{d da db:DEX}{dd:DE}{aa:DA}{x:Str}{s0:Stmt}{f:Addr}{fd:FuncData}{k n:Nat}{ps:List Str}{fe:List W->G->Option OutE}
theorem ZQ6{K:PySem.W.Frag}{σ : St}{H:Hp}{Q:VK}(h:tEX K E (ZNW dd) σ H Q):tE K dd σ H Q:=by
 obtain⟨ρ,sd,g,o,r,e,q⟩:=h;obtain⟨⟨x,g1⟩,e1,e⟩:=mp e;cases e;exact⟨ρ,sd,g,x,g1,r,e1,q⟩
theorem ZRE(h:JE X e dd)(hx:∀e s,X.xe e s->False:=by exact λ_ _ h=>h):JEB X E e (ZNW dd):=⟨(ZRW hx h.h).imp λ_ _ _ q=>ZQ6 q⟩
theorem ZNk{K:PySem.W.Frag}{σ : St}{H:Hp}{Q:VK}(hm:Many aa n)(h:tEX K E (ZBk fe aa) σ H Q):tA K aa σ H λvs H1=>spE K n fe vs H1 Q E:=by
 obtain⟨ρ,sd,g,o,r,e,q⟩:=h;obtain⟨⟨ws,g1⟩,e1,e⟩:=bnd e;exact⟨ρ,sd,g,ws,g1,r,e1,λvs H1 ρ1 s1 h1 r1=>⟨by rw[r1.length];exact hm.len e1,ρ1,ws,g1,o,h1,r1,e,q.step s1⟩⟩
theorem FnOk.bot{P:Program}{w:World}{K:PySem.W.Frag}{mg:Str->Option Value}{base:Heap}{CX:CXT}:FnOk P w K mg base CX k f fd ps (λ_ _ _ _=>False):=⟨λ_ _ _ _ h=>h.elim,λ_ _ _ _ _ _ _ _ _ _ _ _ _ h=>h.elim⟩
theorem ZFA(D:Def X.K X.mg x s0 ps f fd)(F1:FnOk X.prog X.w X.K X.mg X.base (CXR X.prog X.w) k f fd ps (spE X.K n fe))(hr:Room k X.A)(ha:JA X (e::es) aa)(hm:Many aa n)(hx:∀e s,X.xe e s->False:=by exact λ_ _ h=>h)(hg:Gl X x:=by rfl)
  (hdb:(x == ("__debug__" : Str))=false:=by decide)(he:starEach (e::es) X.env=(false,eval e X.env)::starEach es X.env:=by rfl)(hpl:(backTo pos (starEach es X.env)).any (·.1)=false:=by rfl) :
  JEB X E (.Call (.Name x p) (e::es) [] pos) (ZBk fe aa):=⟨λpins s σ H Q I h=>ZJD (F:=λ_=>E) hx FnOk.bot F1 hr hg D.at_ D.fn.kp D.bd ha.h hdb he hpl I (let ⟨ρ,sd,g,ws,g1,r,e1,q⟩:=ZNk hm h;⟨ρ,sd,g,ws,g1,r,e1,λvs H1 ρ1 s1 h1 r1=>.inr (q vs H1 ρ1 s1 h1 r1)⟩)⟩
theorem ZNp{i:Nat}{y:Str}{py pos':Pos}(hN:X.N.Nodup)(hi:X.N[i]? = some y)(hy:X.env.scope.names.lookup y=some .local)(hx:∀e s,X.xe e s->False)(D:Def X.K X.mg x s0 ps f fd)(F1:FnOk X.prog X.w X.K X.mg X.base (CXR X.prog X.w) k f fd ps (spE X.K n fe))(hr:Room k X.A)(ha:JA X (e::es) aa)(hm:Many aa n)(hg:Gl X x:=by rfl)
  (hdb:(x == ("__debug__" : Str))=false:=by decide)(he:starEach (e::es) X.env=(false,eval e X.env)::starEach es X.env:=by rfl)(hpl:(backTo pos (starEach es X.env)).any (·.1)=false:=by rfl)(hs:swapsWith (.Call (.Name x p) (e::es) [] pos) (some (.Name y py)) pos'.line X.env=pure false:=by rfl) :
  JB X (.Assign [.Name y py] (.Call (.Name x p) (e::es) [] pos) pos') (ZEW i (ZBk fe aa)):=⟨(ZRI hN hi hy hx FnOk.bot F1 hr hg D.at_ D.fn.kp D.bd ha.h hdb he hpl hs).imp λD F σ H ⟨ρ,sd,g,o,r,e,q⟩=>by
 obtain⟨o1,e1,e⟩:=mp e;obtain⟨⟨ws,g1⟩,e2,e3⟩:=bnd e1;refine⟨ρ,sd,g,ws,g1,r,e2,λvs H1 ρ1 s1 h1 r1=>.inr ⟨by rw[r1.length];exact hm.len e2,ρ1,ws,g1,o1,h1,r1,e3,?_⟩⟩;cases o1 with
 |ex nm t g2=>cases e;exact Xw.step q s1
 |val z g2=>cases e;exact λv H2 ρ2 s2 h2 r2=>q _ H2 ρ2 (s1.trans s2) ((r.step (s1.trans s2) h2).set r2 i)⟩
theorem ZQY{c:Expr}{tc:DB}(hc:JT X c tc)(ha:JEB X E a da)(hb:JEB X E b db)(hx:∀e s,X.xe e s->False:=by exact λ_ _ h=>h):JEB X E (.IfExp c a b pos) (ZLn tc da db):=⟨λpins s σ H Q I h=>by
 obtain⟨ρ,sd,g,o,r,e,q⟩:=h;obtain⟨⟨k,g1⟩,e1,e⟩:=bnd e;refine wpAny_IfExp (wpAny_mono (hc.h pins s σ H (λb H1=>if b=true then tEX X.K E da σ H1 Q else tEX X.K E db σ H1 Q) I ⟨ρ,sd,g,k,g1,r,e1,λH1 ρ1 s1 h1=>?_⟩) (λd s1 ⟨H1,I1,q1⟩=>?_) λ_ _ z=>(hx _ _ z).elim)
 ·cases k with
  |true=>exact⟨ρ1,sd,g1,o,r.step s1 h1,e,q.step s1⟩
  |false=>exact⟨ρ1,sd,g1,o,r.step s1 h1,e,q.step s1⟩
 ·cases d with
  |true=>exact ha.h pins s1 σ H1 Q I1 q1
  |false=>exact hb.h pins s1 σ H1 Q I1 q1⟩
theorem ZG1{f:W->G->Option (W×G)}{T:String}(hc:ZN X (.type T) (rF X.K (f1 f)))(hg:Gl X x)(hm:X.mg x=none)(hv:bootBuiltins x=some (.type T))(ha:JEX X E e d)(hn:x≠"__name__":=by decide)(hdb:(x == ("__debug__" : Str))=false:=by decide)(he:starEach [e] X.env=(false,eval e X.env)::starEach [] X.env:=by rfl)(hpl:(backTo pos (starEach [] X.env)).any (·.1)=false:=by rfl) :
  JEX X E (.Call (.Name x p) [e] [] pos) (dFE f d):=⟨(ZF7 hc hg hm hv (ZCL ha.h ZGy he) hn hdb he hpl).imp λσ H Q h=>by
 obtain⟨ρ,sd,g,o,r,e,q⟩:=h;obtain⟨o1,e1,e⟩:=bnd e;refine⟨ρ,sd,g,o1,r,e1,?_⟩;cases o1 with
 |ex nm t g1=>cases e;exact q
 |val w g1 =>
  obtain⟨⟨z,g2⟩,e2,e⟩:=mp e;cases e;exact λv H1 ρ1 s1 h1 r1=>⟨ρ1,[w],g1,z,g2,h1,.cons r1 .nil,e2,Pv.step q s1⟩⟩
theorem ZOh{i:Nat}{pos':Pos}(hN:X.N.Nodup)(hi:X.N[i]? = some x)(hx:Loc X.env.scope x)(he:JEX X E e d)(hs:swapsWith e (some (.Name x pos')) pos.line X.env=pure false:=by rfl)(hf:X.fn x=true∨X.env.scope.names.lookup x=some .local:=by first|exact .inl rfl|exact .inr rfl|assumption) :
  JX X E (.Assign [.Name x pos'] e pos) (ZEW i d):=⟨(ZLp hN hi hx he.h hs hf).imp λD σ H ⟨ρ,sd,g,o,r,e,q⟩=>by
 obtain⟨o1,e1,e⟩:=mp e;refine⟨ρ,sd,g,o1,r,e1,?_⟩;cases o1 with
 |ex nm t g1=>cases e;exact q
 |val w g1=>cases e;exact λv H1 ρ1 s1 h1 r1=>q _ H1 ρ1 s1 ((r.step s1 h1).set r1 i)⟩
theorem ZJQ(he:JEX X E e d):JX X E (.Return (some e) pos) (ZFj d):=⟨(ZNU he.h).imp λD σ H ⟨ρ,sd,g,o,r,e,q⟩=>by
 obtain⟨o1,e1,e⟩:=mp e;refine⟨ρ,sd,g,o1,r,e1,?_⟩;cases o1 with
 |ex nm t g1=>cases e;exact q
 |val w g1=>cases e;exact q⟩
theorem ZBb{nm:Str}{C:Addr}{np cpos:Pos}(xc:XCl X.K X.mg nm C)(hc:X.calm=true)(L:ZIf X E)(hg:Gl X nm)(ha:JA X [e] aa)(hdb:(nm == ("__debug__" : Str))=false:=by decide)
  (he:starEach [e] X.env=(false,eval e X.env)::starEach [] X.env:=by rfl)(hpl:(backTo cpos (starEach [] X.env)).any (·.1)=false:=by rfl) :
  JX X E (.Raise (some (.Call (.Name nm np) [e] [] cpos)) none pos) (ZBL nm aa):=⟨(ZJ9 xc hc L hg ha.h hdb he hpl).imp λD σ H ⟨ρ,sd,g,o,r,e,q⟩=>by
 obtain⟨⟨ws,g1⟩,e1,e⟩:=bnd e;refine⟨ρ,sd,g,ws,g1,r,e1,λvs H1 ρ1 s1 h1 r1=>?_⟩;dsimp only at e
 split at e
 ·rename_i hl
  cases e;refine⟨by rw[r1.length];exact hl,λx hx H'' l=>?_⟩;have sm:Same H1 H'':=λa o ea=>by
   have n1:a≠x:=ZG ea hx;exact l.1 a o n1 (by rw[ZD n1];exact ea)
  obtain⟨y,yx,k1,k2⟩:=l.2;exact q x H'' ρ1 (s1.trans (.same sm)) (h1.same sm) (.exc ⟨C,none,y,xc.b.ns,⟨k1,h1.nin hx⟩,(λ_=>rfl),λn' en=>nomatch en⟩) (s1.none hx)
 ·cases e⟩
theorem ZMS{tg elt iter:Expr}{scope sc:Scope}{N NX:List Str}{own:Nat}{cap:List Nat}{pt:Pat}{di:DI}{de:DEX}{K:PySem.W.Frag}{σ : St}{H:Hp}{Q:VK}(hp:pt.all (λi=>decide (i<own))=true)(h:tEX K E (ZCl own cap pt di de) σ H Q):ZFD own cap (tI K di) (gP K pt) (tT K Zs) (tEX K E de) σ H Q:=by
 obtain⟨ρ,sd,g,o,r,e,q⟩:=h;obtain⟨⟨xs,src,g1⟩,e1,e⟩:=bnd e;dsimp only at e
 split at e
 ·rename_i hz
  obtain⟨o1,e2,e⟩:=mp e;cases e;exact⟨ρ,sd,g,xs,src,g1,r,e1,λJ H1 ρ1 s1 h1 ⟨so,it⟩ D hD=>ZIV hp hz s1 hD (ZEF (r.step s1 h1) own cap) (λi hi=>ZDO hi) so (it.hide hD) (ZJU e2) q⟩
 ·cases e
theorem ZE3{tg elt iter:Expr}{scope sc:Scope}{N NX:List Str}{own:Nat}{cap:List Nat}{pt:Pat}{di:DI}{de:DEX}{r:List Env}{L:Addr}(LG:ZD9 X E)(hst:X.stack=X.env::r)(hfr:X.env.frame=some L)(hc:X.calm=true)(hi:JI X tg iter di)(hsc:X.env.scope=sc)(hNX:X.N=NX)
  (hb:∀cl C s0 H0 fp,JG (blk X N (compEnvC scope cl C X.env) s0 H0 fp) tg pt/\JEB (blk X N (compEnvC scope cl C X.env) s0 H0 fp) E elt de)
  (co:ZBU sc scope NX N own cap=true)(hp:pt.all (λi=>decide (i<own))=true)(hs:∀x,foldedSetIterable iter X.env x=pure x:=by intro _;rfl):JEX X E (.ListComp elt [⟨tg,iter,[],0⟩] scope pos) (ZCl own cap pt di de) :=
 ⟨(ZND (F:=E) LG hst hfr hc hi.h hsc hNX (λcl C s0 H0 fp=>⟨(hb cl C s0 H0 fp).1.h,ZJg,(hb cl C s0 H0 fp).2.h⟩) co hs).imp λ_ _ _ h=>ZMS (tg:=tg) (elt:=elt) (iter:=iter) (scope:=scope) (sc:=sc) (N:=N) (NX:=NX) hp h⟩
end
structure EvE (o:Option OutE) (P:OutE->Prop):Prop where
 h:∃z,o=some z/\P z
structure EvC (o:Option OutC) (P:OutC->Prop):Prop where
 h:∃z,o=some z/\P z
inductive onV (R:W->G->Prop) (P:OutE->Prop):OutE->Prop
 |val {x:W} {g:G}:R x g->onV R P (.val x g)
 |ex {nm:Str} {t:Option Int} {g:G}:P (.ex nm t g)->onV R P (.ex nm t g)
inductive onX (R:W->G->Prop) (P:OutX->Prop):OutE->Prop
 |val {x:W} {g:G}:R x g->onX R P (.val x g)
 |ex {nm:Str} {t:Option Int} {g:G}:P (.ex nm t g)->onX R P (.ex nm t g)
inductive runE (P:OutE->Prop):OutX->Prop
 |rt {x:W} {g:G}:P (.val x g)->runE P (.no (.rt x g))
 |nx {sd:Sd} {g:G}:P (.val (.dat .none) g)->runE P (.no (.nx sd g))
 |ex {nm:Str} {t:Option Int} {g:G}:P (.ex nm t g)->runE P (.ex nm t g)
inductive SeqX2 (b:DX) (P:OutX->Prop):OutX->Prop
 |nx {sd:Sd} {g:G}:EvX (b sd g) P->SeqX2 b P (.no (.nx sd g))
 |rt {x:W} {g:G}:P (.no (.rt x g))->SeqX2 b P (.no (.rt x g))
 |ex {nm:Str} {t:Option Int} {g:G}:P (.ex nm t g)->SeqX2 b P (.ex nm t g)
noncomputable def oE(nm:Str):Option PyData->G->OutE
 |some d,g=>.val (.dat d) g
 |none,g=>.ex nm none g
noncomputable def oC(nm:Str):Option (List PyData)->G->OutC
 |some d,g=>.ok d g
 |none,g=>.ex nm none g
noncomputable def Zb{α β : Type}(f : α->Option β):List α->Option (List β)
 |[]=>some []
 |a::l=>(f a).bind λb=>(Zb f l).map (b::·)
section
variable{sd:Sd}{g:G}{P:OutE->Prop}{PX:OutX->Prop}{PS':Out->Prop}{d da db:DEX}{dd:DE}{ds:DS}{aa:DA}{ta:DB}{fe:List W->G->Option OutE}{f:W->G->Option (W×G)}{f2:W->W->G->Option (W×G)}{a b:DX}{nm:Str}{i:Nat}
theorem w_up(h:EvP (dd sd g) λx g1=>P (.val x g1)):EvE (ZNW dd sd g) P:=by
 obtain⟨x,g1,e,h⟩:=h;exact⟨_,by unfold ZNW;rw[e];rfl,h⟩
theorem ZRZ(h:EvP (aa sd g) λws g1=>EvE (fe ws g1) P):EvE (ZBk fe aa sd g) P:=by
 obtain⟨ws,g1,e,z,e2,h⟩:=h;exact⟨z,by unfold ZBk;rw[e];exact e2,h⟩
theorem w_if(h:EvP (ta sd g) λk g1=>(k=true->EvE (da sd g1) P)/\(k=false->EvE (db sd g1) P)):EvE (ZLn ta da db sd g) P:=by
 obtain⟨k,g1,e,h1,h2⟩:=h;cases k with
 |true=>obtain⟨z,e2,h⟩:=h1 rfl;exact⟨z,by unfold ZLn;rw[e];exact e2,h⟩
 |false=>obtain⟨z,e2,h⟩:=h2 rfl;exact⟨z,by unfold ZLn;rw[e];exact e2,h⟩
theorem w_f(h:EvE (d sd g) (onV (λx g1=>EvP (f x g1) λy g2=>P (.val y g2)) P)):EvE (dFE f d sd g) P:=by
 obtain⟨z,e,h⟩:=h;cases h with
 |val h=>obtain⟨y,g2,e2,h⟩:=h;exact⟨_,by unfold dFE;rw[e];show(f _ _).map _=_;rw[e2];rfl,h⟩
 |ex h=>exact⟨_,by unfold dFE;rw[e];rfl,h⟩
theorem ZRR{own:Nat}{cap:List Nat}{pt:Pat}{di:DI}(h:EvI (di sd g) λxs src g1=>xs.length<=1000/\EvC (ZA5 src xs pt d (ZDI own cap sd) xs g1) λo=>P o.e):EvE (ZCl own cap pt di d sd g) P:=by
 obtain⟨xs,src,g1,e,hl,o,e2,h⟩:=h;refine⟨_,?_,h⟩;unfold ZCl;rw[e];show(if xs.length<=1000 then _ else _)=_;rw[if_pos hl,e2];rfl
theorem ZP6(h:EvE (d sd g) (onX (λx g1=>PX (.no (.nx (sd.set i (some x)) g1))) PX)):EvX (ZEW i d sd g) PX:=by
 obtain⟨z,e,h⟩:=h;cases h with
 |val h=>exact⟨_,by unfold ZEW;rw[e];rfl,h⟩
 |ex h=>exact⟨_,by unfold ZEW;rw[e];rfl,h⟩
theorem ZP2(h:EvE (d sd g) (onX (λx g1=>PX (.no (.rt x g1))) PX)):EvX (ZFj d sd g) PX:=by
 obtain⟨z,e,h⟩:=h;cases h with
 |val h=>exact⟨_,by unfold ZFj;rw[e];rfl,h⟩
 |ex h=>exact⟨_,by unfold ZFj;rw[e];rfl,h⟩
theorem ZLE(h:EvP (aa sd g) λws g1=>ws.length=1/\PX (.ex nm none g1)):EvX (ZBL nm aa sd g) PX:=by
 obtain⟨ws,g1,e,hl,h⟩:=h;refine⟨_,?_,h⟩;unfold ZBL;rw[e];exact if_pos hl
theorem ZPy(h:EvX (a sd g) (SeqX2 b PX)):EvX (ZBF a b sd g) PX:=by
 obtain⟨o,e,h⟩:=h;cases h with
 |nx h=>obtain⟨z,e2,h⟩:=h;exact⟨z,by unfold ZBF;rw[e];exact e2,h⟩
 |rt h=>exact⟨_,by unfold ZBF;rw[e];rfl,h⟩
 |ex h=>exact⟨_,by unfold ZBF;rw[e];rfl,h⟩
theorem ZI0{n:Nat}{dx:DX}{ws:List W}(h:EvX (dx (ws.map some++List.replicate (n-ws.length) none) g) (runE P)):EvE (ZCe n dx ws g) P:=by
 obtain⟨o,e,h⟩:=h;cases h with
 |rt h=>exact⟨_,by unfold ZCe;rw[e],h⟩
 |nx h=>exact⟨_,by unfold ZCe;rw[e],h⟩
 |ex h=>exact⟨_,by unfold ZCe;rw[e],h⟩
inductive TryE (i:Nat) (nm:Str) (ds:DS) (sd:Sd) (P:Out->Prop):OutX->Prop
 |nx {sd':Sd} {g:G}:P (.nx sd' g)->TryE i nm ds sd P (.no (.nx sd' g))
 |ex {t:Option Int} {g:G}:EvS (ds (sd.set i (some (.exc nm t))) g) (ZSS i P)->TryE i nm ds sd P (.ex nm t g)
theorem x_try(h:EvX (a sd g) (TryE i nm ds sd PS')):EvS (ZIn i nm a ds sd g) PS':=by
 obtain⟨o,e,h⟩:=h;cases h with
 |nx h=>exact ZQ5 e h
 |ex h=>exact ZQl e h
theorem ZPd{α : Type}{src:Option Nat}{xs:List PyData}{pt:Pat}{sd0:Sd}(enc : α->PyData)(F : α->Option PyData)(so:Zj src xs g):∀L:List α,(∀a∈L,∃sd1,ZW pt (.dat (enc a)) sd0=some sd1/\EvE (d sd1 g) λo=>o=oE nm (F a) g)->ZA5 src xs pt d sd0 (L.map enc) g=some (oC nm (Zb F L) g)
 |[],_=>by
  rw[map_nil,ZA5];rfl
 |a::L,h=>by
  obtain⟨sd1,e1,z,e2,rfl⟩:=h a (mem_cons_self ..);have ih:=ZPd enc F so L λx hx=>h x (mem_cons_of_mem _ hx)
  rw[map_cons,ZA5,e1];show(d sd1 g).bind _=_;rw[e2];show(match oE nm (F a) g with|.val (.dat d) g2=>_|.ex nm t g2=>_|_=>none)=_;rw[Zb];cases hF:F a with
  |none=>rfl
  |some y =>
   show ZAN src xs g ((ZA5 src xs pt d sd0 (L.map enc) g).map (ZO6 y))=_;rw[ZAe so,ih];show some (ZO6 y (oC nm (Zb F L) g))=some (oC nm ((Zb F L).map (y::·)) g);cases Zb F L <;> rfl
theorem ZEX{α : Type}{src:Option Nat}{xs:List PyData}{pt:Pat}{sd0:Sd}{PC:OutC->Prop}(enc : α->PyData)(F : α->Option PyData)(L:List α)(e:xs=L.map enc)(so:Zj src xs g)(h:∀a∈L,∃sd1,ZW pt (.dat (enc a)) sd0=some sd1/\EvE (d sd1 g) λo=>o=oE nm (F a) g)(q:PC (oC nm (Zb F L) g)):EvC (ZA5 src xs pt d sd0 xs g) PC:=by
 refine⟨_,?_,q⟩;have:=ZPd (nm:=nm) (d:=d) (pt:=pt) (sd0:=sd0) enc F so L h;rw[←e] at this
 exact this
end
noncomputable def dXJ(nm:Str)(d:DE):DE:=λsd g=>(d sd g).bind λp=>match p.1 with
 |.exc nm' _=>if nm'=nm then some (.dat (.bool true),p.2) else none
 |.dat .none=>some (.dat (.bool false),p.2)
 |_=>none
section
variable{X:Cx}{pos p np:Pos}{e:Expr}{te:TE}{d:DE}{nm y:Str}{C D:Addr}
theorem ZO2(xc:XC0 X.K X.mg nm C)(hm:X.mg y=some (.ref D))(hk:PySem.W.kitOne X.K (.ref C) (.ref D)=some true)(hn:PySem.W.kitOne X.K (.type "NoneType") (.ref D)=some false)(hgi:Gl X "isinstance")(hmi:X.mg "isinstance" = none)(hg:Gl X y)(he:PE X e te)(hdb:(y == ("__debug__" : Str))=false:=by decide)
  (hs:starEach [e,.Name y np] X.env=(false,eval e X.env)::starEach [.Name y np] X.env:=by rfl)(hs2:starEach [.Name y np] X.env=(false,eval (.Name y np) X.env)::starEach [] X.env:=by rfl)(hpl:(backTo pos (starEach [.Name y np] X.env)).any (·.1)=false:=by rfl) :
  PE X (.Call (.Name "isinstance" p) [e,.Name y np] [] pos) (λσ H Q=>te σ H λv H1=>(∃t,ZIB H1 v C t/\Q (.bl true) H1)∨(v=.non/\Q (.bl false) H1)):=by
 intro pins s σ H Q I h;refine wpAny_Call_Name_kw (ZAv I hgi hmi (by rfl) ?_);refine PyProof.Rows.callWith_builtin1 (spliced_more (thn (he pins s σ H _ I h) λv s1 ⟨z,H1,I1,r1,q1⟩=>spliced_more (ZBv I1 hg hm ?_ hdb) hs2) hs) hs hpl;refine spliced_none ?_;rcases q1 with ⟨t,hz,q1⟩|⟨rfl,q1⟩
 ·obtain⟨x,rfl,hx⟩:=hz.at_ I1
  obtain rfl:v=Value.ref x:=r1;exact PySem.W.kia_one (ZQp xc) I1.kIn hx hk (λz=>nomatch z) λtk=>⟨.bl _,H1,I1.tok tk,rfl,q1⟩
 ·obtain rfl:v=Value.none:=r1
  exact PySem.W.kia_one PySem.W.kitx_none I1.kIn trivial hn (λz=>nomatch z) λtk=>⟨.bl _,H1,I1.tok tk,rfl,q1⟩
theorem ZMp(xc:XC0 X.K X.mg nm C)(hm:X.mg y=some (.ref D))(hk:PySem.W.kitOne X.K (.ref C) (.ref D)=some true)(hn:PySem.W.kitOne X.K (.type "NoneType") (.ref D)=some false)(hmi:X.mg "isinstance" = none)(he:JE X e d)(hgi:Gl X "isinstance":=by rfl)(hg:Gl X y:=by rfl)(hdb:(y == ("__debug__" : Str))=false:=by decide)
  (hs:starEach [e,.Name y np] X.env=(false,eval e X.env)::starEach [.Name y np] X.env:=by rfl)(hs2:starEach [.Name y np] X.env=(false,eval (.Name y np) X.env)::starEach [] X.env:=by rfl)(hpl:(backTo pos (starEach [.Name y np] X.env)).any (·.1)=false:=by rfl) :
  JE X (.Call (.Name "isinstance" p) [e,.Name y np] [] pos) (dXJ nm d):=⟨(ZO2 xc hm hk hn hgi hmi hg he.h hdb hs hs2 hpl).imp λσ H Q hh=>by
 obtain⟨ρ,sd,g,w,g',r,e0,q⟩:=hh;obtain⟨⟨w1,g1⟩,e1,e2⟩:=bnd e0;clear e0;dsimp only at e2
 split at e2
 ·rename_i nm' n
  split at e2
  ·rename_i en
   cases e2;exact⟨ρ,sd,g,_,g',r,e1,λv H1 ρ1 s1 h1 r1=>.inl ⟨n,ZJq xc (by rw[←en];exact r1),q _ H1 ρ1 s1 h1 (.dat (.bl true))⟩⟩
  ·cases e2
 ·cases e2
  refine⟨ρ,sd,g,_,g',r,e1,λv H1 ρ1 s1 h1 r1=>.inr ?_⟩;cases r1 with
  |dat r1=>cases r1;exact⟨rfl,q _ H1 ρ1 s1 h1 (.dat (.bl false))⟩
 ·cases e2⟩
end
end L2
namespace L2
open PySem PySem.Spec PyProof.Rows H1 Builtin Builtin.Str
variable{X:Cx}
theorem ZFk:∀l:List (Str×Tok),ZK ((l.map (·.1)).map V.str) (strValues l)
 |[]=>.nil
 |(x,t)::l=>.cons ⟨t,rfl⟩ (ZFk l)
theorem ZKN(x y:Str):(Txt.split x y).length<=x.length+2:=by
 unfold Txt.split
 split
 ·show 1<=_;omega
 ·split
  ·show 1<=_;omega
  ·rw[length_partsBetween]
   have:=StrLaws.occ_length_le x y 0 x.length (x.length+1);omega
theorem ZLs:MtR X "str.split" (λx vs H Q=>∃a sep:Str,x=.str a/\vs=[.str sep]/\(sep.length == 0)=false/\a.length<=500000/\∀l,H l=none->Q (.ref l) (upd H l (.lst ((Txt.split a sep).map V.str)))):=by
 intro pins s σ H x vs v us Q I rx rv h;obtain⟨a,sep,rfl,rfl,hs,hn,q⟩:=h;obtain⟨t,rfl⟩:=rx;obtain⟨u,rfl,ru⟩:=ZAk rv;obtain⟨u,rfl⟩:=ru;have fin:∀(l:List (Str×Tok)) (k:Nat),l.map (·.1)=Txt.split a sep->EP X pins σ Q (.ref s.heap.objs.size) { s with heap:=s.heap.push { cls:=.type "list",data:=.seq (strValues l).toArray },toks:=k }:=λl k e=>by
  have hl:=ZKN a sep;refine⟨.ref _,upd H s.heap.objs.size (.lst ((Txt.split a sep).map V.str)),?_,rfl,q _ (I.hok.fresh (le_refl _))⟩;refine I.laid (t':=k) (λb u e=>get?_push_of_some _ e) (le_refl _) ⟨?_,strValues l,0,by rw[←e];exact ZFk l,get?_push_size _ rfl⟩;rw[length_map];exact le_trans hl (by unfold sizeLine;omega)
 have hsz:a.length<=sizeLine:=by unfold sizeLine;omega
 have hsz2:(partsBetween a (occurrences a sep 0 a.length (a.length+1)) sep.length).length<=sizeLine:=by
  rw[length_partsBetween];have:=StrLaws.occ_length_le a sep 0 a.length (a.length+1);unfold sizeLine;omega
 cases h1:(decide (a.length<sep.length) || decide (strKind a<strKind sep))
 ·cases hf:(occurrences a sep 0 a.length (a.length+1)).isEmpty
  ·refine call_meets F.slot_str_split (typeIs_str _ _ _) F.entry_str_split (F.args_str_split_2 _ _) (meets_str_split_sep a sep t u h1 hs hf hsz hsz2) ?_
   show wants _ _ _ { s with toks:=_,heap:=s.heap.push { cls:=.type "list",data:=.seq (strsFrom s.toks (partsBetween a (occurrences a sep 0 a.length (a.length+1)) sep.length)).toArray } };rw[strsFrom_eq];exact fin (numbered s.toks _) _ ((numbered_texts _ _).trans ((if_neg (ne_true_of_eq_false h1)).trans (if_neg (ne_true_of_eq_false hf))).symm)
  ·exact call_meets F.slot_str_split (typeIs_str _ _ _) F.entry_str_split (F.args_str_split_2 _ _) (meets_str_split_not_found a sep t u h1 hs hf) (fin [(a,t)] s.toks ((if_neg (ne_true_of_eq_false h1)).trans (if_pos hf)).symm)
 ·exact call_meets F.slot_str_split (typeIs_str _ _ _) F.entry_str_split (F.args_str_split_2 _ _) (meets_str_split_cannot_occur a sep t u h1) (fin [(a,t)] s.toks (if_pos h1).symm)
theorem ZKh:ZN X (.type "int") (λxs H Q=>∃(a:Str) (n:Int),xs=[.str a]/\PySem.intText? a=some n/\a.length<=640/\Q (.int n) H):=by
 intro pins s σ H xs us Q I rv h;obtain⟨a,n,rfl,hn,hl,q⟩:=h;obtain⟨u,rfl,ru⟩:=ZAk rv;obtain⟨u,rfl⟩:=ru;exact PySem.W.KIN.call_text hn hl ⟨.int _,H,I.tok _,⟨_,rfl⟩,q⟩
end L2
namespace L2
open PySem PySem.Spec PyProof.Rows H1
noncomputable def isS:W->Bool
 |.dat (.str _)=>true
 |_=>false
noncomputable def dMt(f:W->List W->G->Option (W×G))(d:DE)(aa:DA):DE:=λsd g=>(d sd g).bind λp=>if isS p.1=true then (aa sd p.2).bind λq=>f p.1 q.1 q.2 else none
noncomputable def rM(K:PySem.W.Frag)(f:W->List W->G->Option (W×G)):V->List V->Hp->VK->Prop:=λx vs H Q=>∃ρ a ws g z g',x=.str a/\HR K ρ H g/\RelL K ρ H vs ws/\f (.dat (.str a)) ws g=some (z,g')/\Pv K ρ H z g' Q
noncomputable def ZBZ:W->List W->G->Option (W×G)
 |.dat (.str sep),[w],g=>(Zt w g).bind λds=>(ZKE ds).bind λss=>if sep.length<=16/\(ss.map (·.length)).sum+ss.length<=1048576 then some (.dat (.str (Txt.join sep ss)),g) else none
 |_,_,_=>none
noncomputable def ZA8:W->List W->G->Option (W×G)
 |.dat (.str a),[.dat (.str sep)],g=>if (sep.length == 0)=false/\a.length<=500000 then some (.dat (.list ((Txt.split a sep).map .str)),g) else none
 |_,_,_=>none
noncomputable def ZJp:W->G->Option (W×G)
 |.dat (.str a),g=>if a.length<=640 then (PySem.intText? a).map λn=>(.dat (.int n),g) else none
 |w,g=>ZPF w g
section
variable{X:Cx}
theorem ZHx{K:PySem.W.Frag}{ρ : Rh}{H:Hp}:∀{vs:List V} {ss:List Str},RelDL K ρ H vs (ss.map .str)->vs=ss.map V.str
 |_,[],.nil=>rfl
 |_,s::r,.cons (.str _) t=>by rw[ZHx t];rfl
theorem ZLZ:MtR X "str.join" (λx vs H Q=>∃(sep:Str) (l:Addr) (ss:List Str),x=.str sep/\vs=[.ref l]/\SqL X.K H l (ss.map V.str)/\sep.length<=16/\(ss.map (·.length)).sum+ss.length<=1048576/\Q (.str (Txt.join sep ss)) H):=by
 intro pins s σ H x vs v us Q I rx rv h;obtain⟨sep,l,ss,rfl,rfl,hl,h16,hx,q⟩:=h;obtain⟨t,rfl⟩:=rx;obtain⟨u,rfl,ru⟩:=ZAk rv;cases ru;obtain⟨its,r,pl,_⟩:=I.list hl;obtain⟨ps,rfl,hps⟩:=ZFo r;exact SC.join pl.isList hps (joinOk_of_weight hx h16) λt' k=>⟨.str _,H,I.tok _,⟨_,rfl⟩,q⟩
theorem mJoin:MtR X "str.join" (rM X.K ZBZ):=λpins s σ H x vs v us Q I rx rv h=>by
 obtain⟨ρ,a,ws,g,z,g',rfl,hR,rl,e,q⟩:=h;refine ZLZ pins s σ H _ vs v us Q I rx rv ?_;cases rl with
 |nil=>cases e
 |cons r1 t =>
  cases t with
  |cons _ _=>cases e
  |nil =>
   obtain⟨ds,e1,e⟩:=bnd e;obtain⟨ss,e2,e⟩:=bnd e
   split at e
   ·rename_i hz
    cases e;obtain⟨l,vs,rfl,hl,rd⟩:=Zc hR r1 e1;have:=ZI6 e2;subst this
    have:=ZHx rd;subst this
    exact⟨a,l,ss,rfl,rfl,.inl (.inl hl),hz.1,hz.2,q.at hR (.dat (.str _))⟩
   ·cases e
theorem ZQT:MtR X "str.split" (rM X.K ZA8):=λpins s σ H x vs v us Q I rx rv h=>by
 obtain⟨ρ,a,ws,g,z,g',rfl,hR,rl,e,q⟩:=h;refine ZLs pins s σ H _ vs v us Q I rx rv ?_;cases rl with
 |nil=>cases e
 |cons r1 t =>
  cases t with
  |cons _ _=>cases r1 <;> (try cases e) <;> (rename_i r1;cases r1 <;> cases e)
  |nil =>
   cases r1 with
   |dat r1 =>
    cases r1 with
    |str sep =>
     unfold ZA8 at e;dsimp only at e
     split at e
     ·rename_i hz
      cases e;exact⟨a,sep,rfl,rfl,hz.1,hz.2,λl hl=>q.new hR RelDL.ofStrs hl⟩
     ·cases e
    |_=>cases e
   |_=>cases e
theorem ZPZ:ZN X (.type "int") (rF X.K (f1 ZJp)):=by
 intro pins s σ H xs us Q I rv h;obtain⟨ρ,ws,g,z,g',hR,rl,e,q⟩:=h;cases rl with
 |nil=>cases e
 |cons r1 t =>
  cases t with
  |cons _ _=>cases e
  |nil =>
   have old:ZPF _ g=some (z,g')->wpAny (model X.prog X.w) X.A (call (.type "int") us) (EP X pins σ Q) X.xe s:=λe=>ZSR pins s σ H _ us Q I rv ⟨ρ,[_],g,z,g',hR,.cons r1 .nil,e,q⟩
   cases r1 with
   |dat r1 =>
    cases r1 with
    |str a =>
     have e:(if a.length<=640 then (PySem.intText? a).map λn=>(W.dat (.int n),g) else none)=some (z,g'):=e
     split at e
     ·rename_i hz
      obtain⟨n,e1,e2⟩:=mp e;cases e2;exact ZKh pins s σ H _ us Q I rv ⟨a,n,rfl,e1,hz,q.at hR (.dat (.int _))⟩
     ·cases e
    |_=>exact old e
   |_=>exact old e
variable{o e:Expr}{es:List Expr}{d:DE}{aa:DA}{name:Str}{apos cpos:Pos}{id:String}{f:W->List W->G->Option (W×G)}
theorem ZPr(slot:Slot "str" name id)(hty:typeOf (.builtin id)=pure (.type "method_descriptor"))(hm:MtR X id (rM X.K f))(ho:JE X o d)(ha:JA X (e::es) aa)
  (hbase:attributeBase o name X.env (eval o X.env)=eval o X.env:=by rfl)
  (hfew:((backTo cpos (starEach (e :: es) X.env)).all (λ x=>!x.1) && (backToKw cpos (keywordEach [] X.env)).all (λ x=>x.1.isSome)
   && decide ((e::es).length+([]:List Keyword).length+(if ([]:List Keyword).isEmpty then 0 else 1)<30))=true:=by rfl)
  (hline:(apos.endLine == cpos.line)=true:=by rfl)(hs:starEach (e::es) X.env=(false,eval e X.env)::starEach es X.env:=by rfl)(hplain:(backTo cpos (starEach es X.env)).any (·.1)=false:=by rfl) :
  JE X (.Call (.Attribute o name apos) (e::es) [] cpos) (dMt f d aa):=⟨(ZHX PySem.F.plainAttrs_str slot hty hm ho.h ha.h hbase hfew hline hs hplain).imp λσ H Q ⟨ρ,sd,g,x,g',r,e,q⟩=>by
 obtain⟨⟨y,g1⟩,e1,e⟩:=bnd e;refine⟨ρ,sd,g,y,g1,r,e1,λv H1 ρ1 s1 h1 r1=>?_⟩;dsimp only at e
 split at e
 case isFalse=>cases e
 rename_i his
 obtain⟨⟨ws,g2⟩,e2,e⟩:=bnd e;cases r1 with
 |dat r1 =>
  cases r1 with
  |str a=>exact⟨rfl,ρ1,sd,g1,ws,g2,r.step s1 h1,e2,λvs H2 ρ2 s2 h2 r2=>⟨ρ2,a,ws,g2,x,g',rfl,h2,r2,e,q.step (s1.trans s2)⟩⟩
  |_=>cases his
 |_=>cases his⟩
theorem ZMA{e:Expr}(ho:JE X o d)(ha:JA X [e] aa)
  (hbase:attributeBase o "join" X.env (eval o X.env)=eval o X.env:=by rfl)
  (hfew:((backTo cpos (starEach [e] X.env)).all (λ x=>!x.1) && (backToKw cpos (keywordEach [] X.env)).all (λ x=>x.1.isSome)
   && decide ([e].length+([]:List Keyword).length+(if ([]:List Keyword).isEmpty then 0 else 1)<30))=true:=by rfl)
  (hline:(apos.endLine == cpos.line)=true:=by rfl)(hs:starEach [e] X.env=(false,eval e X.env)::starEach [] X.env:=by rfl)(hplain:(backTo cpos (starEach [] X.env)).any (·.1)=false:=by rfl) :
  JE X (.Call (.Attribute o "join" apos) [e] [] cpos) (dMt ZBZ d aa):=ZPr PySem.F.slot_str_join PySem.F.type_str_join mJoin ho ha hbase hfew hline hs hplain
theorem ZCO{e:Expr}(ho:JE X o d)(ha:JA X [e] aa)
  (hbase:attributeBase o "split" X.env (eval o X.env)=eval o X.env:=by rfl)
  (hfew:((backTo cpos (starEach [e] X.env)).all (λ x=>!x.1) && (backToKw cpos (keywordEach [] X.env)).all (λ x=>x.1.isSome)
   && decide ([e].length+([]:List Keyword).length+(if ([]:List Keyword).isEmpty then 0 else 1)<30))=true:=by rfl)
  (hline:(apos.endLine == cpos.line)=true:=by rfl)(hs:starEach [e] X.env=(false,eval e X.env)::starEach [] X.env:=by rfl)(hplain:(backTo cpos (starEach [] X.env)).any (·.1)=false:=by rfl) :
  JE X (.Call (.Attribute o "split" apos) [e] [] cpos) (dMt ZA8 d aa):=ZPr PySem.F.slot_str_split PySem.F.type_str_split ZQT ho ha hbase hfew hline hs hplain
end
noncomputable def ZJ4:W->G->Option (W×G)
 |.dat (.str z),g=>if z.length<=100000 then some (.dat (.int (z.length:Int)),g) else none
 |w,g=>ZFQ w g
noncomputable def ZNe:W->G->Option (W×G)
 |.dat (.int i),g=>if i.natAbs<10 ^ 12 then some (.dat (.str (toString i:String)),g) else none
 |_,_=>none
noncomputable def ZNX:W->W->G->Option (W×G)
 |.dat (.str i),.dat (.str j),g=>some (.dat (.bool (!(Builtin.Str.occurrences j i 0 j.length 1).isEmpty)),g)
 |a,b,g=>ZIW a b g
section
variable{X:Cx}
theorem cLenS:ZN X (.builtin "len") (rF X.K (f1 ZJ4)):=by
 intro pins s σ H xs us Q I rv h;obtain⟨ρ,ws,g,z,g',hR,rl,e,q⟩:=h;cases rl with
 |nil=>cases e
 |cons r1 t =>
  cases t with
  |cons _ _=>cases e
  |nil =>
   have old:ZFQ _ g=some (z,g')->wpAny (model X.prog X.w) X.A (call (.builtin "len") us) (EP X pins σ Q) X.xe s:=λe=>ZRG pins s σ H _ us Q I rv ⟨ρ,[_],g,z,g',hR,.cons r1 .nil,e,q⟩
   cases r1 with
   |dat r1 =>
    cases r1 with
    |str a =>
     have e:(if a.length<=100000 then some (W.dat (.int (a.length:Int)),g) else none)=some (z,g'):=e
     split at e
     ·rename_i hz
      cases e;exact ZG4 pins s σ H _ us Q I rv ⟨a,rfl,le_trans hz (by decide),q.at hR (.dat (.int _))⟩
     ·cases e
    |_=>exact old e
   |_=>exact old e
theorem cStr:ZN X (.type "str") (rF X.K (f1 ZNe)):=c1 ZGE λρ H g x w z g' Q hR r e q=>by
 unfold ZNe at e
 split at e
 ·split at e
  ·rename_i hz
   cases e;cases r with
   |dat r =>
    cases r with
    |int _=>exact⟨_,rfl,ZFp hz,q.at hR (.dat (.str _))⟩
  ·cases e
 ·cases e
theorem oInT(hu:X.A.units+64<cLine):OpR X (compareOp .In) (rOp X.K ZNX):=by
 intro pins s σ H x y v u Q I rx ry h;obtain⟨ρ,a,b,g,z,g',hR,ra,rb,e,q⟩:=h;have old:ZIW a b g=some (z,g')->wpAny (model X.prog X.w) X.A (compareOp .In v u) (EP X pins σ Q) X.xe s:=λe=>oIn hu pins s σ H x y v u Q I rx ry ⟨ρ,a,b,g,z,g',hR,ra,rb,e,q⟩
 unfold ZNX at e
 split at e
 ·cases e
  cases ra with
  |dat ra =>
   cases rb with
   |dat rb =>
    cases ra;cases rb;exact ZKy pins s σ H _ _ v u Q I rx ry ⟨_,_,rfl,rfl,q.at hR (.dat (.bl _))⟩
 ·exact old e
noncomputable def ZJ3(a b:W)(g:G):Option (W×G):=match a with
 |.dat (.str z)=>(ZCF b).bind λi=>if z.length<=100000 then (atI z.cps.toList i).map λc=>(.dat (.str ⟨#[c]⟩),g) else none
 |a=>Za a b g
theorem oIxT:IxR X (rOp X.K ZJ3):=by
 intro value slice pins s σ H x y v u Q I rx ry h hs;obtain⟨ρ,a,b,g,z,g',hR,ra,rb,e,q⟩:=h;have old:Za a b g=some (z,g')->wpAny (model X.prog X.w) X.A (subscriptTail value slice v u) (EP X pins σ Q) X.xe s:=λe=>oIx value slice pins s σ H x y v u Q I rx ry ⟨ρ,a,b,g,z,g',hR,ra,rb,e,q⟩ hs
 unfold ZJ3 at e
 split at e
 ·obtain⟨i,e0,e⟩:=bnd e
  have:=ZAr rb e0;subst this
  split at e
  ·rename_i hz
   obtain⟨c,e1,e2⟩:=mp e;cases e2;cases ra with
   |dat ra =>
    cases ra;exact ZQ0 value slice pins s σ H _ _ v u Q I rx ry ⟨_,_,_,rfl,rfl,le_trans hz (by decide),e1,q.at hR (.dat (.str _))⟩ hs
  ·cases e
 ·exact old e
theorem ZFd{x n:Str}{pos:Pos}(hg:Gl X x)(h:ZPG X.mg x n)(hd:(x == ("__debug__" : Str))=false:=by decide):JE X (.Name x pos) (dC (.str n)):=⟨ZK6 (ZMi hg h hd) λ_ _=>.str n⟩
noncomputable def ZRU(d:DE):DI:=λsd g=>(d sd g).bind λp=>match p.1 with
 |.dat (.str x)=>some (ZKp x,none,p.2)
 |_=>none
theorem ZO8{tg l:Expr}{d:DE}(h:JE X l d):JI X tg l (ZRU d):=⟨(ZP4 h.h).imp λσ H R ⟨ρ,sd,g,xs,src,g',r,e,q⟩=>by
 obtain⟨⟨y,g1⟩,e1,e⟩:=bnd e;refine⟨ρ,sd,g,y,g1,r,e1,λv H1 ρ1 s1 h1 r1=>?_⟩;dsimp only at e
 split at e
 ·cases e
  cases r1 with
  |dat r1 =>
   cases r1;exact⟨_,rfl,q _ H1 ρ1 s1 h1 ⟨trivial,ItOk.str⟩⟩
 ·cases e⟩
end
noncomputable def jn(c:Nat):List (List Nat)->List Nat
 |[]=>[]
 |[a]=>a
 |a::b::l=>a++c::jn c (b::l)
theorem ZLP{c:Nat}:∀{a a' r r':List Nat},c∉a->c∉a'->a++c::r=a'++c::r'->a=a'/\r=r'
 |[],[],r,r',_,_,h=>⟨rfl,by simpa using h⟩
 |[],x::a',r,r',_,h2,h=>by
  have h:c::r=x::(a'++c::r'):=h;cases h;exact absurd (mem_cons_self ..) h2
 |x::a,[],r,r',h1,_,h=>by
  have h:x::(a++c::r)=c::r':=h;cases h;exact absurd (mem_cons_self ..) h1
 |x::a,y::a',r,r',h1,h2,h=>by
  have h:x::(a++c::r)=y::(a'++c::r'):=h;injection h with e1 e2
  obtain⟨e3,e4⟩:=ZLP (λz=>h1 (mem_cons_of_mem _ z)) (λz=>h2 (mem_cons_of_mem _ z)) e2;exact⟨by rw[e1,e3],e4⟩
theorem ZI2{c:Nat}:∀{A B:List (List Nat)},A≠[]->B≠[]->(∀a∈A,c∉a)->(∀b∈B,c∉b)->jn c A=jn c B->A=B
 |[],_,h,_,_,_,_=>absurd rfl h
 |_,[],_,h,_,_,_=>absurd rfl h
 |[a],[b],_,_,_,_,e=>by rw[show a=b from e]
 |[a],b::b'::B,_,_,hA,_,e=>by
  have e:a=b++c::jn c (b'::B):=e;exact absurd (by rw[e];exact mem_append_right _ (mem_cons_self ..)) (hA a (mem_cons_self ..))
 |a::a'::A,[b],_,_,_,hB,e=>by
  have e:a++c::jn c (a'::A)=b:=e;exact absurd (by rw[←e];exact mem_append_right _ (mem_cons_self ..)) (hB b (mem_cons_self ..))
 |a::a'::A,b::b'::B,_,_,hA,hB,e=>by
  have e:a++c::jn c (a'::A)=b++c::jn c (b'::B):=e;obtain⟨e1,e2⟩:=ZLP (hA a (mem_cons_self ..)) (hB b (mem_cons_self ..)) e;have:=ZI2 (A:=a'::A) (B:=b'::B) (by simp) (by simp) (λx hx=>hA x (mem_cons_of_mem _ hx)) (λx hx=>hB x (mem_cons_of_mem _ hx)) e2;rw[e1,this]
theorem ZCN{c:Nat}:∀ss:List Str,(Str.join ⟨#[c]⟩ ss).cps.toList=jn c (ss.map λs=>s.cps.toList)
 |[]=>rfl
 |[a]=>rfl
 |a::b::l=>by
  show((a++(⟨#[c]⟩:Str))++Str.join ⟨#[c]⟩ (b::l)).cps.toList=_;rw[Str.cps_append,Array.toList_append,Str.cps_append,Array.toList_append,ZCN (b::l),append_assoc];rfl
theorem ZBH{a b:Str}(h:a.cps.toList=b.cps.toList):a=b:=Str.ext' (Array.toList_inj.mp h)
theorem ZBq{c:Nat}{ss:List Str}(h0:ss≠[])(h:∀s∈ss,c∉s.cps.toList):Txt.split (Txt.join ⟨#[c]⟩ ss) ⟨#[c]⟩=ss:=by
 have e:Str.join ⟨#[c]⟩ (Txt.split (Txt.join ⟨#[c]⟩ ss) ⟨#[c]⟩)=Str.join ⟨#[c]⟩ ss:=by
  rw[StrLaws.join_split];show Builtin.Str.glued ⟨#[c]⟩ ss=_;rw[StrLaws.glued_eq_join]
 have k:(Str.join ⟨#[c]⟩ (Txt.split (Txt.join ⟨#[c]⟩ ss) ⟨#[c]⟩)).cps.toList=(Str.join ⟨#[c]⟩ ss).cps.toList:=by rw[e]
 rw[ZCN,ZCN] at k;have fr:=StrLaws.split_free (Txt.join ⟨#[c]⟩ ss) c;have ps:=split_pos (Txt.join ⟨#[c]⟩ ss) ⟨#[c]⟩
 generalize Txt.split (Txt.join ⟨#[c]⟩ ss) ⟨#[c]⟩=A at *
 have inj:∀{A B:List Str},A.map (λs=>s.cps.toList)=B.map (λs=>s.cps.toList)->A=B:=by
  intro A
  induction A with
  |nil=>intro B e;cases B with
   |nil=>rfl
   |cons _ _=>cases e
  |cons a A ih=>intro B e;cases B with
   |nil=>cases e
   |cons b B =>
    injection e with e1 e2
    rw[ZBH e1,ih e2]
 refine inj (ZI2 ?_ ?_ ?_ ?_ k)
 ·intro z
  rw[List.map_eq_nil_iff] at z;rw[z] at ps;exact absurd ps (by decide)
 ·intro z
  exact h0 (List.map_eq_nil_iff.mp z)
 ·intro a ha
  obtain⟨s,hs,rfl⟩:=List.mem_map.mp ha;exact fr s hs
 ·intro a ha
  obtain⟨s,hs,rfl⟩:=List.mem_map.mp ha;exact h s hs
noncomputable def nt(n:Nat):Str:=Str.ofString (toString (n:Int))
theorem ZGc(n:Nat):(nt n).cps.toList=(Nat.toDigits 10 n).map Char.toNat:=PySem.W.KIN.signs_num n
theorem ZIY{n:Nat}:∀x∈(nt n).cps.toList,48<=x/\x<=57:=by
 intro x hx;rw[ZGc] at hx;obtain⟨c,hc,rfl⟩:=List.mem_map.mp hx;have h:=Nat.isDigit_of_mem_toDigits (by decide) (by decide) hc;unfold Char.isDigit at h;rw[Bool.and_eq_true,decide_eq_true_iff,decide_eq_true_iff] at h;exact⟨h.1,h.2⟩
theorem ZGO{n:Nat}(h:n<10 ^ 9) : 1<=(nt n).length/\(nt n).length<=9:=by
 have e:(nt n).length=(Nat.toDigits 10 n).length:=by
  show(nt n).cps.size=_;rw[←Array.length_toList,ZGc,length_map]
 rw[e];refine⟨?_,(Nat.length_toDigits_le_iff (by decide) (by decide)).mpr h⟩;have:=@Nat.toDigits_ne_nil n 10;cases hh:Nat.toDigits 10 n with
 |nil=>exact absurd hh this
 |cons _ _=>exact Nat.succ_le_succ (zero_le _)
theorem ZNl:∀{n:Nat},0<n->∃d,0<d/\d<10/\(Nat.toDigits 10 n).head? = some (Nat.digitChar d):=by
 intro n
 induction n using Nat.strongRecOn with
 |ind n ih =>
  intro h;rw[Nat.toDigits_eq_if (by decide)]
  split
  ·rename_i hl
   exact⟨n,h,hl,rfl⟩
  ·rename_i hl
   obtain⟨d,h0,h1,h2⟩:=ih (n / 10) (by omega) (by omega);refine⟨d,h0,h1,?_⟩;cases hh:Nat.toDigits 10 (n / 10) with
   |nil=>rw[hh] at h2;cases h2
   |cons a r=>rw[hh] at h2;exact h2
theorem ZOR:nt 0=Str.ofString "0":=rfl
theorem ZOy{n:Nat}(h : 0<n):∃c r,(nt n).cps.toList=c::r/\49<=c/\c<=57:=by
 obtain⟨d,h0,h1,h2⟩:=ZNl h;rw[ZGc];cases hh:Nat.toDigits 10 n with
 |nil=>rw[hh] at h2;cases h2
 |cons a r =>
  rw[hh] at h2;cases h2;refine⟨_,_,rfl,?_⟩;have:∀d:Nat,d<10->0<d->49<=(Nat.digitChar d).toNat/\(Nat.digitChar d).toNat<=57:=by decide
  exact this d h1 h0
theorem ZEH{n:Nat}(h:n<10 ^ 9):PySem.intText? (nt n)=some (n:Int):=PySem.W.KIN.num_reads (by omega) (by omega)
section
variable{sd:Sd}{g:G}{d:DE}{aa:DA}{f:W->List W->G->Option (W×G)}{P:W->G->Prop}
theorem ZG5(h:EvP (d sd g) λx g1=>∃a:Str,x=.dat (.str a)/\EvP (aa sd g1) λws g2=>EvP (f (.dat (.str a)) ws g2) P):EvP (dMt f d aa sd g) P:=by
 obtain⟨x,g1,e,a,rfl,ws,g2,e2,y,g3,e3,q⟩:=h;refine⟨y,g3,?_,q⟩;show(d sd g).bind _=_;rw[e];show(aa sd g1).bind _=_;rw[e2];exact e3
theorem ZOO{sep:Str}{ss:List Str}{ds:List PyData}(hd:ds=ss.map .str)(h1:sep.length<=16)(h2:(ss.map (·.length)).sum+ss.length<=1048576)(q:P (.dat (.str (Txt.join sep ss))) g):EvP (ZBZ (.dat (.str sep)) [.dat (.list ds)] g) P:=by
 subst hd;refine⟨_,g,?_,q⟩;show(ZKE (ss.map .str)).bind _=_;rw[ZHL];exact if_pos ⟨h1,h2⟩
theorem ZIF{sep:Str}{ss:List Str}{ds:List PyData}(hd:ds=ss.map .str)(h1:sep.length<=16)(h2:ss.length<=1000)(h3:∀x∈ss,x.length<=1000)(q:P (.dat (.str (Txt.join sep ss))) g):EvP (ZBZ (.dat (.str sep)) [.dat (.list ds)] g) P:=by
 refine ZOO hd h1 ?_ q;have h4:=ZNc h3;have h5:ss.length*1000<=1000*1000:=mul_le_mul_right _ h2;omega
theorem ZCP{a sep:Str}{ss:List Str}(h1:(sep.length == 0)=false)(h2:a.length<=500000)(e:Txt.split a sep=ss)(q:P (.dat (.list (ss.map .str))) g):EvP (ZA8 (.dat (.str a)) [.dat (.str sep)] g) P:=by
 subst e;exact⟨_,g,if_pos ⟨h1,h2⟩,q⟩
theorem ZNA{a:Str}{n:Int}(h:a.length<=640)(e:PySem.intText? a=some n)(q:P (.dat (.int n)) g):EvP (f1 ZJp [.dat (.str a)] g) P:=by
 refine⟨_,g,?_,q⟩;show(if a.length<=640 then (PySem.intText? a).map λn=>(W.dat (.int n),g) else none)=_;rw[if_pos h,e];rfl
theorem ZNJ{a:Str}(h:a.length<=100000)(q:P (.dat (.int (a.length:Int))) g):EvP (f1 ZJ4 [.dat (.str a)] g) P:=⟨_,g,if_pos h,q⟩
theorem ZRb{z:Str}{i:Int}{c:Nat}(h:z.length<=100000)(e:atI z.cps.toList i=some c)(q:P (.dat (.str ⟨#[c]⟩)) g):EvP (ZJ3 (.dat (.str z)) (.dat (.int i)) g) P:=by
 refine⟨_,g,?_,q⟩;show(if z.length<=100000 then (atI z.cps.toList i).map λc=>(W.dat (.str ⟨#[c]⟩),g) else none)=_;rw[if_pos h,e];rfl
theorem ZM1{n:Nat}(h:n<10 ^ 12)(q:P (.dat (.str (nt n))) g):EvP (f1 ZNe [.dat (.int (n:Int))] g) P:=⟨_,g,if_pos (by omega),q⟩
theorem ZOo:∀c:Nat,c<=57->48<=c->(!(Builtin.Str.occurrences (Str.ofString "0123456789") ⟨#[c]⟩ 0 (Str.ofString "0123456789").length 1).isEmpty)=true:=by
 intro c h1 h2;have:c=48∨c=49∨c=50∨c=51∨c=52∨c=53∨c=54∨c=55∨c=56∨c=57:=by omega
 rcases this with rfl|rfl|rfl|rfl|rfl|rfl|rfl|rfl|rfl|rfl <;> decide +kernel
end
noncomputable def ZPg:W->W->G->Option (W×G)
 |.dat (.str i),.dat (.str j),g=>some (.dat (.bool (decide (i=j))),g)
 |_,_,_=>none
theorem ZSZ{X:Cx}:OpR X (compareOp .Eq) (rOp X.K ZPg):=by
 intro pins s σ H x y v u Q I rx ry h;obtain⟨ρ,a,b,g,z,g',hR,ra,rb,e,q⟩:=h;cases ra with
 |dat ra =>
  cases rb with
  |dat rb =>
   cases ra with
   |str i =>
    cases rb with
    |str j =>
     cases e;refine op_eq pins s σ H _ _ v u Q I rx ry ⟨rfl,?_⟩;have:decide (V.str i=V.str j)=decide (i=j):=by
      by_cases h:i=j
      ·rw[decide_eq_true h,decide_eq_true (by rw[h])]
      ·rw[decide_eq_false h,decide_eq_false (λz=>h (V.str.inj z))]
     rw[this];exact q.at hR (.dat (.bl _))
    |_=>cases e
   |_=>cases e
  |_=>cases ra <;> cases e
 |_=>cases e
theorem ZOL:∀i,i<10->(Str.ofString "0123456789").cps.extract i (i+1) = #[48+i]:=by decide +kernel
theorem ZOJ{c:Nat}(h : ¬(48<=c/\c<=57)):(!(Builtin.Str.occurrences (Str.ofString "0123456789") ⟨#[c]⟩ 0 (Str.ofString "0123456789").length 1).isEmpty)=false:=by
 cases e:Builtin.Str.occurrences (Str.ofString "0123456789") ⟨#[c]⟩ 0 (Str.ofString "0123456789").length 1 with
 |nil=>rfl
 |cons i r =>
  exfalso;have:=StrLaws.occ_spec (Str.ofString "0123456789") ⟨#[c]⟩ 0 (Str.ofString "0123456789").length 1 i (by rw[e];exact mem_cons_self ..);obtain⟨h1,h2⟩:=this
  have h1:i+1<=10:=h1;have h3:=congrArg Array.toList (eq_of_beq h2);have h4:(Str.ofString "0123456789").cps.extract i (i+1) = #[48+i]:=ZOL i (by omega);have h5:((Str.ofString "0123456789").cps.extract i (i+1)).toList=[c]:=h3;rw[h4] at h5;have h5:[48+i]=[c]:=h5;cases h5;omega
noncomputable def ZBi(c:Nat):Bool:=decide (48<=c) && decide (c<=57)
theorem ZMo(c:Nat):(!(Builtin.Str.occurrences (Str.ofString "0123456789") ⟨#[c]⟩ 0 (Str.ofString "0123456789").length 1).isEmpty)=ZBi c:=by
 unfold ZBi
 by_cases h : 48<=c/\c<=57
 ·rw[ZOo c h.2 h.1,decide_eq_true h.1,decide_eq_true h.2];rfl
 ·rw[ZOJ h]
  by_cases h1 : 48<=c
  ·rw[decide_eq_false (show ¬c<=57 from λz=>h ⟨h1,z⟩),Bool.and_false]
  ·rw[decide_eq_false h1,Bool.false_and]
noncomputable def ZDB(s:Str):Bool:=(decide (1<=s.length/\s.length<=9) && s.cps.toList.all ZBi) && (decide (s=Str.ofString "0") || !decide (s.cps.toList.head? = some 48))
theorem ZMu:∀d:Nat,d<10->(Nat.digitChar d).toNat=48+d:=by decide
theorem ZHz:∀(k:Nat) (l:List Nat),l.length=k+1->(∀c∈l,48<=c/\c<=57)->(l=[48]∨l.head?≠some 48)->∃n,(Nat.toDigits 10 n).map Char.toNat=l/\n<10 ^ (k+1)/\(l≠[48]->0<n)
 |0,l,hl,hd,h0=>by
  obtain⟨c,rfl⟩:=List.length_eq_one_iff.mp hl;have hc:=hd c (mem_cons_self ..);refine⟨c-48,?_,by omega,λh=>?_⟩
  ·rw[Nat.toDigits_eq_if (by decide),if_pos (by omega),map_cons,map_nil,ZMu _ (by omega)]
   congr 1
   omega
  ·by_cases z:c=48
   ·exact absurd (by rw[z]) h
   ·omega
 |k+1,l,hl,hd,h0=>by
  have hne:l≠[]:=λz=>by rw[z] at hl;cases hl
  have el:l.dropLast++[l.getLast hne]=l:=List.dropLast_concat_getLast hne;have hl':l.dropLast.length=k+1:=by rw[List.length_dropLast,hl];rfl
  have hc:=hd _ (List.getLast_mem hne)
  generalize l.getLast hne=c at el hc
  have hh:l.dropLast.head? = l.head?:=by
   rw[←el];cases hx:l.dropLast with
   |nil=>rw[hx] at hl';cases hl'
   |cons a r=>rw[List.dropLast_concat];rfl
  have h48:l.head?≠some 48:=by
   rcases h0 with z|z
   ·rw[z] at hl;cases hl
   ·exact z
  obtain⟨n,e1,e2,e3⟩:=ZHz k l.dropLast hl' (λc hc=>hd c (List.dropLast_subset l hc)) (.inr (by rw[hh];exact h48));have hn : 0<n:=e3 λz=>h48 (by rw[←hh,z];rfl)
  refine⟨10*n+(c-48),?_,by rw[pow_succ];omega,λ_=>by omega⟩;rw[Nat.toDigits_eq_if (by decide),if_neg (by omega),show(10*n+(c-48)) / 10=n by omega,show(10*n+(c-48)) % 10=c-48 by omega,map_append,e1,map_cons,map_nil,ZMu _ (by omega),show 48+(c-48)=c by omega];exact el
theorem ZMD{s:Str}(h:ZDB s=true):∃n,n<10 ^ 9/\s=nt n:=by
 unfold ZDB at h;rw[Bool.and_eq_true,Bool.and_eq_true,decide_eq_true_iff,all_eq_true,Bool.or_eq_true,decide_eq_true_iff,Bool.not_eq_true',decide_eq_false_iff_not] at h;obtain⟨⟨⟨h1,h2⟩,h3⟩,h4⟩:=h;have hsz:s.cps.toList.length=s.length:=Array.length_toList;have hd:∀c∈s.cps.toList,48<=c/\c<=57:=λc hc=>by
  have:=h3 c hc;unfold ZBi at this
  rw[Bool.and_eq_true,decide_eq_true_iff,decide_eq_true_iff] at this
  exact this
 obtain⟨n,e1,e2,_⟩:=ZHz (s.length-1) s.cps.toList (by omega) hd (h4.imp (λz=>by rw[z];rfl) id);refine⟨n,lt_of_lt_of_le e2 (Nat.pow_le_pow_right (by decide) (by omega)),ZBH ?_⟩;rw[ZGc,e1]
theorem ZIc{n:Nat}(h:n<10 ^ 9):ZDB (nt n)=true:=by
 have hl:=ZGO h;unfold ZDB;rw[decide_eq_true hl,Bool.true_and,Bool.and_eq_true,all_eq_true,Bool.or_eq_true];refine⟨λc hc=>?_,?_⟩
 ·have:=ZIY c hc
  unfold ZBi;rw[decide_eq_true this.1,decide_eq_true this.2];rfl
 ·by_cases hn:n=0
  ·subst hn
   exact .inl (decide_eq_true ZOR)
  ·obtain⟨c,r,e,hc1,hc2⟩:=ZOy (Nat.pos_of_ne_zero hn)
   refine .inr ?_;rw[e,Bool.not_eq_true',decide_eq_false_iff_not];intro z;cases z;omega
noncomputable def ZDw(s:Str):Option Nat:=if ZDB s=true then (PySem.intText? s).map Int.toNat else none
theorem ZGK{n:Nat}(h:n<10 ^ 9):ZDw (nt n)=some n:=by
 unfold ZDw;rw[if_pos (ZIc h),ZEH h];rfl
theorem ZCM{s:Str}{n:Nat}(h:ZDw s=some n):s=nt n/\n<10 ^ 9:=by
 unfold ZDw at h
 split at h
 ·rename_i hs
  obtain⟨m,hm,rfl⟩:=ZMD hs;rw[ZEH hm] at h;cases h;exact⟨rfl,hm⟩
 ·cases h
theorem ZKV{s:Str}(h:ZDw s=none):ZDB s=false:=by
 cases hs:ZDB s with
 |false=>rfl
 |true =>
  obtain⟨m,hm,rfl⟩:=ZMD hs;rw[ZGK hm] at h;cases h
end L2
namespace H1
open PySem
noncomputable abbrev Ris(a:Array Nat):Prop:=a.toList.Pairwise (· < ·)
theorem ZMG{xs:Array Nat}{j:Nat}(hr:Ris xs):∀(fuel lo hi:Nat),lo<=hi->hi<=xs.size->hi-lo<=fuel->(∀i,i<lo->∀v,xs[i]? = some v->v<j)->(∀i,hi<=i->∀v,xs[i]? = some v->j<=v) ->
  SetTable.below.go xs j fuel lo hi<=xs.size/\(∀i,i<SetTable.below.go xs j fuel lo hi->∀v,xs[i]? = some v->v<j)/\(∀i,SetTable.below.go xs j fuel lo hi<=i->∀v,xs[i]? = some v->j<=v):=by
 intro fuel
 induction fuel with
 |zero =>
  intro lo hi h1 h2 h3 h4 h5;have:lo=hi:=by omega
  subst this
  exact⟨h2,h4,h5⟩
 |succ fuel ih =>
  intro lo hi h1 h2 h3 h4 h5;have mono:∀(a b:Nat) (x y:Nat),a<b->xs[a]? = some x->xs[b]? = some y->x<y:=by
   intro a b x y hab ha hb;rw[←Array.getElem?_toList] at ha hb;obtain⟨ha',ea⟩:=List.getElem?_eq_some_iff.mp ha;obtain⟨hb',eb⟩:=List.getElem?_eq_some_iff.mp hb;rw[←ea,←eb];exact List.pairwise_iff_getElem.mp hr a b ha' hb' hab
  rw[SetTable.below.go]
  split
  ·rename_i hlt
   have hm:(lo+hi) / 2<xs.size:=by omega
   have em:xs[(lo+hi) / 2]? = some xs[(lo+hi) / 2]:=Array.getElem?_eq_getElem hm;have eg:xs.getD ((lo+hi) / 2) j=xs[(lo+hi) / 2]:=by simp[Array.getD,hm]
   dsimp only;rw[eg]
   by_cases hv:xs[(lo+hi) / 2]<j
   ·rw[if_pos hv]
    refine ih ((lo+hi) / 2+1) hi (by omega) h2 (by omega) (λi hi' v e=>?_) h5
    by_cases e':i=(lo+hi) / 2
    ·subst e';rw[em] at e;cases e;exact hv
    ·exact lt_trans (mono i _ v _ (by omega) e em) hv
   ·rw[if_neg hv]
    refine ih lo ((lo+hi) / 2) (by omega) (by omega) (by omega) h4 (λi hi' v e=>?_)
    by_cases e':i=(lo+hi) / 2
    ·subst e';rw[em] at e;cases e;omega
    ·have:=mono _ i _ v (by omega) em e;omega
  ·have:lo=hi:=by omega
   subst this
   exact⟨h2,h4,h5⟩
theorem ZCm{xs:Array Nat}(hr:Ris xs)(j:Nat):SetTable.below xs j<=xs.size/\(∀i,i<SetTable.below xs j->∀v,xs[i]? = some v->v<j)/\(∀i,SetTable.below xs j<=i->∀v,xs[i]? = some v->j<=v) :=
 ZMG hr xs.size 0 xs.size (zero_le _) (le_refl _) (by omega) (λ i h=>absurd h (not_lt_zero _)) (λ i h v e=>by
  have:=(Array.getElem?_eq_some_iff.mp e).1;omega)
theorem ZH8{xs:Array Nat}(hr:Ris xs){i v:Nat}(e:xs[i]? = some v):SetTable.below xs (v+1)=i+1:=by
 obtain⟨h1,h2,h3⟩:=ZCm hr (v+1);have hi:=(Array.getElem?_eq_some_iff.mp e).1;rcases Nat.lt_trichotomy (SetTable.below xs (v+1)) (i+1) with h|h|h
 ·have:=h3 i (by omega) v e;omega
 ·exact h
 ·have hs:i+1<xs.size:=by omega
  have:=h2 (i+1) h _ (Array.getElem?_eq_getElem hs);have q:xs[i]<xs[i+1]:=by
   have:=List.pairwise_iff_getElem.mp hr i (i+1) (by simpa using hi) (by simpa using hs) (by omega);simpa using this
  have e':xs[i]=v:=(Array.getElem?_eq_some_iff.mp e).2;omega
theorem ZIJ{xs:Array Nat}(hr:Ris xs):SetTable.below xs 0=0:=by
 obtain⟨h1,h2,h3⟩:=ZCm hr 0;rcases Nat.eq_zero_or_pos (SetTable.below xs 0) with h|h
 ·exact h
 ·exact absurd (h2 0 h _ (Array.getElem?_eq_getElem (by omega))) (not_lt_zero _)
theorem ZGL{xs:Array Nat}(hr:Ris xs){j:Nat}(hn:xs[SetTable.below xs j]?≠some j):Ris (SetTable.insertAt xs (SetTable.below xs j) j):=by
 obtain⟨h1,h2,h3⟩:=ZCm hr j;unfold Ris;rw[SetTable.toList_insertAt];have a1:∀a∈xs.toList.take (SetTable.below xs j),a<j:=by
  intro a ha;obtain⟨i,hi,e⟩:=List.getElem_of_mem ha;rw[List.getElem_take] at e;rw[length_take] at hi;exact h2 i (by omega) a (by rw[←Array.getElem?_toList,getElem?_eq_getElem (by omega),e])
 have a2:∀a∈xs.toList.drop (SetTable.below xs j),j<a:=by
  intro a ha;obtain⟨i,hi,e⟩:=List.getElem_of_mem ha;rw[List.getElem_drop] at e;rw[length_drop] at hi;have ee:xs[SetTable.below xs j+i]? = some a:=by rw[←Array.getElem?_toList,getElem?_eq_getElem (by omega),e]
  have:=h3 _ (by omega) a ee;rcases Nat.lt_or_eq_of_le this with q|q
  ·exact q
  ·subst q
   exfalso;cases i with
   |zero=>exact hn ee
   |succ i =>
    have h0:SetTable.below xs j<xs.toList.length:=by omega
    have p:=List.pairwise_iff_getElem.mp hr (SetTable.below xs j) (SetTable.below xs j+(i+1)) h0 (by omega) (by omega);rw[e] at p;have:=h3 (SetTable.below xs j) (le_refl _) _ (by rw[←Array.getElem?_toList,getElem?_eq_getElem h0]);omega
 refine List.pairwise_append.mpr ⟨hr.sublist (take_sublist _ _),List.pairwise_cons.mpr ⟨a2,hr.sublist (List.drop_sublist _ _)⟩,λa ha b hb=>?_⟩;rcases List.mem_cons.mp hb with rfl|hb
 ·exact a1 a ha
 ·exact lt_trans (a1 a ha) (a2 b hb)
noncomputable def orb(n:Nat):Nat->Nat->Nat
 |0,i=>i
 |k+1,i=>orb n k ((i*5+1) % n)
noncomputable def ZCV(n:Nat):Bool:=(List.range n).all λi=>(List.range n).all λq=>(List.range n).any λk=>orb n k i == q
theorem orb8:ZCV 8=true:=by decide +kernel
theorem ZPo:ZCV 32=true:=by decide +kernel
theorem ZPR{n i q:Nat}(h:ZCV n=true)(hi:i<n)(hq:q<n):∃k,k<n/\orb n k i=q:=by
 unfold ZCV at h;have h1:=List.all_eq_true.mp (List.all_eq_true.mp h i (List.mem_range.mpr hi)) q (List.mem_range.mpr hq);obtain⟨k,hk,e⟩:=List.any_eq_true.mp h1;exact⟨k,List.mem_range.mp hk,by simpa using e⟩
noncomputable def lps(m:Nat):Nat->Nat->Nat->Nat×Nat
 |0,i,p=>(i,p)
 |L+1,i,p=>lps m L (SetTable.leap m i p).1 (SetTable.leap m i p).2
theorem ZHN(m:Nat):∀(L i p:Nat),p<32 ^ L->((lps m L i p).2=0/\(0<L->(lps m L i p).1<m+1))
 |0,i,p,h=>by
  have:p=0:=by simpa using h
  exact⟨this,λh=>absurd h (lt_irrefl _)⟩
 |L+1,i,p,h=>by
  have hd:p / 32<32 ^ L:=by
   rw[pow_succ] at h;exact Nat.div_lt_of_lt_mul (by omega)
  have:=ZHN m L ((i*5+1+p / 32) % (m+1)) (p / 32) hd;refine⟨this.1,λ_=>?_⟩;cases L with
  |zero=>exact Nat.mod_lt _ (Nat.succ_pos _)
  |succ L=>exact this.2 (Nat.succ_pos _)
theorem ZJu(m:Nat):∀(a b i p:Nat),lps m (a+b) i p=lps m b (lps m a i p).1 (lps m a i p).2
 |0,b,i,p=>by rw[zero_add];rfl
 |a+1,b,i,p=>by rw[Nat.succ_add];exact ZJu m a b _ _
theorem ZJI(m:Nat):∀(k i:Nat),lps m k i 0=(orb (m+1) k i,0)
 |0,i=>rfl
 |k+1,i=>by
  show lps m k ((i*5+1+0 / 32) % (m+1)) (0 / 32)=_;rw[Nat.zero_div,Nat.add_zero];exact ZJI m k _
theorem ZOZ(h:Int):SetTable.bits h<32 ^ 13:=by
 unfold SetTable.bits;have:(h % (2 ^ 64:Int)).toNat<2 ^ 64:=by omega
 exact lt_trans this (by decide)
theorem ZI4{m:Nat}(ho:ZCV (m+1)=true)(h:Int)(i:Nat){q:Nat}(hq:q<m+1):∃L,L<m+14/\(lps m L i (SetTable.bits h)).1=q:=by
 obtain⟨h1,h2⟩:=ZHN m 13 i (SetTable.bits h) (ZOZ h);obtain⟨k,hk,e⟩:=ZPR ho (h2 (by omega)) hq;refine⟨13+k,by omega,?_⟩;rw[ZJu,h1,ZJI];exact e
section
variable{t:SetTable}
theorem ZO0(hd:t.dummies = #[])(j:Nat):(t.slot j=.empty/\t.place[SetTable.below t.place j]?≠some j)∨∃i,t.slot j=.live i/\t.place[i]? = some j:=by
 unfold SetTable.slot;dsimp only
 by_cases e:t.place[SetTable.below t.place j]? = some j
 ·right
  refine⟨_,?_,e⟩;rw[if_pos (by rw[e];exact beq_self_eq_true _)]
 ·left
  rw[if_neg (by intro z;exact e (eq_of_beq z)),if_neg (by rw[hd];simp[SetTable.has])];exact⟨rfl,e⟩
noncomputable def ZG7(t:SetTable):Nat->SetTable.Probe->SetTable.Probe
 |0,p=>p
 |k+1,p=>ZG7 t k (t.advance p)
theorem ZHW:∀(a b:Nat) (p:SetTable.Probe),ZG7 t (a+b) p=ZG7 t b (ZG7 t a p)
 |0,b,p=>by rw[zero_add];rfl
 |a+1,b,p=>by rw[Nat.succ_add];exact ZHW a b _
theorem ZKO(p:SetTable.Probe):(t.advance p).dummy=p.dummy:=by
 unfold SetTable.advance
 split <;> rfl
theorem ZMP(hd:t.dummies = #[])(h:Int):∀(fuel:Nat) (p:SetTable.Probe),p.dummy=none->(∃j,SetTable.probe.go t (λ_=>h+1) h fuel p=some (.empty j none)/\t.slot j=.empty/\t.place[SetTable.below t.place j]?≠some j)∨(SetTable.probe.go t (λ_=>h+1) h fuel p=none/\∀k:Nat,k<fuel->∃i:Nat,t.place[i]? = some (ZG7 t k p).j):=by
 intro fuel
 induction fuel with
 |zero=>intro p _;exact .inr ⟨rfl,λk hk=>absurd hk (not_lt_zero _)⟩
 |succ fuel ih =>
  intro p hp;rw[SetTable.probe.go];rcases ZO0 hd p.j with ⟨e,q⟩|⟨i,e,q⟩
  ·rw[e]
   exact .inl ⟨p.j,by rw[hp],e,q⟩
  ·rw[e]
   have hne:(h+1 == h)=false:=beq_eq_false_iff_ne.mpr (by omega);dsimp only;rw[hne];rcases ih (t.advance p) (by rw[ZKO];exact hp) with a|⟨a,b⟩
   ·exact .inl a
   ·refine .inr ⟨a,λk hk=>?_⟩
    cases k with
    |zero=>exact⟨i,q⟩
    |succ k=>exact b k (by omega)
noncomputable def stp(m i p:Nat):SetTable.Probe:={ j:=i,more:=SetTable.runEnd m i-i,i:=i,perturb:=p,dummy:=none }
theorem ZJn:∀(r:Nat) (p:SetTable.Probe),p.more=r->p.dummy=none->ZG7 t (r+1) p=stp t.mask (SetTable.leap t.mask p.i p.perturb).1 (SetTable.leap t.mask p.i p.perturb).2
 |0,p,h,hd=>by
  show t.advance p=_;unfold SetTable.advance;rw[if_neg (by omega)];obtain⟨j,m,i,q,d⟩:=p;cases hd;rfl
 |r+1,p,h,hd=>by
  show ZG7 t (r+1) (t.advance p)=_;have e:t.advance p={ p with j:=p.j+1,more:=p.more-1 }:=by
   unfold SetTable.advance;rw[if_pos (by omega)]
  rw[e];exact ZJn r { p with j:=p.j+1,more:=p.more-1 } (by show p.more-1=r;omega) hd
theorem ZJa:∀(L i p:Nat),∃k,k<=10*L/\ZG7 t k (stp t.mask i p)=stp t.mask (lps t.mask L i p).1 (lps t.mask L i p).2
 |0,i,p=>⟨0,le_refl _,rfl⟩
 |L+1,i,p=>by
  obtain⟨k,hk,e⟩:=ZJa L (SetTable.leap t.mask i p).1 (SetTable.leap t.mask i p).2;refine⟨(SetTable.runEnd t.mask i-i+1)+k,?_,?_⟩
  ·unfold SetTable.runEnd
   split <;> omega
  ·rw[ZHW,ZJn (SetTable.runEnd t.mask i-i) (stp t.mask i p) rfl rfl]
   exact e
theorem ZKG(hd:t.dummies = #[])(ho:ZCV (t.mask+1)=true)(hs:t.place.size<=t.mask)(h:Int):∃j,t.freeSlot h=some (j,false)/\t.place[SetTable.below t.place j]?≠some j:=by
 unfold SetTable.freeSlot SetTable.probe;have e0:t.probeStart h=stp t.mask (SetTable.bits h % (t.mask+1)) (SetTable.bits h):=rfl;rw[e0];rcases ZMP hd h (10*SetTable.turns t.mask) (stp t.mask (SetTable.bits h % (t.mask+1)) (SetTable.bits h)) rfl with ⟨j,e,_,q⟩|⟨e,q⟩
 ·rw[e];exact⟨j,rfl,q⟩
 ·exfalso
  have:∀x∈List.range (t.mask+1),x∈t.place.toList:=by
   intro x hx;obtain⟨L,hL,eL⟩:=ZI4 ho h (SetTable.bits h % (t.mask+1)) (List.mem_range.mp hx);obtain⟨k,hk,ek⟩:=ZJa (t:=t) L (SetTable.bits h % (t.mask+1)) (SetTable.bits h);obtain⟨i,hi⟩:=q k (by unfold SetTable.turns;omega);rw[ek] at hi;have hi':t.place[i]? = some x:=by rw[hi];exact congrArg some eL
   rw[←Array.getElem?_toList] at hi';exact mem_of_getElem? hi'
  have:=List.Nodup.length_le_of_subset (nodup_range (n:=t.mask+1)) this
  rw[length_range,Array.length_toList] at this
  omega
end
structure Own (m:Nat) (owner:Array (Option Nat)) (js:List Nat):Prop where
 size:owner.size=m+1
 nd:js.Nodup
 lt:∀j∈js,j<m+1
 at_:∀j i:Nat,owner.getD j none=some i ↔ js[i]? = some j
theorem ZOa{m:Nat}{owner:Array (Option Nat)}(hs:owner.size=m+1):∀(fuel i p:Nat),(∃j,SetTable.layClean.free m owner fuel i p=some j/\j<m+1/\owner.getD j none=none)∨(SetTable.layClean.free m owner fuel i p=none/\∀L,L<fuel->∃x,owner.getD (lps m L i p).1 (some 0)=some x):=by
 intro fuel
 induction fuel with
 |zero=>intro i p;exact .inr ⟨rfl,λL h=>absurd h (not_lt_zero _)⟩
 |succ fuel ih =>
  intro i p;rw[SetTable.layClean.free];cases e:(List.range (SetTable.runEnd m i+1-i)).find? (λk=>(owner.getD (i+k) (some 0)).isNone) with
  |some k =>
   have hk:=List.find?_some e;left;have hz:i+k<owner.size:=by
    rcases lt_or_ge (i+k) owner.size with h|h
    ·exact h
    ·have:owner.getD (i+k) (some 0)=some 0:=by simp[Array.getD,Nat.not_lt.mpr h]
     rw[this] at hk;cases hk
   refine⟨i+k,rfl,by omega,?_⟩;simp only[Array.getD,hz,dif_pos] at hk ⊢;exact Option.isNone_iff_eq_none.mp hk
  |none =>
   dsimp only;rcases ih (SetTable.leap m i p).1 (SetTable.leap m i p).2 with a|⟨a,b⟩
   ·exact .inl a
   ·refine .inr ⟨a,λL hL=>?_⟩
    cases L with
    |zero =>
     have h0 : 0∈List.range (SetTable.runEnd m i+1-i):=by
      refine List.mem_range.mpr ?_;unfold SetTable.runEnd
      split <;> omega
     have:=List.find?_eq_none.mp e 0 h0;cases q:owner.getD (i+0) (some 0) with
     |none=>rw[q] at this;exact absurd rfl this
     |some x=>exact⟨x,q⟩
    |succ L=>exact b L (by omega)
theorem Own.free{m:Nat}{owner:Array (Option Nat)}{js:List Nat}(o:Own m owner js)(ho:ZCV (m+1)=true)(hl:js.length<=m)(h:Int):∃j,SetTable.layClean.free m owner (SetTable.turns m) (SetTable.bits h % (m+1)) (SetTable.bits h)=some j/\Own m (owner.setIfInBounds j (some js.length)) (js++[j]):=by
 rcases ZOa o.size (SetTable.turns m) (SetTable.bits h % (m+1)) (SetTable.bits h) with ⟨j,e,hj,q⟩|⟨e,q⟩
 ·have hnj:j∉js:=by
   intro z;obtain⟨i,hi,ei⟩:=List.getElem_of_mem z;have:=(o.at_ j i).mpr (by rw[getElem?_eq_getElem hi,ei]);rw[q] at this;cases this
  refine⟨j,e,⟨by rw[Array.size_setIfInBounds];exact o.size,?_,?_,?_⟩⟩
  ·exact List.nodup_append.mpr ⟨o.nd,by simp,λa ha b hb=>by rw[mem_singleton] at hb;subst hb;intro z;subst z;exact hnj ha⟩
  ·intro x hx
   rcases List.mem_append.mp hx with hx|hx
   ·exact o.lt x hx
   ·rw[mem_singleton] at hx;subst hx;exact hj
  ·intro x i
   have hsz:j<owner.size:=by rw[o.size];exact hj
   have eg:(owner.setIfInBounds j (some js.length)).getD x none=if x=j then some js.length else owner.getD x none:=by
    rw[Array.getD_eq_getD_getElem?,Array.getD_eq_getD_getElem?,Array.getElem?_setIfInBounds]
    by_cases z:j=x
    ·subst z;rw[if_pos rfl,if_pos rfl,if_pos hsz];rfl
    ·rw[if_neg z,if_neg (Ne.symm z)]
   rw[eg]
   by_cases z:x=j
   ·subst z
    rw[if_pos rfl];constructor
    ·intro w;cases w
     rw[getElem?_append_right (le_refl _),sub_self];rfl
    ·intro w
     rcases lt_or_ge i js.length with hi|hi
     ·rw[getElem?_append_left hi] at w
      exact absurd (mem_of_getElem? w) hnj
     ·have:=(List.getElem?_eq_some_iff.mp w).1
      rw[length_append,List.length_singleton] at this
      exact congrArg some (by omega)
   ·rw[if_neg z,o.at_]
    rcases lt_or_ge i js.length with hi|hi
    ·rw[getElem?_append_left hi]
    ·rw[getElem?_append_right hi]
     constructor
     ·intro w;have:=(List.getElem?_eq_some_iff.mp w).1;omega
     ·intro w
      have:=mem_of_getElem? w;rw[mem_singleton] at this
      exact absurd this z
 ·exfalso
  have:∀x∈List.range (m+1),x∈js:=by
   intro x hx;obtain⟨L,hL,eL⟩:=ZI4 ho h (SetTable.bits h % (m+1)) (List.mem_range.mp hx);obtain⟨v,hv⟩:=q L (by unfold SetTable.turns;omega);rw[eL] at hv;have hxs:x<owner.size:=by rw[o.size];exact List.mem_range.mp hx
   have:owner.getD x none=some v:=by
    simp only[Array.getD,hxs,dif_pos] at hv ⊢;exact hv
   exact mem_of_getElem? ((o.at_ x v).mp this)
  have:=List.Nodup.length_le_of_subset (nodup_range (n:=m+1)) this
  rw[length_range] at this
  omega
end H1
namespace H1
open PySem PySem.Spec PyProof.Rows
theorem Own.init(m:Nat):Own m (Array.replicate (m+1) none) [] :=
 ⟨Array.size_replicate,nodup_nil,λj h=>absurd h (not_mem_nil),λj i=>by
  constructor
  ·intro e
   have:(Array.replicate (m+1) (none:Option Nat)).getD j none=none:=by
    rw[Array.getD_eq_getD_getElem?,Array.getElem?_replicate]
    split <;> rfl
   rw[this] at e;cases e
  ·intro e;cases e⟩
noncomputable def ZN5(m:Nat):Option (Array (Option Nat)×Nat)->Int->Option (Array (Option Nat)×Nat):=λacc h=>do
  let (owner,k) ←acc
  let j ←SetTable.layClean.free m owner (SetTable.turns m) (SetTable.bits h % (m+1)) (SetTable.bits h)
  pure (owner.setIfInBounds j (some k),k+1)
theorem ZHU{m:Nat}(ho:ZCV (m+1)=true):∀(hs:List Int) (owner:Array (Option Nat)) (js:List Nat),Own m owner js->js.length+hs.length<=m+1 ->
  ∃owner' js',hs.foldl (ZN5 m) (some (owner,js.length))=some (owner',js'.length)/\Own m owner' js'/\js'.length=js.length+hs.length
 |[],owner,js,o,_=>⟨owner,js,rfl,o,rfl⟩
 |h::hs,owner,js,o,hl=>by
  rw[length_cons] at hl;obtain⟨j,e,o'⟩:=o.free ho (by omega) h;have l':(js++[j]).length=js.length+1:=by rw[length_append];rfl
  obtain⟨w1,js',q1,q2,q3⟩:=ZHU ho hs _ _ o' (by rw[l'];omega);refine⟨w1,js',?_,q2,by rw[q3,l',length_cons];omega⟩;rw[foldl_cons,←q1,l'];have:ZN5 m (some (owner,js.length)) h=some (owner.setIfInBounds j (some js.length),js.length+1):=by
   show(SetTable.layClean.free m owner (SetTable.turns m) (SetTable.bits h % (m+1)) (SetTable.bits h)).bind _=_;rw[e];rfl
  rw[this]
theorem ZOp{m:Nat}(ho:ZCV (m+1)=true)(f mv:Nat)(led pl:Bool)(hs:Array Int)(hl:hs.size<=m) :
  ∃t' order,SetTable.laid m f mv led pl hs=some (t',order)/\t'.dummies = #[]/\t'.mask=m/\t'.led=led/\t'.plain=pl/\Ris t'.place/\t'.place.size=hs.size/\order.toList.Perm (List.range hs.size):=by
 obtain⟨owner,js,q1,q2,q3⟩:=ZHU ho hs.toList _ [] (Own.init m) (by rw[length_nil,Array.length_toList];omega);replace q3:js.length=hs.size:=by rw[q3,length_nil,zero_add,Array.length_toList]
 have e:SetTable.layClean m hs=some owner:=by
  unfold SetTable.layClean;rw[←Array.foldl_toList];have:List.foldl (ZN5 m) (some (Array.replicate (m+1) none,0)) hs.toList=some (owner,js.length):=q1;show Option.map (·.1) (List.foldl (ZN5 m) (some (Array.replicate (m+1) none,0)) hs.toList)=_;rw[this];rfl
 unfold SetTable.laid;rw[e];have hperm:(((List.range (m+1)).filterMap λj=>(owner.getD j none).map (j,·)).map (·.2)).Perm (List.range hs.size):=by
  refine(List.perm_ext_iff_of_nodup ?_ nodup_range).mpr λx=>?_
  ·refine List.pairwise_map.mpr ?_
   refine List.Pairwise.filterMap _ (λa a' haa b hb b' hb'=>?_) List.pairwise_lt_range;cases e1:owner.getD a none with
   |none=>rw[e1] at hb;cases hb
   |some i =>
    cases e2:owner.getD a' none with
    |none=>rw[e2] at hb';cases hb'
    |some i' =>
     rw[e1] at hb;rw[e2] at hb';cases hb;cases hb';intro z;have z':i=i':=z;subst z';have h1:=(q2.at_ _ _).mp e1;have h2:=(q2.at_ _ _).mp e2;rw[h1] at h2;cases h2;exact lt_irrefl _ haa
  ·rw[List.mem_range,List.mem_map]
   constructor
   ·rintro ⟨⟨j,i⟩,hm,rfl⟩
    obtain⟨j',hj',e1⟩:=List.mem_filterMap.mp hm;cases e2:owner.getD j' none with
    |none=>rw[e2] at e1;cases e1
    |some i' =>
     rw[e2] at e1;cases e1;have:=(List.getElem?_eq_some_iff.mp ((q2.at_ _ _).mp e2)).1;rw[q3] at this
     exact this
   ·intro hx
    have hx':x<js.length:=by rw[q3];exact hx
    have e1:=(q2.at_ js[x] x).mpr (getElem?_eq_getElem hx');exact⟨(js[x],x),List.mem_filterMap.mpr ⟨js[x],List.mem_range.mpr (q2.lt _ (getElem_mem hx')),by rw[e1];rfl⟩,rfl⟩
 have hlen:((List.range (m+1)).filterMap λj=>(owner.getD j none).map (j,·)).length=hs.size:=by
  have:=hperm.length_eq;rw[length_map,length_range] at this
  exact this
 refine⟨_,_,rfl,rfl,rfl,rfl,rfl,?_,?_,hperm⟩
 ·show List.Pairwise _ _
  refine List.pairwise_map.mpr ?_;refine List.Pairwise.filterMap _ (λa a' haa b hb b' hb'=>?_) List.pairwise_lt_range;cases e1:owner.getD a none with
  |none=>rw[e1] at hb;cases hb
  |some i =>
   cases e2:owner.getD a' none with
   |none=>rw[e2] at hb';cases hb'
   |some i' =>
    rw[e1] at hb;rw[e2] at hb';cases hb;cases hb';exact haa
 ·show(List.toArray _).size=_
  rw[size_toArray,length_map];exact hlen
structure TI (L:Bool) (t:SetTable) (n:Nat):Prop where
 dum:t.dummies = #[]
 plain:t.plain=true
 led:t.led=L
 ris:Ris t.place
 size:t.place.size=n
 mask:(t.mask=7/\n<=4)∨(t.mask=31/\n<=18)
theorem TI.fits{L:Bool}{t:SetTable}{n:Nat}(h:TI L t n):t.fits n=true:=by
 unfold SetTable.fits SetTable.fill;rw[h.size,h.dum];have:(n+(#[]:Array Nat).size<=t.mask):=by
  show n+0<=t.mask;rcases h.mask with ⟨a,b⟩|⟨a,b⟩ <;> omega
 simpa using this
theorem TI.fresh(L:Bool):TI L (.fresh 0 0 L) 0:=⟨rfl,rfl,rfl,List.Pairwise.nil,rfl,.inl ⟨rfl,by omega⟩⟩
theorem ZM{α : Type}(xs:Array α)(p:Nat)(x : α):(SetTable.insertAt xs p x).size=xs.size+1:=by
 have:=(SetTable.insertAt_perm xs p x).length_eq;rw[Array.length_toList,Array.length_toList,Array.size_push] at this
 exact this
theorem TI.add{L:Bool}{t:SetTable}{es:Array (Int×Value)}(ti:TI L t es.size)(hn:es.size+1<=18)(h:Int)(x:Value) :
  ∃es1 t1,layNew t es h x=(es1,t1,false,false)/\t1.plain=true/\t1.fits es1.size=true/\es1.size=es.size+1 /\
   ((t1.tooFull=false/\TI L t1 es1.size)∨(t1.tooFull=true/\∃es2 t2,relayAll t1 es1 (SetTable.grown es1.size)=(es2,t2,false)/\es2.size=es1.size/\TI L t2 es2.size)):=by
 have hm:t.place.size<=t.mask/\ZCV (t.mask+1)=true:=by
  rw[ti.size];rcases ti.mask with ⟨a,b⟩|⟨a,b⟩
  ·rw[a];exact⟨by omega,orb8⟩
  ·rw[a];exact⟨by omega,ZPo⟩
 obtain⟨j,e,q⟩:=ZKG ti.dum hm.2 hm.1 h;have hp:t.put j=({ t with place:=SetTable.insertAt t.place (SetTable.below t.place j) j,dummies:=#[] },SetTable.below t.place j):=by
  unfold SetTable.put;rw[ti.dum];simp[SetTable.has]
 have hf:({ t with place:=SetTable.insertAt t.place (SetTable.below t.place j) j,dummies:=#[] }:SetTable).fits (es.size+1)=true:=by
  unfold SetTable.fits SetTable.fill;dsimp only;rw[ZM,ti.size];have:(es.size+1+(#[]:Array Nat).size<=t.mask):=by
   show es.size+1+0<=t.mask;rcases ti.mask with ⟨a,b⟩|⟨a,b⟩ <;> omega
  simpa using this
 refine⟨SetTable.insertAt es (SetTable.below t.place j) (h,x),{ t with place:=SetTable.insertAt t.place (SetTable.below t.place j) j,dummies:=#[] },?_,ti.plain,?_,ZM _ _ _,?_⟩
 ·unfold layNew
  rw[e];dsimp only;rw[hp];dsimp only;rw[ZM];unfold SetTable.orStandIn;rw[if_pos hf,hf];rfl
 ·rw[ZM];exact hf
 ·rw[ZM]
  have hfill:({ t with place:=SetTable.insertAt t.place (SetTable.below t.place j) j,dummies:=#[] }:SetTable).fill=es.size+1:=by
   unfold SetTable.fill;dsimp only;rw[ZM,ti.size];rfl
  by_cases hz:({ t with place:=SetTable.insertAt t.place (SetTable.below t.place j) j,dummies:=#[] }:SetTable).tooFull=true
  ·right
   refine⟨hz,?_⟩;unfold SetTable.tooFull at hz;rw[hfill] at hz;have hz':(es.size+1)*5 ≥ t.mask*3:=of_decide_eq_true hz;have h4:es.size=4:=by rcases ti.mask with ⟨a,b⟩|⟨a,b⟩ <;> omega
   have hg:SetTable.sizeAbove (SetTable.grown (es.size+1))-1=31:=by rw[h4];decide
   unfold relayAll SetTable.relaid;rw[hg];obtain⟨t',order,q1,q2,q3,q4,q5,q6,q7,q8⟩:=ZOp ZPo t.finger (SetTable.movedTo { t with place:=SetTable.insertAt t.place (SetTable.below t.place j) j,dummies:=#[] } 31) t.led t.plain ((SetTable.insertAt es (SetTable.below t.place j) (h,x)).map (·.1)) (by rw[Array.size_map,ZM];omega);rw[Array.size_map,ZM] at q7 q8;dsimp only;rw[q1];dsimp only;have hsz:(order.filterMap ((SetTable.insertAt es (SetTable.below t.place j) (h,x))[·]?)).size=es.size+1:=by
    rw[←Array.length_toList,Array.toList_filterMap];have:=(q8.filterMap (λi=>(SetTable.insertAt es (SetTable.below t.place j) (h,x))[i]?)).length_eq;rw[this];have:=filterMap_getElem?_range (SetTable.insertAt es (SetTable.below t.place j) (h,x));rw[ZM] at this
    rw[this,Array.length_toList,ZM]
   have hc:coversAll order (SetTable.insertAt es (SetTable.below t.place j) (h,x)).size=true:=by
    unfold coversAll;rw[ZM];exact List.isPerm_iff.mpr q8
   have ti':TI L t' (es.size+1):=⟨q2,by rw[q5];exact ti.plain,by rw[q4];exact ti.led,q6,q7,.inr ⟨q3,hn⟩⟩;refine⟨_,t',by rw[hc,hsz,ti'.fits];rfl,hsz,by rw[hsz];exact ti'⟩
  ·left
   have hz:=Bool.eq_false_iff.mpr hz;refine⟨hz,⟨rfl,ti.plain,ti.led,ZGL ti.ris q,by dsimp only;rw[ZM,ti.size],?_⟩⟩;unfold SetTable.tooFull at hz;rw[hfill] at hz;have hz' : ¬(es.size+1)*5 ≥ t.mask*3:=of_decide_eq_false hz;rcases ti.mask with ⟨a,b⟩|⟨a,b⟩
   ·exact .inl ⟨a,by omega⟩
   ·exact .inr ⟨a,hn⟩
noncomputable def iv:Value->Int
 |.int n _=>n
 |_=>0
noncomputable def ZEb(prog:Program)(w:World)(L:Bool)(h:Heap)(a:Addr)(ks:List Int):Prop :=
 ∃o es ep t,h.get? a=some o/\o.ExactSet/\o.data=.set es ep t/\ElemsOf (intKind prog w) es.toList/\TI L t es.size/\(∀e∈es.toList,∃n k,e.2=.int n k)/\(es.toList.map λe=>iv e.2).Perm ks
section
variable{prog:Program}{w:World}{A:Around}{E:Value->Shared->Prop}{s:Shared}{L:Bool}
theorem ZEb.at'{h h':Heap}{a:Addr}{ks:List Int}(x:ZEb prog w L h a ks)(e:∀o,h.get? a=some o->h'.get? a=some o):ZEb prog w L h' a ks :=
 let ⟨o,es,ep,t,ho,r⟩:=x;⟨o,es,ep,t,e _ ho,r⟩
theorem ZNT{a:Addr}{ks:List Int}{k:Int}{tk:Tok}{Q:Bool->Shared->Prop}(hS:ZEb prog w L s.heap a ks)(hr:ks.length+1<=18)
  (h:∀b h',Heap.SameBut a s.heap h'->ZEb prog w L h' a (step_dedup ks k)->Q b { s with heap:=h' }) :
  wpAny (model prog w) A (setAddHashed a (.int k tk) ((intKind prog w).hash k)) Q E s:=by
 obtain⟨o,es,ep,t,ho,hex,hd,hel,ti,hi,hp⟩:=hS;have hlen:es.size=ks.length:=by have:=hp.length_eq;rw[length_map,Array.length_toList] at this;exact this
 have hsb:es.size<scanBound:=by unfold scanBound;omega
 have hsc:(Value.int k tk).scannable=true:=rfl;have hkey:(intKind prog w).is k (.int k tk)=true:=intKind_is _ _ _ _;have hf:=ti.fits;unfold setAddHashed setAddHashedIn;refine wpAny_holding (wpAny_bind (wpAny_setState_of ho hd hf ?_));dsimp only;rw[byScan_of hsc hsb hel];simp only[↓reduceIte];unfold setAddByScan;refine wpAny_bind ?_;refine wpAny_bind (wpAny_rule ?_);refine wpAny_bind (wpAny_setScan_of hkey ho hd hf hel ?_);cases hr':List.findIdx? (λe=>(intKind prog w).is k e.2) es.toList with
 |some j =>
  dsimp only;obtain⟨hj,hpj,_⟩:=List.findIdx?_eq_some_iff_getElem.mp hr';obtain⟨t',e'⟩:=Value.isInt_shape (k:=k) (v:=(es.toList[j]).2) hpj;have hk:k∈ks:=hp.mem_iff.mp (List.mem_map.mpr ⟨es.toList[j],getElem_mem hj,by rw[e'];rfl⟩);have hsd:step_dedup ks k=ks:=by
   have ha:(ks.any λx=>x == k)=true:=List.any_eq_true.mpr ⟨k,hk,beq_self_eq_true k⟩;unfold step_dedup;rw[ha];rfl
  refine wpAny_pure (wpAny_pure ?_);have e:s={ s with heap:=s.heap }:=by cases s;rfl
  rw[e];exact h _ s.heap (Heap.SameBut.refl a s.heap) (by rw[hsd];exact⟨o,es,ep,t,ho,hex,hd,hel,ti,hi,hp⟩)
 |none =>
  dsimp only;have hk:k∉ks:=by
   intro z;obtain⟨e,he,ee⟩:=List.mem_map.mp (hp.mem_iff.mpr z);obtain⟨n,q,e2⟩:=hi e he;have:=List.findIdx?_eq_none_iff.mp hr' e he;rw[e2] at this ee
   have ee':n=k:=ee;subst ee';rw[intKind_is] at this
   cases this
  have hsd:step_dedup ks k=ks++[k]:=by
   unfold step_dedup;rw[if_neg];intro z;obtain⟨x,hx,e⟩:=List.any_eq_true.mp z;exact hk (eq_of_beq e ▸ hx)
  have hperm:=layNew_perm t es ((intKind prog w).hash k) (.int k tk);obtain⟨es1,t1,hL,hpl,hf1,hz1,hrest⟩:=ti.add (by omega) ((intKind prog w).hash k) (.int k tk);rw[hL] at hperm ⊢;dsimp only at hperm ⊢;rw[Array.toList_push] at hperm;have hel1:ElemsOf (intKind prog w) es1.toList:=(hel.push hkey hsc).perm hperm;have hi1:∀e∈es1.toList,∃n q,e.2=Value.int n q:=by
   intro e he;rcases List.mem_append.mp (hperm.mem_iff.mp he) with h1|h1
   ·exact hi e h1
   ·rw[mem_singleton] at h1;subst h1;exact⟨_,_,rfl⟩
  have hp1:(es1.toList.map λe=>iv e.2).Perm (ks++[k]):=by
   refine(hperm.map _).trans ?_;rw[map_append];exact hp.append_right _
  have hz1':es1.size<=sizeLine:=fits_of_scanBound (by rw[hz1];unfold scanBound;omega);refine wpAny_bind (wpAny_of_eq (a:=()) rfl ?_);rw[hpl];simp only[↓reduceIte];refine wpAny_bind ?_;rw[hashByValue_scannable 8 hsc];refine wpAny_pure ?_;rw[if_pos (show plainKind (Value.int k tk)=true from rfl)];refine wpAny_bind (wpAny_storeSet_of ho hd ?_ hz1');have hg:(s.heap.update a (Obj.putSet es1 t1)).get? a=some { o with data:=.set es1 (ep+1) t1 }:=by
   have:=get?_update_self (Obj.putSet es1 t1) ho (by rw[putSet_of es1 t1 hd];rfl);rw[putSet_of es1 t1 hd] at this;exact this
  have hsb1:=Heap.SameBut.update s.heap a (Obj.putSet es1 t1);rcases hrest with ⟨hz,ti1⟩|⟨hz,es2,t2,hR,hz2,ti2⟩
  ·rw[hz]
   simp only[Bool.not_false,Bool.true_and,Bool.false_eq_true,↓reduceIte];exact wpAny_pure (wpAny_pure (h _ _ hsb1 (by rw[hsd];exact⟨_,es1,ep+1,t1,hg,hex,rfl,hel1,ti1,hi1,hp1⟩)))
  ·rw[hz]
   simp only[Bool.not_false,Bool.true_and,↓reduceIte];have hp2:=relayAll_perm t1 es1 (SetTable.grown es1.size);rw[hR] at hp2 ⊢;dsimp only at hp2 ⊢;refine wpAny_bind (wpAny_of_eq (a:=()) rfl ?_);refine wpAny_bind (wpAny_storeSet_of hg rfl ?_ (by rw[hz2];exact hz1'));have hg2:((s.heap.update a (Obj.putSet es1 t1)).update a (Obj.putSet es2 t2)).get? a=some { o with data:=.set es2 (ep+1+1) t2 }:=by
    have:=get?_update_self (Obj.putSet es2 t2) hg (by rw[putSet_of es2 t2 rfl];rfl);rw[putSet_of es2 t2 rfl] at this;exact this
   exact wpAny_pure (wpAny_pure (h _ _ (hsb1.trans (Heap.SameBut.update _ a _)) (by
    rw[hsd];exact⟨_,es2,ep+1+1,t2,hg2,hex,rfl,hel1.perm hp2,ti2,λe he=>hi1 e (hp2.mem_iff.mp he),(hp2.map _).trans hp1⟩)))
end
section
variable{prog:Program}{w:World}{A:Around}{R:Result->Shared->Prop}{I:Addr}{fp wr:List Addr}{G:Array GenState->Array GenState->Prop}{n:Nat}{P:Nat->Value->Prop}{St:Nat->Shared->Prop}{L:Bool}
theorem ZL9(W:WalksS prog w A.in1 I fp wr G n P St)(S:Addr)(hSf:S∉fp)(val:Nat->Int)(hval:∀i v,P i v->∃t,v=.int (val i) t)(hb:n<=17) :
  ∀(k i:Nat) (s:Shared),n-i=k->i<=n->St i s->ZEb prog w L s.heap S (firstMet val i) ->
   (∀s',Moved (S::wr) G s s'->ZEb prog w L s'.heap S (firstMet val n)->R (.ok (.ret .none)) s') ->
   codeAny (model prog w) A (.builtin "set.update.loop" ⟨[.ref S,.ref I],[]⟩) R s:=by
 have hSw:S∉wr:=λh=>hSf (W.sub _ h)
 have hsub:∀b∈wr,b∈S::wr:=λb hb=>mem_cons_of_mem _ hb
 intro k
 induction k with
 |zero =>
  intro i s hk hi hst hS hR;have hin:i=n:=by omega
  subst hin;refine codeAny_builtin PyProof.Rows.F.entry_set_update_loop ?_;rw[Around.under_plainId PyProof.Rows.F.plain_set_update_loop _];show wpAny _ A.in1 (pyNext (.ref I) >>= _) _ _ s;refine wpAny_bind (W.done s _ _ hst λs' hm=>?_);show wpAny _ A.in1 (ret Value.none) _ _ s';exact wpAny_pure (hR s' (hm.mono hsub) (hS.at' λo e=>hm.heap S _ hSw e))
 |succ k ih =>
  intro i s hk hi hst hS hR;have hlt:i<n:=by omega
  refine codeAny_builtin PyProof.Rows.F.entry_set_update_loop ?_;rw[Around.under_plainId PyProof.Rows.F.plain_set_update_loop _];show wpAny _ A.in1 (pyNext (.ref I) >>= _) _ _ s;refine wpAny_bind (W.item i s _ _ hlt hst λv s' hP hst' hm=>?_);obtain⟨t,rfl⟩:=hval i v hP;have hS':ZEb prog w L s'.heap S (firstMet val i):=hS.at' λo e=>hm.heap S _ hSw e
  show wpAny _ A.in1 (holding [Value.int (val i) t] (setAdd S (.int (val i) t)) >>= _) _ _ s';refine wpAny_bind (wpAny_holding ?_);unfold setAdd;refine wpAny_holding ?_;refine wpAny_bind ((intKind prog w).pyHash (k:=val i) (intKind_is _ _ _ _) ?_);refine ZNT (L:=L) (s:={ s' with toks:=s'.toks+1 }) hS' (by have:=firstMet_length_le val i;omega) λb h' hsb hS2=>?_
  rw[←firstMet_succ] at hS2;refine wpAny_pure ⟨plainId_quiet PyProof.Rows.F.plain_set_update_loop _,ih (i+1) _ (by omega) hlt (W.frame _ s' _ _ hst' (le_succ _) λb hb o e=>?_) hS2 λs'' hm'' hS''=>?_⟩
  ·rw[hsb.2 b (λh:b=S=>hSf (by rw[←h];exact hb))];exact e
  ·refine hR s'' (Moved.trans W.gtrans ((hm.mono hsub).then_heap (le_succ _) λb o hb e=>?_) hm'') hS''
   rw[hsb.2 b (λh:b=S=>hb (by rw[h];exact mem_cons_self))];exact e
end
section
variable{prog:Program}{w:World}{A:Around}{E:Value->Shared->Prop}{s:Shared}
noncomputable abbrev ZBj(w:World):Bool:=!w.params.followText "set-order"
noncomputable abbrev ZEn(w:World):Obj:={ cls:=.type "set",dict:=none,data:=.set #[] 0 (.fresh 0 0 (ZBj w)) }
theorem ZPD(a:Value){Q₁ : Value->Shared->Prop}(h:Q₁ (.ref s.heap.objs.size) { s with heap:=s.heap.push (ZEn w) }) :
  codeAny (model prog w) A (.call (.builtin "set.__new__") ⟨[.type "set",a],[]⟩) (wants Q₁ E) s:=by
 refine codeAny_of_tree ?_;show wpAny _ A.in1 (do checkBuiltinCall "set.__new__" ⟨[.type "set",a],[]⟩;again (.builtin "set.__new__" ⟨[.type "set",a],[]⟩)) _ _ s;refine wpAny_bind (wpAny_of_eq (PySem.F.newCall_set_1 a) (wpAny_pure ⟨plainId_quiet PySem.F.plain_set_new _,codeAny_builtin PySem.F.entry_set_new ?_⟩));rw[Around.under_plainId PySem.F.plain_set_new _];unfold Builtin.«set.__new__» Builtin.Frozenset.newClass;have hsub:=sub_set_self;obtain⟨hp,g,d,tk,os⟩:=s;dsimp only
 wp_walk
 refine wpAny_askSetting (wpAny_pure ?_);dsimp only;simp only[newObj];refine wpAny_bind (wpAny_alloc (wpAny_pure ?_));exact wpAny_pure h
theorem ZMj{l:Addr}{items:Array Value}{ns:List Int}{Q:Value->Shared->Prop}
  (hh:A.handled=none)(hl:s.heap.IsList l items)(hi:IntsAre items.toList ns)(hb:items.size<=17)
  (h:∀ (h':Heap) (tk:Nat),ZEb prog w (ZBj w) h' s.heap.objs.size (firstMet (λ i=>ns.getD i 0) items.size) ->
   (∀b o,b<s.heap.objs.size->s.heap.get? b=some o->h'.get? b=some o)->Q (.ref s.heap.objs.size) { s with heap:=h',toks:=tk }) :
  wpAny (model prog w) A (call (.type "set") [.ref l]) Q E s:=by
 obtain⟨c,tl,hmro⟩:=PySem.F.called_set.mro;have hmade:=PySem.F.called_set.made;have hsub:=PySem.F.called_set.sub;refine wpAny_call (codeAny_of_tree ?_);show wpAny _ _ (callAny (.type "set") _) _ _ _;refine wpAny_pure ⟨Code.quiet_builtin _ (by decide +kernel),codeAny_builtin PySem.F.entry_type_call ?_⟩;rw[Around.under_plain (weight_type_call_type "set" [.ref l] []) rfl];have h1:=PySem.F.called_set.notType;have h2:=PySem.F.called_set.canCreate;have hct:=PySem.F.typeCall_set_1 (.ref l)
 repeat (any_goals (first|assumption|wp_step))
 refine codeAny_mono (ZPD (.ref l) (E:=E) (Q₁:=λobj s₁=>obj=.ref s.heap.objs.size/\s₁ = { s with heap:=s.heap.push (ZEn w) }) ⟨rfl,rfl⟩) λr s₁ hr=>?_
 cases r with
 |error e=>exact hr
 |ok fl =>
  cases fl with
  |ret obj =>
   obtain⟨rfl,rfl⟩:=hr;have hS:(s.heap.push (ZEn w)).get? s.heap.objs.size=some (ZEn w):=get?_push_size _ rfl;have hT:Shared.TypeIs { s with heap:=s.heap.push (ZEn w) } (.ref s.heap.objs.size) "set":=⟨_,hS,rfl⟩;have hli:=PySem.F.called_set.init.lookup;have hbi:=PySem.F.called_set.init.bind (.ref s.heap.objs.size)
   repeat (any_goals (first|assumption|wp_step))
   refine codeAny_mono (codeAny_call_builtin (R:=wants (λ r s₂=>r=.none/\∃ h' tk,s₂ = { s with heap:=h',toks:=tk }/\ZEb prog w (ZBj w) h' s.heap.objs.size (firstMet (λ i=>ns.getD i 0) items.size) /\
     (∀b o,b<s.heap.objs.size->s.heap.get? b=some o->h'.get? b=some o)) E) PySem.F.called_set.init.plain PySem.F.entry_set_init (check_set_init_1 hT ?_)) λr₂ s₂ hr₂=>?_
   ·obtain⟨ol,hol,hcl,nl,hdl⟩:=hl
    obtain⟨ocls,odict,odata,oslots⟩:=ol;simp only at hcl hdl;subst hcl;subst hdl;have hol':(s.heap.push (ZEn w)).get? l=some { cls:=.type "list",dict:=odict,data:=.seq items nl,slots:=oslots }:=get?_push_of_some _ hol;have hsls:=PySem.F.sub_list_set;have hslf:=PySem.F.sub_list_frozenset;have hne:(Value.type "list" == Value.type "dict")=false:=by decide
    have hl1:(s.heap.push (ZEn w)).IsList l items:=⟨_,hol',rfl,nl,rfl⟩;unfold Builtin.«set.__init__» noKeywords Builtin.Frozenset.updateFrom
    generalize hPI:pyIter=PI
    wp_walk
    subst hPI;refine wpAny_pyIter_list hl1 ?_;refine wpAny_bind (wpAny_runValue ?_);have hlS:l<s.heap.objs.size:=lt_size hol;have hh3:A.in1.in1.in1.handled=none:=by simp[hh]
    have hneI:l≠(s.heap.push (ZEn w)).objs.size:=by rw[size_push];exact ne_of_lt (lt_succ_of_lt hlS)
    have hSf:s.heap.objs.size∉[(s.heap.push (ZEn w)).objs.size,l]:=by
     rw[size_push];simp only[mem_cons,mem_singleton,not_mem_nil,or_false,not_or];exact⟨ne_of_lt (Nat.lt_succ_self _),ne_of_gt hlS⟩
    have hval:∀(i:Nat) (v:Value),items[i]? = some v->∃t,v=.int ((λi=>ns.getD i 0) i) t:=λi v hv=>IntsAre.int_at hi i v (by rw[Array.getElem?_toList];exact hv)
    refine ZL9 (L:=ZBj w) ((Walks.list hh3 _ l hneI items).toS) s.heap.objs.size hSf (λi=>ns.getD i 0) hval hb (items.size-0) 0 _ (by omega) (zero_le _)
     ⟨⟨_,get?_push_size _ rfl,rfl,rfl⟩,(hl1.push _)⟩ ?hS0 ?hR
    case hS0 =>
     exact⟨ZEn w,#[],0,_,get?_push_of_some _ hS,⟨rfl,rfl,rfl⟩,rfl,λe he=>by simp at he,TI.fresh _,λe he=>by simp at he,.nil⟩
    case hR =>
     intro s' hm hS';obtain⟨h',g',d',tk',os'⟩:=s';have eg:g'=s.gens:=hm.gens;have ed:d'=s.drawn:=hm.drawn;have eo:os'=s.os:=hm.os;subst eg;subst ed;subst eo;show wpAny _ _ _ _ _ _;refine wpAny_pure ?_;show wpAny _ _ (ret Value.none) _ _ _;refine wpAny_pure ⟨rfl,h',tk',rfl,hS',λb o hb e=>?_⟩;have hb1:b≠s.heap.objs.size:=ne_of_lt hb;have hb2:b≠(s.heap.push (ZEn w)).objs.size:=by rw[size_push];exact ne_of_lt (lt_succ_of_lt hb)
     exact hm.heap b o (by simp only[mem_cons,mem_singleton,not_mem_nil,or_false,not_or];exact⟨hb1,hb2⟩) (get?_push_of_some _ (get?_push_of_some _ e))
   ·cases r₂ with
    |error e=>exact hr₂
    |ok fl₂ =>
     cases fl₂ with
     |ret r =>
      obtain⟨rfl,h',tk,rfl,hS',hk'⟩:=hr₂
      repeat (any_goals (first|assumption|wp_step))
      exact h _ _ hS' hk'
     |_=>exact hr₂.elim
  |_=>exact hr.elim
end
theorem Z3:Slot "set_iterator" "__next__" "set_iterator.__next__" :=
 .of (owner:="set_iterator") (n:="__next__") (by rw[typeLookup_type,builtinLookup_eq_fast];kernel_rfl) (by decide +kernel) (by decide +kernel) (by decide +kernel)
  (by first|exact .inl (by decide +kernel)|exact .inr (by decide +kernel)) (by rw[isSubtype_type];kernel_rfl)
theorem ZDE:Slot "set_iterator" "__iter__" "set_iterator.__iter__" :=
 .of (owner:="set_iterator") (n:="__iter__") (by rw[typeLookup_type,builtinLookup_eq_fast];kernel_rfl) (by decide +kernel) (by decide +kernel) (by decide +kernel)
  (by first|exact .inl (by decide +kernel)|exact .inr (by decide +kernel)) (by rw[isSubtype_type];kernel_rfl)
theorem ZCU:entryFor table "set_iterator.__next__" = some Builtin.«set_iterator.__next__»:=entryFor_of_tree (by kernel_rfl)
theorem ZFT:entryFor table "set_iterator.__iter__" = some Builtin.«dict_keyiterator.__iter__»:=entryFor_alias (id':="dict_keyiterator.__iter__") (by kernel_rfl) rfl (by decide +kernel) (by kernel_rfl)
theorem ZGQ:entryFor table "set.__iter__" = some Builtin.«frozenset.__iter__»:=entryFor_alias (id':="frozenset.__iter__") (by kernel_rfl) rfl (by decide +kernel) (by kernel_rfl)
theorem ZHr:Manifest.owners.lookup (String.ofList "rotareti_tes".toList.reverse)=some Manifest.sig_set_iterator:=by kernel_rfl
theorem ZDK(a:Value):argsOk "set_iterator.__next__" ⟨[a],[]⟩:=by
 unfold argsOk;rw[signature?_of (id:="set_iterator.__next__") (n:="__txen__".toList) (o:="rotareti_tes".toList) (by kernel_rfl) ZHr];kernel_rfl
theorem ZGD(a:Value):argsOk "set_iterator.__iter__" ⟨[a],[]⟩:=by
 unfold argsOk;rw[signature?_of (id:="set_iterator.__iter__") (n:="__reti__".toList) (o:="rotareti_tes".toList) (by kernel_rfl) ZHr];kernel_rfl
theorem ZH3{α : Type}{l:List α}{i:Nat}(h:i<l.length):(l[i]::l.eraseIdx i).Perm l:=by
 have e:l.take i++l[i]::l.drop (i+1)=l:=by rw[List.getElem_cons_drop];exact List.take_append_drop i l
 rw[List.eraseIdx_eq_take_drop_succ];exact List.perm_middle.symm.trans (by rw[e])
theorem ZF0{α : Type}(f:Nat->Nat):∀(n k:Nat) (l:List α) (out:Array α),l.length=n->(pickOrder.go f n k l out).toList.Perm (out.toList++l)
 |0,k,l,out,h=>by
  rw[List.length_eq_zero_iff.mp h,append_nil];exact .rfl
 |n+1,k,l,out,h=>by
  have hlt:f k % l.length<l.length:=Nat.mod_lt _ (by omega);rw[pickOrder.go,getElem?_eq_getElem hlt];dsimp only;refine(ZF0 f n (k+1) _ _ (by rw[List.length_eraseIdx_of_lt hlt];omega)).trans ?_;rw[Array.toList_push,append_assoc];refine List.Perm.append_left _ ?_;exact ZH3 hlt
noncomputable def ZDc(w:World)(a:Addr)(ep:Nat)(es:Array (Int×Value)):Array (Int×Value):=if ZBj w=true then es else pickOrder (w.params.setOrder a ep) es
theorem ZDS(w:World)(a:Addr)(ep:Nat)(es:Array (Int×Value)):(ZDc w a ep es).toList.Perm es.toList:=by
 unfold ZDc
 split
 ·exact .rfl
 ·exact ZF0 _ _ _ _ _ (Array.length_toList)
theorem ZCR(w:World)(a:Addr)(ep:Nat)(es:Array (Int×Value)):(ZDc w a ep es).size=es.size:=by
 have:=(ZDS w a ep es).length_eq
 rwa [Array.length_toList,Array.length_toList] at this
noncomputable def ZC4(w:World)(t:SetTable):Nat->Nat
 |0=>0
 |i+1=>if ZBj w=true then t.place.getD i 0+1 else 0
section
variable{prog:Program}{w:World}{A:Around}{E:Value->Shared->Prop}{s:Shared}
theorem ZB8{Q:Bool->Shared->Prop}(h:Q (w.params.followText "set-order") s):wpAny (model prog w) A setsByText Q E s:=by
 unfold setsByText;exact wpAny_bind (wpAny_askSetting (wpAny_pure h))
theorem ZHB{a:Addr}{o:Obj}{es:Array (Int×Value)}{ep:Nat}{t:SetTable}{i:Nat}{Q:Option (Value×Nat)->Shared->Prop}
  (ho:s.heap.get? a=some o)(hd:o.data=.set es ep t)(ti:TI (ZBj w) t es.size)(hi:i<=es.size)(h:Q (((ZDc w a ep es)[i]?).map λe=>(e.2,ZC4 w t (i+1))) s) :
  wpAny (model prog w) A (setNext a (ZC4 w t i) i ep) Q E s:=by
 have hf:=ti.fits;unfold setNext;refine wpAny_bind (wpAny_setState_of ho hd hf ?_);dsimp only;refine wpAny_bind (ZB8 ?_);cases hb:w.params.followText "set-order" with
 |true =>
  have hl:ZBj w=false:=by unfold ZBj;rw[hb];rfl
  simp only[↓reduceIte];refine wpAny_ite_split (λz=>absurd z (by simp)) (λ_=>?_);refine wpAny_bind ?_;unfold setWalk;refine wpAny_bind (wpAny_setState_of ho hd hf ?_);dsimp only;refine wpAny_bind (ZB8 ?_);rw[hb];simp only[↓reduceIte];refine wpAny_bind (wpAny_askSetting (wpAny_pure ?_));refine wpAny_pure ?_;have e1:ZDc w a ep es=pickOrder (w.params.setOrder a ep) es:=by unfold ZDc;rw[hl];rfl
  have e2:∀i,ZC4 w t i=0:=λi=>by cases i with
   |zero=>rfl
   |succ i=>unfold ZC4;rw[hl];rfl
  rw[e1,e2] at h;rw[e2];exact h
 |false =>
  have hl:ZBj w=true:=by unfold ZBj;rw[hb];rfl
  simp only[Bool.false_eq_true,↓reduceIte];refine wpAny_ite_split (λz=>?_) (λ_=>?_)
  ·have z':(!t.plain && decide (es.size > 1))=true:=z
   rw[ti.plain] at z';cases z'
  ·refine wpAny_bind (wpAny_of_eq (a:=()) ?_ ?_)
   ·show(if (!t.led && !es.isEmpty)=true then unsupported "set:maker-not-led" else pure PUnit.unit)=_
    rw[ti.led,hl];rfl
   ·refine wpAny_pure ?_
    have e1:ZDc w a ep es=es:=by unfold ZDc;rw[hl];rfl
    rw[e1] at h;have hbel:SetTable.below t.place (ZC4 w t i)=i:=by
     cases i with
     |zero=>exact ZIJ ti.ris
     |succ i =>
      have hi':i<t.place.size:=by rw[ti.size];omega
      have e0:ZC4 w t (i+1)=t.place.getD i 0+1:=by
       show(if ZBj w=true then t.place.getD i 0+1 else 0)=_;rw[hl];rfl
      rw[e0];refine ZH8 ti.ris (i:=i) ?_;rw[Array.getElem?_eq_getElem hi'];simp[Array.getD,hi']
    rw[hbel];rcases lt_or_ge i es.size with q|q
    ·have hi':i<t.place.size:=by rw[ti.size];exact q
     have e2:es[i]? = some es[i]:=Array.getElem?_eq_getElem q;have e3:t.place[i]? = some t.place[i]:=Array.getElem?_eq_getElem hi';have e4:ZC4 w t (i+1)=t.place[i]+1:=by
      show(if ZBj w=true then t.place.getD i 0+1 else 0)=_;rw[hl,if_pos rfl];simp[Array.getD,hi']
     rw[e2,e4] at h;rw[e2,e3];exact h
    ·have e2:es[i]? = none:=Array.getElem?_eq_none q
     rw[e2] at h;rw[e2];exact h
noncomputable def ZAn(w:World)(h:Heap)(it d:Addr)(t:SetTable)(i n ep:Nat):Prop :=
 ∃o,h.get? it=some o/\o.cls=.type "set_iterator"/\o.data=.fields #[.int (ZC4 w t i) 0,.int i 0,.ref d,.int n 0,.int ep 0]
theorem ZAn.typeIs{it d:Addr}{t:SetTable}{i n ep:Nat}(x:ZAn w s.heap it d t i n ep):s.TypeIs (.ref it) "set_iterator":=let ⟨o,ho,hc,_⟩:=x;⟨o,ho,hc⟩
theorem ZAn.at'{h h':Heap}{it d:Addr}{t:SetTable}{i n ep:Nat}(x:ZAn w h it d t i n ep)(e:∀o,h.get? it=some o->h'.get? it=some o):ZAn w h' it d t i n ep:=let ⟨o,ho,r⟩:=x;⟨o,e _ ho,r⟩
variable{d:Addr}{od:Obj}{es:Array (Int×Value)}{ep:Nat}{t:SetTable}
theorem ZML{Q:Value->Shared->Prop}(ho:s.heap.get? d=some od)(hex:od.ExactSet)(hd:od.data=.set es ep t)(ti:TI (ZBj w) t es.size)
  (hQ:Q (.ref s.heap.objs.size) { s with heap:=s.heap.push { cls:=.type "set_iterator",data:=.fields #[.int 0 0,.int 0 0,.ref d,.int es.size 0,.int ep 0] } }) :
  wpAny (model prog w) A (pyIter (.ref d)) Q E s:=by
 have hT:s.TypeIs (.ref d) "set":=⟨od,ho,hex.1⟩;have hf:=ti.fits;refine wpAny_pyIter_slot hT PySem.F.slot_set_iter (wpAny_call_entry PySem.F.slot_set_iter hT ZGQ ?_ (PySem.F.args_set_iter_1 _));show wpAny _ _ (do
  let n ←Builtin.Frozenset.sizeOf d
  let first ←if ←setDrawn d then newTuple ((←drawOrder n (List.range n)).map λ(i:Nat)=>rawInt i) else pure (rawInt 0)
  ret (←newFields "set_iterator" [first,rawInt 0,.ref d,rawInt n,rawInt (←setEpoch d)])) _ _ s
 refine wpAny_bind ?_;unfold Builtin.Frozenset.sizeOf;refine wpAny_bind (wpAny_setEntries_of ho hd hf (wpAny_pure ?_));refine wpAny_bind ?_;unfold setDrawn;refine wpAny_bind (wpAny_setState_of ho hd hf ?_);dsimp only;refine wpAny_bind (ZB8 (wpAny_pure ?_));refine wpAny_ite_split (λz=>?_) (λ_=>?_)
 ·have z':(!w.params.followText "set-order" && (!t.plain && decide (es.size > 1)))=true:=z
  rw[ti.plain] at z';simp at z'
 refine wpAny_bind (wpAny_pure ?_);refine wpAny_bind (wpAny_setEpoch_of ho hd hf ?_);refine wpAny_bind (wpAny_newObj_type (wpAny_pure ⟨_,rfl,"set_iterator",_,⟨_,get?_push_size _ rfl,rfl⟩,Z3.lookup,?_⟩));exact hQ
theorem ZLf{it:Addr}{i:Nat}{Q:Option Value->Shared->Prop}(hit:ZAn w s.heap it d t i es.size ep)(ho:s.heap.get? d=some od)(hd:od.data=.set es ep t)(ti:TI (ZBj w) t es.size){x:Int×Value}(hx:(ZDc w d ep es)[i]? = some x)
  (hQ:∀h',ZAn w h' it d t (i+1) es.size ep->Heap.SameBut it s.heap h'->Q (some x.2) { s with heap:=h' }) :
  wpAny (model prog w) A (pyNext (.ref it)) Q E s:=by
 obtain⟨oi,hoi,hc,hdi⟩:=id hit;have hf:=ti.fits;have hi:i<es.size:=by have:=(Array.getElem?_eq_some_iff.mp hx).1;rwa [ZCR] at this
 unfold pyNext;refine wpAny_bind (wpAny_attempt (wpAny_callSpecial?_slot (name:=Str.ofString "__next__") hit.typeIs Z3
  (wpAny_call_entry Z3 hit.typeIs ZCU ?_ (ZDK _))))
 unfold Builtin.«set_iterator.__next__»;refine wpAny_bind (wpAny_pure ?_);refine wpAny_bind (wpAny_fieldsOf hoi hdi ?_);dsimp only;refine wpAny_bind (wpAny_setEntries_of ho hd hf ?_);refine wpAny_ite_split (λz=>absurd z (by simp)) (λ_=>?_);rw[toNat_natCast,toNat_natCast,toNat_natCast];refine wpAny_bind (ZHB ho hd ti (le_of_lt hi) ?_);rw[hx];dsimp only[Option.map];refine wpAny_bind (wpAny_setField hoi hdi (by simp) ?_);have ho1:=get?_update_self (Obj.mapFields (·.setIfInBounds 0 (rawInt (ZC4 w t (i+1))))) hoi (Obj.isFreed_of_fields (Obj.data_mapFields hdi _));refine wpAny_bind (wpAny_setField ho1 (Obj.data_mapFields hdi _) (by simp) ?_);have ho2:=get?_update_self (Obj.mapFields (·.setIfInBounds 1 (rawInt ((i:Int)+1)))) ho1 (Obj.isFreed_of_fields (Obj.data_mapFields (Obj.data_mapFields hdi _) _));refine wpAny_pure ⟨_,rfl,wpAny_pure (hQ _ ⟨_,ho2,?_,?_⟩ ((Heap.SameBut.update ..).trans (Heap.SameBut.update ..)))⟩
 ·rw[Obj.cls_mapFields,Obj.cls_mapFields];exact hc
 ·rw[Obj.data_mapFields (Obj.data_mapFields hdi _)]
  simp[rawInt]
theorem ZOH{it:Addr}{Q:Option Value->Shared->Prop}(hh:A.handled=none)(hit:ZAn w s.heap it d t es.size es.size ep)(ho:s.heap.get? d=some od)(hd:od.data=.set es ep t)(ti:TI (ZBj w) t es.size)
  (hQ:∀h',Heap.ExtBut it s.heap h'->Q none { s with heap:=h' }):wpAny (model prog w) A (pyNext (.ref it)) Q E s:=by
 obtain ⟨oi,hoi,hc,hdi⟩:=id hit;have hf:=ti.fits;unfold pyNext;refine wpAny_bind (wpAny_attempt (wpAny_callSpecial?_slot (name:=Str.ofString "__next__") hit.typeIs Z3
  (wpAny_call_entry Z3 hit.typeIs ZCU ?_ (ZDK _))))
 unfold Builtin.«set_iterator.__next__»;refine wpAny_bind (wpAny_pure ?_);refine wpAny_bind (wpAny_fieldsOf hoi hdi ?_);dsimp only;refine wpAny_bind (wpAny_setEntries_of ho hd hf ?_);refine wpAny_ite_split (λz=>absurd z (by simp)) (λ_=>?_);rw[toNat_natCast,toNat_natCast,toNat_natCast];refine wpAny_bind (ZHB ho hd ti (le_refl _) ?_);rw[Array.getElem?_eq_none (by rw[ZCR];exact le_refl _)];dsimp only[Option.map];refine wpAny_bind (wpAny_setField hoi hdi (by simp) ?_);show wpAny _ _ (newExc (.type "StopIteration") [] >>= _) _ _ _;refine wpAny_bind ?_;simp only[newExc,newTuple];refine wpAny_bind (wpAny_newObj_type ?_ (by size_fits));refine wpAny_bind (m:=firstArgMember _ _) (wpAny_of_eq (a:=Value.none) (by first|rfl|(simp only[firstArgMember];rfl)) ?_);refine wpAny_newObj_type ?_ (by size_fits);simp only[raiseNew];refine wpAny_bind (wpAny_handled ?_);rw[show A.in1.handled=none from hh];refine wpAny_bind (wpAny_pure (wpAny_throw ?_));refine wpAny_bind (wpAny_isInstance (T:="StopIteration") (b:=true) ⟨_,get?_push_size _ rfl,rfl⟩ isSubtype_stop ?_);exact wpAny_pure (hQ _ (((Heap.SameBut.update ..).extBut.push _).push _))
theorem ZMF(hh:A.handled=none)(I:Addr)(hne:d≠I)(hd:od.data=.set es ep t)(ti:TI (ZBj w) t es.size) :
  Walks prog w A I [I,d] [I] es.size (λi v=>∃x,(ZDc w d ep es)[i]? = some x/\v=x.2) (λi h=>ZAn w h I d t i es.size ep/\h.get? d=some od) where
 sub:=λb hb=>by simp at hb;simp[hb]
 frame:=λ_ _ _ st hk=>⟨st.1.at' λo e=>hk I (by simp) o e,hk d (by simp) _ st.2⟩
 item:=λi s Q E hi st hQ=>by
  have hi':i<(ZDc w d ep es).size:=by rw[ZCR];exact hi
  refine ZLf st.1 st.2 hd ti (Array.getElem?_eq_getElem hi') λh' hit' hs'=>?_
  exact hQ _ h' s.toks ⟨_,Array.getElem?_eq_getElem hi',rfl⟩ ⟨hit',hs'.extBut _ _ hne st.2⟩ λb o hb e=>hs'.extBut b o (λh=>hb (by simp[h])) e
 done:=λs Q E st hQ=>ZOH hh st.1 st.2 hd ti λh' he'=>hQ h' s.toks λb o hb e=>he' b o (λh=>hb (by simp[h])) e
 self:=λ_ _ _ _ st hQ=>by
  refine wpAny_pyIter_slot st.1.typeIs ZDE (wpAny_call_entry ZDE st.1.typeIs ZFT ?_ (ZGD _));show wpAny _ _ (ret (.ref I)) _ _ _;exact wpAny_pure ⟨_,rfl,"set_iterator",_,st.1.typeIs,Z3.lookup,hQ⟩
theorem ZMw{Q:Bool->Shared->Prop}{r:Addr}(hT:s.TypeIs (.ref r) "set")(h:Q false s):wpAny (model prog w) A (Builtin.List.listLengthHint (.ref r)) Q E s:=by
 unfold Builtin.List.listLengthHint;refine wpAny_bind (wpAny_specialOf hT PySem.F.slot_set_len.lookup ?_)
 generalize hid:("set.__len__" : String)=id0
 wp_delta
 rw[show splitId id0=some ("set","__len__") from by subst hid;decide +kernel];subst hid;refine wpAny_bind (wpAny_isInstance (T:="set") (b:=true) hT (by rw[isSubtype_type];kernel_rfl) ?_);refine wpAny_ite_split (λhab=>absurd hab (by decide)) (λ_=>?_);refine wpAny_ite_split (λ_=>?_) (λhab=>absurd (by decide +kernel) hab);refine wpAny_bind (wpAny_typeOf hT ?_);exact wpAny_pure h
theorem ZOt(hex:od.ExactSet)(hd:od.data=.set es ep t)(ti:TI (ZBj w) t es.size):PySem.W.KdlSrc prog w "set" d d es.size (λi v=>∃x,(ZDc w d ep es)[i]? = some x/\v=x.2) (λh=>h.get? d=some od) where
 type:=λ_ hm=>⟨_,hm,hex.1⟩
 there:=λ_ hm=>⟨lt_size hm,lt_size hm⟩
 keep:=λ_ _ hm hk=>hk d (.inl rfl) _ hm
 notList:=by decide
 notTuple:=by decide
 hint:=λ_ _ _ _ hm hq=>ZMw ⟨_,hm,hex.1⟩ hq
 iter:=λ_ _ hh hm=>⟨_,_,(λ_ _ hq=>ZML hm hex hd ti hq),ZMF hh _ (ne_of_lt (lt_size hm)) hd ti,⟨⟨_,get?_push_size _ rfl,rfl,rfl⟩,get?_push_of_some _ hm⟩⟩
end
theorem ZEK:∀(vs:List Value),(∀v∈vs,∃n k,v=Value.int n k)->IntsAre vs (vs.map iv)
 |[],_=>.nil
 |v::vs,h=>by
  obtain⟨n,k,rfl⟩:=h v mem_cons_self;exact .cons _ _ (ZEK vs λu hu=>h u (mem_cons_of_mem _ hu))
section
variable{prog:Program}{w:World}{A:Around}{E:Value->Shared->Prop}{s:Shared}
theorem ZIO{d:Addr}{ks:List Int}{Q:Value->Shared->Prop}(hh:A.handled=none)(hS:ZEb prog w (ZBj w) s.heap d ks)(h64:ks.length<64)
  (h:∀(h1 h':Heap) (tk e:Nat) (out:Array Value) (ns':List Int),(∀b o,s.heap.get? b=some o->h1.get? b=some o)->(∀b o,h1.get? b=some o->h'.get? b=some o)->h'.get? h1.objs.size=some (seqObj "list" out e)->IntsAre out.toList ns'->ns'.Perm ks->ns'.Pairwise (· <= ·)->Q (.ref h1.objs.size) { s with heap:=h',toks:=tk }) :
  wpAny (model prog w) A (call (.builtin "sorted") [.ref d]) Q E s:=by
 obtain⟨o,es,ep,t,ho,hex,hd,hel,ti,hi,hp⟩:=hS;have hlen:es.size=ks.length:=by have:=hp.length_eq;rw[length_map,Array.length_toList] at this;exact this
 have hz:es.size<=sizeLine:=by rw[sizeLine_eq];omega
 refine Calls.call_function_entry kind_sorted plain_sorted entry_sorted (args_sorted1 _) ?_;unfold Builtin.«sorted»;refine wpAny_bind (m:=checkCount "sorted" 1 1 _) (wpAny_pure ?_);refine wpAny_bind (PySem.W.kdu_collect (A:=A.in1) (ZOt hex hd ti) hh ho hz λh' tk acc kp hacc=>?_);have hl:acc.toList.length=es.size:=by rw[Array.length_toList];exact hacc.1
 have ea:acc.toList=(ZDc w d ep es).toList.map (·.2):=by
  refine List.ext_getElem? λi=>?_
  by_cases q:i<es.size
  ·have h1:i<acc.size:=by rw[hacc.1];exact q
   obtain⟨x,e1,e2⟩:=hacc.2 i acc[i] (Array.getElem?_eq_getElem h1);rw[getElem?_map,Array.getElem?_toList,Array.getElem?_toList,e1,Array.getElem?_eq_getElem h1,e2];rfl
  ·rw[getElem?_eq_none (by omega),getElem?_eq_none (by rw[length_map,Array.length_toList,ZCR];omega)]
 have hall:∀v∈acc.toList,∃n k,v=Value.int n k:=by
  rw[ea];intro v hv;obtain⟨e,he,rfl⟩:=List.mem_map.mp hv;exact hi e ((ZDS w d ep es).mem_iff.mp he)
 have hI:=ZEK acc.toList hall;have hpm:(acc.toList.map iv).Perm ks:=by
  rw[ea,map_map];exact((ZDS w d ep es).map _).trans hp
 refine wpAny_bind (wpAny_newList ?_ (by rw[hl];exact hz));have hoL:(h'.push (seqObj "list" acc.toList.toArray 0)).get? h'.objs.size=some (seqObj "list" acc.toList.toArray 0):=get?_push_size _ rfl;refine wpAny_bind (wpAny_holding (wpAny_call_entry slot_list_sort ⟨_,hoL,rfl⟩ entry_list_sort (list_sort_tree hoL hI (by omega) λout ns' a1 a2 a3=>⟨_,rfl,?_⟩) (args_list_sort _)));obtain⟨e,he⟩:=sortedHeap_at (out:=out) hoL;refine wpAny_pure ⟨_,rfl,h h' _ _ e out ns' kp (λb o q=>?_) he a1 (a2.trans hpm) a3⟩;have hb:=lt_size q;rw[sortedHeap_old (ne_of_lt hb) (by rw[size_push'];exact lt_succ_of_lt hb)];exact get?_push_of_some _ q
end
end H1
namespace L2
open PySem PySem.Spec PyProof.Rows H1
noncomputable def ddI(ns:List Int):List Int:=ns.foldl step_dedup []
theorem ZDs(ns:List Int):firstMet (λi=>ns.getD i 0) ns.length=ddI ns:=by
 unfold firstMet ddI
 congr 1
 refine List.ext_getElem? λi=>?_
 rw[getElem?_map]
 by_cases h:i<ns.length
 ·rw[List.getElem?_range h,getElem?_eq_getElem h]
  simp[List.getD,h]
 ·rw[getElem?_eq_none (by rw[length_range];omega),getElem?_eq_none (by omega)]
  rfl
section
variable{X:Cx}
noncomputable def tSS(K:PySem.W.Frag)(ta:TE):TE:=λσ H Q=>ta σ H λv H1=>∃a ns,v=.ref a/\SqL K H1 a (ns.map V.int)/\ns.length<=17/\∀(L:Addr) (ms:List Int),H1 L=none->ms.Perm (ddI ns)->ms.Pairwise (· <= ·)->Q (.ref L) (upd H1 L (.lst (ms.map V.int)))
theorem pe_ss{a:Expr}{ta:TE}{p p2 pos pos2:Pos}(hc:X.calm=true)(hgl:Gl X "sorted")(hml:X.mg "sorted" = none)(hg:Gl X "set")(hm:X.mg "set" = none)(ha:PE X a ta)
  (hs:starEach [a] X.env=(false,eval a X.env)::starEach [] X.env:=by rfl)
  (hs1:starEach [.Call (.Name "set" p2) [a] [] pos2] X.env=(false,eval (.Call (.Name "set" p2) [a] [] pos2) X.env)::starEach [] X.env:=by rfl)(hpl:(backTo pos (starEach [] X.env)).any (·.1)=false:=by rfl)(hpl2:(backTo pos2 (starEach [] X.env)).any (·.1)=false:=by rfl) :
  PE X (.Call (.Name "sorted" p) [.Call (.Name "set" p2) [a] [] pos2] [] pos) (tSS X.K ta):=by
 intro pins s σ H Q I h;refine Call_ (ZAv I hgl hml (show bootBuiltins "sorted" = some (.builtin "sorted") from rfl) (PyProof.Rows.callWith_builtin1 ?_ hs1 hpl));rw[hs1];refine Calls.spliced_cons ?_;refine Call_ (ZAv I hg hm (show bootBuiltins "set" = some (.type "set") from rfl) (PyProof.Rows.callWith_type1 ?_ hs hpl2));rw[hs];refine Calls.spliced_cons (thn (ha pins s σ H _ I h) λu s1 ⟨x,H1,I1,r1,q1⟩=>?_);refine Calls.spliced_nil ?_;obtain⟨l,ns,rfl,hq,h17,q⟩:=q1;cases r1;obtain⟨its,rv,pt,hz⟩:=I1.list hq;have el:=rv.length;rw[length_map] at el;have hI:IntsAre its ns:=by
  clear hq q el h17 pt hz
  induction ns generalizing its with
  |nil=>cases rv;exact .nil
  |cons n ns ih =>
   cases rv with
   |cons r t=>obtain⟨k,rfl⟩:=r;exact .cons _ _ (ih _ t)
 refine ZMj (ns:=ns) (I.ok.hd hc) pt.isList (by simpa using hI) (by rw[size_toArray];omega) λh2 tk hS hk=>?_
 have e9:its.toArray.size=ns.length:=by rw[size_toArray];exact el.symm
 rw[e9,ZDs] at hS;refine Calls.spliced_nil ?_;have hdl:(ddI ns).length<=ns.length:=by rw[←ZDs];exact firstMet_length_le _ _
 refine ZIO (s:={ s1 with heap:=h2,toks:=tk }) (I.ok.hd hc) hS (by omega) λh3 h4 tk2 e out ns' kp kp2 he ia pm pw=>?_
 have rv':ZK (ns'.map V.int) out.toList:=by
  clear pm pw he
  generalize out.toList=l at ia
  induction ia with
  |nil=>exact .nil
  |cons a t h ih=>exact .cons ⟨t,rfl⟩ ih
 have kk:∀b o,s1.heap.get? b=some o->h3.get? b=some o:=λb o e=>kp b o (hk b o (lt_size e) e)
 have I2:Inv X pins σ H1 { s1 with heap:=h3,toks:=tk2 }:=I1.kept (t':=tk2) kk;refine⟨.ref h3.objs.size,_,I2.laid (t':=tk2) kp2 (le_refl _) (o:=.lst (ns'.map V.int)) ⟨?_,out.toList,e,rv',by simpa using he⟩,rfl,q _ ns' (I2.hok.fresh (le_refl _)) pm pw⟩;rw[length_map,pm.length_eq];exact le_of_lt (ZS (by omega))
end
noncomputable def dSS(d:DE):DE:=λsd g=>(d sd g).bind λp=>(Zt p.1 p.2).bind λds=>(ZAy ds).bind λns=>if ns.length<=17 then some (.dat (.list ((ZAf (ddI ns)).map .int)),p.2) else none
section
variable{X:Cx}{K:PySem.W.Frag}{ρ : Rh}{H:Hp}
theorem ZQf{a:Expr}{d:DE}{p p2 pos pos2:Pos}(hc:X.calm=true)(hgl:Gl X "sorted")(hml:X.mg "sorted" = none)(hg:Gl X "set")(hm:X.mg "set" = none)(ha:JE X a d)
  (hs:starEach [a] X.env=(false,eval a X.env)::starEach [] X.env:=by rfl)
  (hs1:starEach [.Call (.Name "set" p2) [a] [] pos2] X.env=(false,eval (.Call (.Name "set" p2) [a] [] pos2) X.env)::starEach [] X.env:=by rfl)(hpl:(backTo pos (starEach [] X.env)).any (·.1)=false:=by rfl)(hpl2:(backTo pos2 (starEach [] X.env)).any (·.1)=false:=by rfl) :
  JE X (.Call (.Name "sorted" p) [.Call (.Name "set" p2) [a] [] pos2] [] pos) (dSS d):=⟨(pe_ss hc hgl hml hg hm ha.h hs hs1 hpl hpl2).imp λσ H Q ⟨ρ,sd,g,x,g',r,e,q⟩=>by
 obtain⟨⟨y,g1⟩,e1,e⟩:=bnd e;refine⟨ρ,sd,g,y,g1,r,e1,λv H1 ρ1 s1 h1 r1=>?_⟩;obtain⟨ds,e2,e⟩:=bnd e;obtain⟨ns,e3,e⟩:=bnd e
 split at e
 ·rename_i h17
  cases e;obtain⟨a,vs,rfl,h2,t⟩:=Zc h1 r1 e2;have:=ZAw t e3;subst this
  refine⟨a,ns,rfl,.inl (.inl h2),h17,λL ms hL pm pw=>?_⟩;obtain⟨sm,hr,hn⟩:=ZAO (o:=.lst (ms.map V.int)) h1 hL;rw[←ZET pm pw] at q;exact q _ _ ρ1 (s1.trans (.same sm)) hr (.dat (.lst ZC hn RelDL.ofInts))
 ·cases e⟩
end
section
variable{sd:Sd}{g:G}{P:W->G->Prop}{d:DE}
theorem x_ss(h:EvP (d sd g) λv g1=>∃ns,Zt v g1=some (ns.map .int)/\ns.length<=17/\P (.dat (.list ((ZAf (ddI ns)).map .int))) g1):EvP (dSS d sd g) P:=by
 obtain⟨v,g1,e1,ns,e2,hz,h⟩:=h;refine⟨_,_,?_,h⟩;unfold dSS;rw[e1];show(Zt v g1).bind _=_;rw[e2];show(ZAy (ns.map .int)).bind _=_;rw[ZGm];exact if_pos hz
end
noncomputable def ZE8:W->W->G->Option (W×G)
 |.dat (.str i),.dat (.str j),g=>some (.dat (.bool (!(!(Builtin.Str.occurrences j i 0 j.length 1).isEmpty))),g)
 |a,b,g=>ZDQ a b g
section
variable{X:Cx}
theorem ZOe(hu:X.A.units+64<cLine):OpR X (compareOp .NotIn) (rOp X.K ZE8):=by
 intro pins s σ H x y v u Q I rx ry h;obtain⟨ρ,a,b,g,z,g',hR,ra,rb,e,q⟩:=h;have old:ZDQ a b g=some (z,g')->wpAny (model X.prog X.w) X.A (compareOp .NotIn v u) (EP X pins σ Q) X.xe s:=λe=>ZLA hu pins s σ H x y v u Q I rx ry ⟨ρ,a,b,g,z,g',hR,ra,rb,e,q⟩
 unfold ZE8 at e
 split at e
 ·cases e
  cases ra with
  |dat ra =>
   cases rb with
   |dat rb =>
    cases ra;cases rb;exact ZGj pins s σ H _ _ v u Q I rx ry ⟨_,_,rfl,rfl,q.at hR (.dat (.bl _))⟩
 ·exact old e
noncomputable def ZH2(dl d:DE):DE:=λsd g=>(dl sd g).bind λl=>match l.1 with
 |.dat (.list ds)=>(ZAy ds).bind λns=>(d sd l.2).bind λp=>match p.1 with
  |.dat (.int k)=>some (.dat (.int ((ns.count k:Nat):Int)),p.2)
  |_=>none
 |_=>none
theorem ZL3{o e:Expr}{dl d:DE}{apos cpos:Pos}(ho:JE X o dl)(he:JE X e d)(hbase:attributeBase o "count" X.env (eval o X.env)=eval o X.env:=by rfl)
  (hfew:((backTo cpos (starEach [e] X.env)).all (λ x=>!x.1) && (backToKw cpos (keywordEach [] X.env)).all (λ x=>x.1.isSome)
   && decide ([e].length+([]:List Keyword).length+(if ([]:List Keyword).isEmpty then 0 else 1)<30))=true:=by rfl)
  (hline:(apos.endLine == cpos.line)=true:=by rfl)(hs:starEach [e] X.env=(false,eval e X.env)::starEach [] X.env:=by rfl)(hplain:(backTo cpos (starEach [] X.env)).any (·.1)=false:=by rfl) :
  JE X (.Call (.Attribute o "count" apos) [e] [] cpos) (ZH2 dl d):=⟨(ZHX PySem.F.plainAttrs_list PySem.F.slot_list_count PySem.F.type_list_count ZLD ho.h (ZCS he.h ZEk hs) hbase hfew hline hs hplain).imp λσ H Q ⟨ρ,sd,g,x,g',r,e,q⟩=>by
 obtain⟨⟨y,g1⟩,e1,e⟩:=bnd e;refine⟨ρ,sd,g,y,g1,r,e1,λv H1 ρ1 s1 h1 r1=>?_⟩;cases r1 with
 |dat r1 =>
  cases r1 with
  |@lst a us ds hl hh t =>
   dsimp only at e;obtain⟨ns,e4,e⟩:=bnd e;obtain⟨⟨p,g2⟩,e2,e⟩:=bnd e;refine⟨.inl ⟨rfl,_,SqL.of hl⟩,ρ1,sd,g1,[p],g2,r.step s1 h1,by show(d sd g1).bind _=_;rw[e2];rfl,λvs H2 ρ2 s2 h2 r2=>?_⟩;cases r2 with
   |cons r2 t2 =>
    cases t2;cases r2 with
    |dat r2 =>
     cases r2 with
     |int k =>
      cases e;have rr:Rel X.K ρ2 H2 (.ref a) (.dat (.list ds)):=(Rel.dat (.lst hl hh t)).mono s2;cases rr with
      |dat rr =>
       cases rr with
       |lst hl2 hh2 tl2 =>
        have:=ZAw tl2 e4;subst this
        exact⟨_,ns,k,rfl,rfl,hl2,q _ _ ρ2 (s1.trans s2) h2 (.dat (.int _))⟩
     |_=>cases e
    |_=>cases e
  |_=>cases e
 |_=>cases e⟩
noncomputable def ZJs(dl dk:DE):DE:=λsd g=>(dl sd g).bind λl=>match l.1 with
 |.ref n=>if isL l.2 n=true then (dk sd l.2).bind λk=>match k.1 with
  |.dat (.int i)=>(lk k.2 n).bind λds=>if 0<=i/\i<ds.length/\ds.length<1000 then (ds[i.toNat]?).map λx=>(.dat x,k.2.set n (.pl (ds.eraseIdx i.toNat))) else none
  |_=>none
  else none
 |_=>none
theorem RelDL.erase{K:PySem.W.Frag}{ρ : Rh}{H:Hp}:∀{vs:List V} {ds:List PyData} (k:Nat),RelDL K ρ H vs ds->RelDL K ρ H (vs.eraseIdx k) (ds.eraseIdx k)
 |_,_,_,.nil=>.nil
 |_,_,0,.cons _ t=>t
 |_,_,k+1,.cons r t=>.cons r (RelDL.erase k t)
theorem ZLX{o e:Expr}{dl d:DE}{apos cpos:Pos}(ho:JE X o dl)(he:JE X e d)(hbase:attributeBase o "pop" X.env (eval o X.env)=eval o X.env:=by rfl)
  (hfew:((backTo cpos (starEach [e] X.env)).all (λ x=>!x.1) && (backToKw cpos (keywordEach [] X.env)).all (λ x=>x.1.isSome)
   && decide ([e].length+([]:List Keyword).length+(if ([]:List Keyword).isEmpty then 0 else 1)<30))=true:=by rfl)
  (hline:(apos.endLine == cpos.line)=true:=by rfl)(hs:starEach [e] X.env=(false,eval e X.env)::starEach [] X.env:=by rfl)(hplain:(backTo cpos (starEach [] X.env)).any (·.1)=false:=by rfl) :
  JE X (.Call (.Attribute o "pop" apos) [e] [] cpos) (ZJs dl d):=⟨(ZHX PySem.F.plainAttrs_list PySem.F.slot_list_pop PySem.F.type_list_pop ZNP ho.h (ZCS he.h ZEk hs) hbase hfew hline hs hplain).imp λσ H Q ⟨ρ,sd,g,x,g',r,e,q⟩=>by
 obtain⟨⟨y,g1⟩,e1,e⟩:=bnd e;refine⟨ρ,sd,g,y,g1,r,e1,λv H1 ρ1 s1 h1 r1=>?_⟩;cases r1 with
 |@ref la ln hn =>
  dsimp only at e
  split at e
  case isFalse=>cases e
  rename_i hil
  obtain⟨⟨p,g2⟩,e2,e⟩:=bnd e;obtain⟨vs0,h0⟩:=ZId hil h1 hn;refine⟨.inl ⟨rfl,_,SqL.of h0⟩,ρ1,sd,g1,[p],g2,r.step s1 h1,by show(d sd g1).bind _=_;rw[e2];rfl,λvs H2 ρ2 s2 h2 r2=>?_⟩;cases r2 with
  |cons r2 t =>
   cases t;cases r2 with
   |dat r2 =>
    cases r2 with
    |int i =>
     obtain⟨ds,e4,e⟩:=bnd e;dsimp only at e
     split at e
     ·rename_i hz
      obtain⟨dx,e5,e⟩:=mp e;cases e;obtain⟨a',us,k1,k2,k3⟩:=h2.at_ _ _ (ZDC e4);have hn2 : ρ2.c[ln]? = some la:=by
       obtain⟨rr,ee⟩:=s2.pre;rw[ee,getElem?_append_left (List.getElem?_eq_some_iff.mp hn).1];exact hn
      rw[hn2] at k1;cases k1;obtain⟨vx,ex,rx⟩:=k3.getD e5;obtain⟨hw,sw⟩:=h2.write hn2 k2 (k3.erase i.toNat);have hul:us.length=ds.length:=k3.length;refine⟨_,us,i,i.toNat,vx,rfl,rfl,k2,by omega,by omega,?_,ex,q _ _ ρ2 (s1.trans (s2.trans sw)) hw ((Rel.dat rx).mono sw)⟩;unfold seqIndex?;have h1:(i<0)=False:=eq_false (by omega);have h2 : ¬(i<0):=by omega
      have h3:i.toNat<us.length:=by omega
      simp[h2,h3];omega
     ·cases e
    |_=>cases e
   |_=>cases e
 |dat r1=>cases r1 <;> cases e
 |_=>cases e⟩
end
section
variable{sd:Sd}{g:G}{P:W->G->Prop}{d dl:DE}
theorem ZRY(h:EvP (dl sd g) λl g1=>∃ns:List Int,l=.dat (.list (ns.map .int))/\EvP (d sd g1) λx g2=>∃k,x=.dat (.int k)/\P (.dat (.int ((ns.count k:Nat):Int))) g2):EvP (ZH2 dl d sd g) P:=by
 obtain⟨l,g1,e1,ns,rfl,x,g2,e2,k,rfl,h⟩:=h;refine⟨_,_,?_,h⟩;unfold ZH2;rw[e1];show(ZAy (ns.map .int)).bind _=_;rw[ZGm];show(d sd g1).bind _=_;rw[e2];rfl
theorem ZR2{dk:DE}(h:EvP (dl sd g) λl g1=>∃n,l=.ref n/\isL g1 n=true/\EvP (dk sd g1) λx g2=>∃i:Nat,x=.dat (.int i)/\∃ds:List PyData,g2[n]? = some (.pl ds)/\i<ds.length/\ds.length<1000/\∀y,ds[i]? = some y->P (.dat y) (g2.set n (.pl (ds.eraseIdx i)))):EvP (ZJs dl dk sd g) P:=by
 obtain⟨l,g1,e1,n,rfl,hl,x,g2,e2,i,rfl,ds,e3,h1,h2,h⟩:=h;refine⟨_,_,?_,h _ (getElem?_eq_getElem h1)⟩;unfold ZJs;rw[e1];show(if isL g1 n=true then _ else _)=_;rw[if_pos hl];show(dk sd g1).bind _=_;rw[e2];show(lk g2 n).bind _=_;unfold lk;rw[e3];show(if 0<=(i:Int)/\(i:Int)<ds.length/\ds.length<1000 then _ else _)=_;rw[if_pos ⟨by omega,by omega,h2⟩,toNat_natCast,getElem?_eq_getElem h1];rfl
end
noncomputable def ZCi(d:DE)(aa:DA):DA:=ZA d aa
noncomputable def ZF2(y z:Str)(d:DE):DE:=λsd g=>(d sd g).bind λp=>match p.1 with
 |.dat (.str a)=>if a.length<=100000 then some (.dat (.str (Txt.replace a y z)),p.2) else none
 |_=>none
noncomputable def PAT(X:Cx)(es:List Expr)(t:TA):Prop :=
 ∀(pos:Pos) (pins:List (Addr×Obj)) (s:Shared) (σ : St) (H:Hp) (Q:List V->Hp->Prop),1<=s.toks->Inv X pins σ H s->t σ H Q->wpAny (model X.prog X.w) X.A (spliced (backTo pos (starEach es X.env))) (AP X pins σ Q) X.xe s
structure JAT (X:Cx) (es:List Expr) (da:DA):Prop where
 h:PAT X es (tA X.K da)
section
variable{X:Cx}{e:Expr}{es:List Expr}{d:DE}{aa:DA}
theorem ZPA:JAT X [] ZE:=⟨λpos pins s σ H Q _ I q=>ZL.h pos pins s σ H Q I q⟩
theorem ZLo{t:TE}{tr:TA}(ha:PE X e t)(hr:PAT X es tr)(hs:starEach (e::es) X.env=(false,eval e X.env)::starEach es X.env):PAT X (e::es) (λσ H Q=>t σ H λv H1=>tr σ H1 λvs H2=>Q (v::vs) H2):=by
 intro pos pins s σ H Q ht I q;rw[hs];refine Calls.spliced_cons ?_;refine wpAny_mono (wpAny_toks_of ht (ha pins s σ H _ I q)) (λu s1 ⟨ht1,x,H1,I1,r1,q1⟩=>?_) λ_ _ x=>x.2
 exact thn (hr pos pins s1 σ H1 _ ht1 I1 q1) λus s2 ⟨vs,H2,I2,r2,q2⟩=>⟨x::vs,H2,I2,.cons r1 r2,q2⟩
theorem ZJR{t1:DE}(h:PAT X (e::es) (λσ H Q=>tE X.K t1 σ H λv H1=>tA X.K aa σ H1 λvs H2=>Q (v::vs) H2)):PAT X (e::es) (tA X.K (ZA t1 aa)):=λpos pins s σ H Q ht I ⟨ρ,sd,g,xs,g',r,e,q⟩=>by
 obtain⟨⟨y,g1⟩,e1,e⟩:=bnd e;obtain⟨⟨ys,g2⟩,e2,e⟩:=mp e;cases e;exact h pos pins s σ H Q ht I ⟨ρ,sd,g,y,g1,r,e1,λv H1 ρ1 s1 h1 r1=>⟨ρ1,sd,g1,ys,g2,r.step s1 h1,e2,λvs H2 ρ2 s2 h2 r2=>q (v::vs) H2 ρ2 (s1.trans s2) h2 (.cons (r1.mono s2) r2)⟩⟩
theorem ZNj(ha:JE X e d)(hr:JAT X es aa)(hs:starEach (e::es) X.env=(false,eval e X.env)::starEach es X.env:=by rfl):JAT X (e::es) (ZA d aa):=⟨ZJR (ZLo ha.h hr.h hs)⟩
theorem ZK4{x:Str}{j:Nat}{pos:Pos}(hr:JAT X es aa)(hs:starEach (.Constant (.str x) j pos::es) X.env=(false,eval (.Constant (.str x) j pos) X.env)::starEach es X.env:=by rfl):JA X (.Constant (.str x) j pos::es) (ZCi (dC (.str x)) aa):=⟨λp pins s σ H Q I ⟨ρ,sd,g,xs,g',r,e,q⟩=>by
 unfold ZCi at e;obtain⟨⟨y,g1⟩,e1,e⟩:=bnd e;obtain⟨⟨ys,g2⟩,e2,e⟩:=mp e;cases e;cases e1;rw[hs];refine Calls.spliced_cons (Calls.Constant_str (k:=j) (pos:=pos) ?_);refine thn (hr.h p pins { s with toks:=s.toks+1 } σ H (λvs H2=>Q (.str x::vs) H2) (Nat.succ_le_succ (zero_le _)) (I.tok _) ⟨ρ,sd,g,ys,g2,r,e2,λvs H2 ρ2 s2 h2 r2=>q (.str x::vs) H2 ρ2 s2 h2 (.cons (.dat (.str x)) r2)⟩) λus s2 ⟨vs,H2,I2,r2,q2⟩=>⟨.str x::vs,H2,I2,.cons ⟨_,rfl⟩ r2,q2⟩⟩
theorem ZLV{o:Expr}{y z:Str}{j1 j2:Nat}{p1 p2 apos cpos:Pos}(ho:JE X o d)(hr:JAT X es aa)(hyz:(y == z)=false)(hz:z.length<=14)
  (hse:starEach (.Call (.Attribute o "replace" apos) [.Constant (.str y) j1 p1,.Constant (.str z) j2 p2] [] cpos::es) X.env=(false,eval (.Call (.Attribute o "replace" apos) [.Constant (.str y) j1 p1,.Constant (.str z) j2 p2] [] cpos) X.env)::starEach es X.env:=by rfl)
  (hbase:attributeBase o "replace" X.env (eval o X.env)=eval o X.env:=by rfl)
  (hfew:((backTo cpos (starEach [.Constant (.str y) j1 p1,.Constant (.str z) j2 p2] X.env)).all (λ x=>!x.1) && (backToKw cpos (keywordEach [] X.env)).all (λ x=>x.1.isSome)
   && decide ([Expr.Constant (.str y) j1 p1,.Constant (.str z) j2 p2].length+([]:List Keyword).length+(if ([]:List Keyword).isEmpty then 0 else 1)<30))=true:=by rfl)
  (hline:(apos.endLine == cpos.line)=true:=by rfl)(hs:starEach [.Constant (.str y) j1 p1,.Constant (.str z) j2 p2] X.env=[(false,eval (.Constant (.str y) j1 p1) X.env),(false,eval (.Constant (.str z) j2 p2) X.env)]:=by rfl) :
  JAT X (.Call (.Attribute o "replace" apos) [.Constant (.str y) j1 p1,.Constant (.str z) j2 p2] [] cpos::es) (ZA (ZF2 y z d) aa):=⟨ZJR λpos pins s σ H Q ht I ⟨ρ,sd,g,x,g',r,e,q⟩=>by
 obtain⟨⟨yv,g1⟩,e1,e⟩:=bnd e;rw[hse];refine Calls.spliced_cons ?_;refine wpAny_Call_method_late hbase hfew hline rfl ?_;refine wpAny_mono (wpAny_toks_of ht (ho.h pins s σ H (λv H1=>∃ρ1,Stp ρ H ρ1 H1/\HR X.K ρ1 H1 g1/\Rel X.K ρ1 H1 v yv) I ⟨ρ,sd,g,yv,g1,r,e1,λv H1 ρ1 s1 h1 r1=>⟨ρ1,s1,h1,r1⟩⟩)) (λu s1 ⟨ht1,x1,H1,I1,r1,ρ1,st1,h1,rr⟩=>?_) λ_ _ x=>x.2
 dsimp only at e
 split at e
 ·rename_i a _
  split at e
  ·rename_i hl
   cases e;cases rr with
   |dat rr =>
    cases rr;obtain⟨t,rfl⟩:=r1;refine⟨"str","str.replace",PySem.F.plainAttrs_str,PySem.F.slot_str_replace,PySem.F.type_str_replace,typeIs_str _ _ _,?_,?_⟩
    ·exact(ZK8 I1 (x:=.str a) ⟨t,rfl⟩ (T:="str") rfl).2
    rw[hs];refine Calls.callWith_builtin rfl (Calls.evalArgs_plain ?_);refine Calls.spliced_cons (Calls.Constant_str (k:=j1) (pos:=p1) (Calls.spliced_cons (Calls.Constant_str (k:=j2) (pos:=p2) (Calls.spliced_nil ?_))));refine wpAny_mono (wpAny_toks_of (n:=1) (by show 1<=s1.toks+1+1;omega) (SC.replaceW (Q:=λv s'=>∃t' k,v=.str (Txt.replace a y z) t'/\s'={ s1 with toks:=k }) (by show s1.toks≠0;omega) (by show s1.toks+1≠0;omega) (by show s1.toks≠s1.toks+1;omega) hyz (by omega) hz λt' k=>⟨t',k,rfl,rfl⟩)) (λv s2 ⟨ht2,t',k,e1,e2⟩=>?_) λ_ _ x=>x.2
    subst e1;subst e2;obtain hq:=q (.str (Txt.replace a y z)) H1 ρ1 st1 h1 (.dat (.str _));exact thn (hr.h pos pins { s1 with toks:=k } σ H1 _ ht2 (I1.tok _) hq) λus s2 ⟨vs,H2,I2,r2,q2⟩=>⟨.str (Txt.replace a y z)::vs,H2,I2,.cons ⟨_,rfl⟩ r2,q2⟩
  ·cases e
 ·cases e⟩
end
section
variable{sd:Sd}{g:G}{P:W->G->Prop}{d:DE}{y z:Str}
theorem ZSC(h:EvP (d sd g) λv g1=>∃a:Str,v=.dat (.str a)/\a.length<=100000/\P (.dat (.str (Txt.replace a y z))) g1):EvP (ZF2 y z d sd g) P:=by
 obtain⟨v,g1,e1,a,rfl,hl,h⟩:=h;refine⟨_,_,?_,h⟩;unfold ZF2;rw[e1];exact if_pos hl
end
noncomputable def ZLk(n:Nat)(k:Int)(v:W)(g:G):Option G:=match g[n]?,v with
 |some (.pl ds),.dat d=>(ixN ds.length k).map λj=>g.set n (.pl (ds.set j d))
 |_,_=>none
noncomputable def ZCC(dl di:DE)(x:W)(sd:Sd)(g:G):Option G:=(dl sd g).bind λl=>(di sd l.2).bind λi=>match l.1,i.1 with
 |.ref n,.dat (.int k)=>ZLk n k x i.2
 |_,_=>none
noncomputable def ZFl(d1 i1 d2 i2 d:DE):DS:=λsd g=>(d sd g).bind λv=>match v.1 with
 |.tup [x,y]=>(ZCC d1 i1 x sd v.2).bind λg1=>(ZCC d2 i2 y sd g1).map λg2=>.nx sd g2
 |_=>none
section
variable{X:Cx}{K:PySem.W.Frag}{ρ : Rh}{H:Hp}
theorem ZHn{n:Nat}{a:Addr}{k:Int}{x:W}{v:V}{g g':G}(h:HR K ρ H g)(hn : ρ.c[n]? = some a)(rv:Rel K ρ H v x)(e:ZLk n k x g=some g'):∃(us:List V) (j:Nat),H a=some (.lst us)/\ixN us.length k=some j/\HR K ρ (upd H a (.lst (us.set j v))) g'/\Stp ρ H ρ (upd H a (.lst (us.set j v))):=by
 unfold ZLk at e
 split at e
 ·rename_i ds d e4
  obtain⟨j,e5,e⟩:=mp e;cases e;cases rv with
  |dat rv =>
   obtain⟨a',us,k1,k2,k3⟩:=h.at_ _ _ e4;rw[hn] at k1;cases k1;obtain⟨hw,sw⟩:=h.write hn k2 (RelDL.set rv j k3);exact⟨us,j,k2,by rw[k3.length];exact e5,hw,sw⟩
 ·cases e
theorem ZNC{o1 x1 o2 x2 e:Expr}{d1 i1 d2 i2 d:DE}{k:Nat}{pos tpos p1 p2:Pos}(hc:X.calm=true)(he:JE X e d)(h1:JE X o1 d1)(h2:JE X x1 i1)(h3:JE X o2 d2)(h4:JE X x2 i2)
  (ha1:∀ v,assign (.Subscript o1 x1 p1) X.env v=(do
   let ov ←holding [v] (eval o1 X.env)
   let iv ←holding [v,ov] (eval x1 X.env)
   standAt p1
   holding [v,ov,iv] (setItem ov iv v)
   release [v,ov,iv] []):=by intro _;rfl)
  (ha2:∀ v,assign (.Subscript o2 x2 p2) X.env v=(do
   let ov ←holding [v] (eval o2 X.env)
   let iv ←holding [v,ov] (eval x2 X.env)
   standAt p2
   holding [v,ov,iv] (setItem ov iv v)
   release [v,ov,iv] []):=by intro _;rfl)
  (g0:(assignEach [.Subscript o1 x1 p1,.Subscript o2 x2 p2] X.env).map (·.2)=assign (.Subscript o1 x1 p1) X.env::(assignEach [.Subscript o2 x2 p2] X.env).map (·.2):=by rfl)
  (g1:(assignEach [.Subscript o2 x2 p2] X.env).map (·.2)=assign (.Subscript o2 x2 p2) X.env::(assignEach [] X.env).map (·.2):=by rfl)
  (hn:(assignEach [.Subscript o1 x1 p1,.Subscript o2 x2 p2] X.env).length=2:=by rfl)(hst:(assignEach [.Subscript o1 x1 p1,.Subscript o2 x2 p2] X.env).findIdx? (·.1)=none:=by rfl)
  (hs:swapsWithSole [.Tuple [.Subscript o1 x1 p1,.Subscript o2 x2 p2] k tpos] e pos.line X.env=pure false:=by rfl)(hw:swappedStores [.Tuple [.Subscript o1 x1 p1,.Subscript o2 x2 p2] k tpos] e X.env=pure none:=by rfl)
  (h5:(assignEach [.Tuple [.Subscript o1 x1 p1,.Subscript o2 x2 p2] k tpos] X.env).map (·.2)=[assign (.Tuple [.Subscript o1 x1 p1,.Subscript o2 x2 p2] k tpos) X.env]:=by rfl) :
  JS X (.Assign [.Tuple [.Subscript o1 x1 p1,.Subscript o2 x2 p2] k tpos] e pos) (ZFl d1 i1 d2 i2 d):=⟨(ZGP he.h (ZMb hc (ZFG (ZGx h1.h h2.h ZEZ ha1) (ZFG (ZGx h3.h h4.h ZEZ ha2) ZJy g1) g0) hn hst) hs hw h5).imp λD σ H ⟨ρ,sd,g,oo,r,e,q⟩=>by
 obtain⟨⟨y,g1⟩,e1,e⟩:=bnd e;refine⟨ρ,sd,g,y,g1,r,e1,λv H1 ρ1 s1 h1 r1=>?_⟩;dsimp only at e
 split at e
 ·rename_i dx dy
  cases r1 with
  |@tup a xs ws f tl =>
   cases tl with
   |cons rx tl=>cases tl with
    |cons ry tl =>
     cases tl;obtain⟨g2,e2,e⟩:=bnd e;obtain⟨g3,e3,e⟩:=mp e;cases e;unfold ZCC at e2 e3;obtain⟨⟨l,ga⟩,ea,e2⟩:=bnd e2;obtain⟨⟨kk,gb⟩,eb,e2⟩:=bnd e2;refine⟨a,_,rfl,f.sq,rfl,_,_,rfl,ρ1,sd,g1,l,ga,r.step s1 h1,ea,λv2 H2 ρ2 s2 h2 r2=>⟨ρ2,sd,ga,kk,gb,r.step (s1.trans s2) h2,eb,λv3 H3 ρ3 s3 h3 r3=>?_⟩⟩;have r2:=r2.mono s3;dsimp only at e2
     split at e2
     ·
      cases r2 with
      |@ref la ln hn =>
       cases r3 with
       |dat r3 =>
        cases r3;obtain⟨us,j4,m2,ml,hw,sw⟩:=ZHn h3 hn ((rx.mono s2).mono s3) e2;refine⟨la,us,_,j4,rfl,rfl,m2,ml,?_⟩;have sA:=s1.trans (s2.trans (s3.trans sw));obtain⟨⟨l2,gc⟩,ec,e3⟩:=bnd e3;obtain⟨⟨k2,gd⟩,ed,e3⟩:=bnd e3;refine⟨_,_,rfl,ρ3,sd,g2,l2,gc,r.step sA hw,ec,λv5 H5 ρ5 s5 h5 r5=>⟨ρ5,sd,gc,k2,gd,r.step (sA.trans s5) h5,ed,λv6 H6 ρ6 s6 h6 r6=>?_⟩⟩;have r5:=r5.mono s6;dsimp only at e3
        split at e3
        ·
         cases r5 with
         |@ref la2 ln2 hn2 =>
          cases r6 with
          |dat r6 =>
           cases r6;obtain⟨us2,j7,m7,ml7,hw7,sw7⟩:=ZHn h6 hn2 (((((ry.mono s2).mono s3).mono sw).mono s5).mono s6) e3;have sB:=sA.trans (s5.trans (s6.trans sw7));exact⟨la2,us2,_,j7,rfl,rfl,m7,ml7,rfl,q σ _ ρ6 sB (r.step sB hw7)⟩
        ·cases e3
     ·cases e2
 ·cases e⟩
end
section
variable{sd:Sd}{g:G}{P:W->G->Prop}{PS':Out->Prop}{d d1 i1 d2 i2:DE}{aa:DA}
theorem ZMz(h:EvP (d sd g) λv g1=>∃x y,v=.tup [x,y]/\∃g2,ZCC d1 i1 x sd g1=some g2/\∃g3,ZCC d2 i2 y sd g2=some g3/\PS' (.nx sd g3)):EvS (ZFl d1 i1 d2 i2 d sd g) PS':=by
 obtain⟨v,g1,e1,x,y,rfl,g2,e2,g3,e3,h⟩:=h;refine⟨_,?_,h⟩;unfold ZFl;rw[e1];show(ZCC d1 i1 x sd g1).bind _=_;rw[e2];show(ZCC d2 i2 y sd g2).map _=_;rw[e3];rfl
theorem ZJF{n j:Nat}{k:Int}{ds:List PyData}{v:PyData}(h:g[n]? = some (.pl ds))(hj:ixN ds.length k=some j):ZLk n k (.dat v) g=some (g.set n (.pl (ds.set j v))):=by
 unfold ZLk;rw[h];show(ixN ds.length k).map _=_;rw[hj];rfl
end
end L2
namespace K75
open PySem PySem.Spec PyProof.Rows L2 H1
noncomputable def top(i:Nat):Stmt:=PySem.Challenge.pw_hearsaybook_k75_no_rows.main.body.getD i (.Pass ⟨0,0,0,0⟩)
noncomputable abbrev ZBs:List Str:=["thing"]
noncomputable abbrev ZBo:List Str:=["thing"]
noncomputable abbrev ZEB:List Str:=["things"]
noncomputable abbrev ZAl:List Str:=["thing"]
noncomputable abbrev ZBB:List Str:=["some","others"]
noncomputable abbrev ZA0:List Str:=["text"]
noncomputable abbrev Z9:List Str:=["word"]
noncomputable abbrev Zz:List Str:=["text","between"]
noncomputable abbrev ZAA:List Str:=["text"]
noncomputable abbrev ZBK:List Str:=["text"]
noncomputable abbrev ZB1:List Str:=["_law_script","_law_k"]
noncomputable abbrev ZBI:List Str:=["_law_box_here","_law_many"]
noncomputable abbrev ZAa:List Str:=["_law_box_here","_law_most","_law_many"]
noncomputable abbrev ZAU:List Str:=["_law_box_here"]
noncomputable abbrev Z1:List Str:=["_law_numbers"]
noncomputable abbrev ZAX:List Str:=["_law_word"]
noncomputable abbrev ZBE:List Str:=["_law_word"]
noncomputable abbrev ZBm:List Str:=["_law_text"]
noncomputable abbrev ZAZ:List Str:=["_law_box_here","_law_row"]
noncomputable abbrev ZAm:List Str:=["_law_text"]
set_option genInjectivity false in
set_option genSizeOf false in
structure Adr where
 (ct cb cx cl:Addr)
 (fx0 fx1 fx2 fx3 fx4 fx5 fx6 fx7 fx8 fx9 fx10 fx11 fx12 fx13 fx14 fx15 fx16 fx17 fx18 fx19:Addr)
 (fy0 fy1 fy2 fy3 fy4 fy5 fy6 fy7 fy8 fy9 fy10 fy11 fy12 fy13 fy14 fy15 fy16 fy17 fy18 fy19:FuncData)
structure Txt (K:PySem.W.Frag) (mg:Str->Option Value) (A:Adr):Prop where
 z_ValueError:mg "ValueError" = none
 z_abs:mg "abs" = none
 z_all:mg "all" = none
 z_any:mg "any" = none
 z_bool:mg "bool" = none
 z_int:mg "int" = none
 z_isinstance:mg "isinstance" = none
 z_len:mg "len" = none
 z_list:mg "list" = none
 z_min:mg "min" = none
 z_range:mg "range" = none
 z_repr:mg "repr" = none
 z_set:mg "set" = none
 z_sorted:mg "sorted" = none
 z_str:mg "str" = none
 z_tuple:mg "tuple" = none
 z_zip:mg "zip" = none
 g_FIGURES:ZPG mg "FIGURES" "0123456789"
 g_MOST_FIGURES:ZOz mg "MOST_FIGURES" 9
 g_NONE:ZPG mg "NONE" "-"
 xn:XCl K mg "NoText" A.ct
 xm:mg "HearsayError" = some (.ref A.cb)
 xe:ZDN K A.cb=true
 xs:PySem.W.mroIn K A.ct (.ref A.cb)=some true
 x1:PySem.W.kitOne K (.ref A.ct) (.ref A.ct)=some true
 x4:PySem.W.kitOne K (.type "NoneType") (.ref A.ct)=some false
 x2:PySem.W.kitOne K (.ref A.ct) (.type "ValueError")=some true
 xl:mg "NoLine" = some (.ref A.cl)
 xd:mg "BadDoings" = some (.ref A.cx)
 x3:PySem.W.kitAny K (.ref A.ct) [.ref A.cx,.ref A.cl]=some false
 fz0:Def K mg "is_whole" (top 1) ZBs A.fx0 A.fy0
 fz1:Def K mg "is_count" (top 2) ZBo A.fx1 A.fy1
 fz2:Def K mg "rises" (top 3) ZEB A.fx2 A.fy2
 fz3:Def K mg "are_rising" (top 5) ZAl A.fx3 A.fy3
 fz4:Def K mg "are_apart" (top 6) ZBB A.fx4 A.fy4
 fz5:Def K mg "read_row" (top 16) ZA0 A.fx5 A.fy5
 fz6:Def K mg "read_doings" (top 17) Z9 A.fx6 A.fy6
 fz7:Def K mg "read_numbers" (top 18) Zz A.fx7 A.fy7
 fz8:Def K mg "read_number" (top 19) ZAA A.fx8 A.fy8
 fz9:Def K mg "is_number" (top 20) ZBK A.fx9 A.fy9
 fz10:Def K mg "_law_box" (top 22) ZB1 A.fx10 A.fy10
 fz11:Def K mg "_law_take" (top 23) ZBI A.fx11 A.fy11
 fz12:Def K mg "_law_rising" (top 24) ZAa A.fx12 A.fy12
 fz13:Def K mg "_law_doings" (top 25) ZAU A.fx13 A.fy13
 fz14:Def K mg "_law_part_text" (top 26) Z1 A.fx14 A.fy14
 fz15:Def K mg "_law_number" (top 27) ZAX A.fx15 A.fy15
 fz16:Def K mg "_law_part" (top 28) ZBE A.fx16 A.fy16
 fz17:Def K mg "_law_due" (top 29) ZBm A.fx17 A.fy17
 fz18:Def K mg "_law_spoilt" (top 30) ZAZ A.fx18 A.fy18
 fz19:Def K mg "_law_right" (top 31) ZAm A.fx19 A.fy19
section
variable{a0 a1 a2 a3 a4 a5 a6 a7:W}{g:G}{P:W->G->Prop}
@[reducible] noncomputable def ZCo:DS :=
 (ZQ (ZB3 (dF ZKC (ZA (ZB 0) (ZA (λ_ g=>some (.ty "int",g)) ZE))) (ZFh (dF ZKC (ZA (ZB 0) (ZA (λ_ g=>some (.ty "bool",g)) ZE))))))
@[irreducible] noncomputable def ZAH:List W->G->Option (W×G):=ZA9 1 ZCo
theorem ZHf(h:EvS (ZCo [some a0] g) (runP P)):EvP (ZAH [a0] g) P:=by
 unfold ZAH;exact Zu h
@[reducible] noncomputable def ZCp:DS :=
 (ZQ (ZB3 (dF ZAH (ZA (ZB 0) ZE)) (dOp ZQK (ZB 0) (dC (.int 0)))))
@[irreducible] noncomputable def ZAF:List W->G->Option (W×G):=ZA9 1 ZCp
theorem ZHt(h:EvS (ZCp [some a0] g) (runP P)):EvP (ZAF [a0] g) P:=by
 unfold ZAF;exact Zu h
@[reducible] noncomputable def ZGq:DS :=
 (ZQ (dF (f1 ZEe) (ZA (Z4 2 [] (.tp (.cons (.nm 0) (.cons (.nm 1) .nil))) (ZHA (ZA (ZB 0) (ZA (dSl (ZB 0) (ZFc (dC (.int 1))) ZDG) ZE))) Zs (dOp ZIb (ZB 0) (ZB 1))) ZE)))
@[irreducible] noncomputable def ZBu:List W->G->Option (W×G):=ZA9 1 ZGq
theorem ZLc(h:EvS (ZGq [some a0] g) (runP P)):EvP (ZBu [a0] g) P:=by
 unfold ZBu;exact Zu h
@[reducible] noncomputable def ZBt:DS :=
 (ZQ (ZB3 (dF ZKC (ZA (ZB 0) (ZA (λ_ g=>some (.ty "tuple",g)) ZE))) (ZB3 (dF (f1 ZEe) (ZA (Z4 1 [] (.nm 0) (ZBX (ZB 0)) Zs (dF ZAF (ZA (ZB 0) ZE))) ZE)) (dF ZBu (ZA (ZB 0) ZE)))))
@[irreducible] noncomputable def Zm:List W->G->Option (W×G):=ZA9 1 ZBt
theorem ZFS(h:EvS (ZBt [some a0] g) (runP P)):EvP (Zm [a0] g) P:=by
 unfold Zm;exact Zu h
@[reducible] noncomputable def ZCK:DS :=
 (ZQ (dF (f1 ZEe) (ZA (Z4 1 [1] (.nm 0) (ZBX (ZB 0)) Zs (dOp ZDQ (ZB 0) (ZB 1))) ZE)))
@[irreducible] noncomputable def Zk:List W->G->Option (W×G):=ZA9 2 ZCK
theorem ZGr(h:EvS (ZCK [some a0,some a1] g) (runP P)):EvP (Zk [a0,a1] g) P:=by
 unfold Zk;exact Zu h
@[reducible] noncomputable def ZB7:DS :=
 (ZR (ZAM (ZDW (ZHM (dB (ZCt ZON ZON (dC (.int 1)) (dF (f1 ZJ4) (ZA (ZB 0) ZE)) (dC (.int 9)))) (dB (dF (f1 ZEe) (ZA (Z4 1 [] (.nm 0) (ZRU (ZB 0)) Zs (dOp ZNX (ZB 0) (dC (.str "0123456789")))) ZE)))))
 (ZQ (dC (.bool false)))
 dNx)
 (ZQ (ZK5 (dOp ZC1 (ZB 0) (dC (.str "0"))) (dOp ZHO (dOp ZJ3 (ZB 0) (dC (.int 0))) (dC (.str "0"))))))
@[irreducible] noncomputable def Zx:List W->G->Option (W×G):=ZA9 1 ZB7
theorem ZGw(h:EvS (ZB7 [some a0] g) (runP P)):EvP (Zx [a0] g) P:=by
 unfold Zx;exact Zu h
@[reducible] noncomputable def ZA2:DX :=
 (ZBF (ZGz (ZDW (dB (dF Zx (ZA (ZB 0) ZE)))) (ZBL "NoText" (ZA (dC (.str "this is no number")) ZE)) (dUp dNx)) (dUp (ZQ (dF (f1 ZJp) (ZA (ZB 0) ZE)))))
@[irreducible] noncomputable def ZY:List W->G->Option OutE:=ZCe 1 ZA2
@[irreducible] noncomputable def ZCc:List W->G->Option (W×G):=ZIa ZY
theorem ZD0{a0:W}{g:G}{P:OutE->Prop}(h:EvX (ZA2 [some a0] g) (runE P)):EvE (ZY [a0] g) P:=by
 unfold ZY;exact ZI0 h
@[reducible] noncomputable def ZAj:DX :=
 (ZFj (dFE ZCr (ZCl 1 [] (.nm 0) (ZBX (dMt ZA8 (ZB 0) (ZA (ZB 1) ZE))) (ZBk ZY (ZA (ZB 0) ZE)))))
@[irreducible] noncomputable def ZV:List W->G->Option OutE:=ZCe 2 ZAj
@[irreducible] noncomputable def ZCG:List W->G->Option (W×G):=ZIa ZV
theorem ZDe{a0 a1:W}{g:G}{P:OutE->Prop}(h:EvX (ZAj [some a0,some a1] g) (runE P)):EvE (ZV [a0,a1] g) P:=by
 unfold ZV;exact ZI0 h
@[reducible] noncomputable def ZAz:DX :=
 (ZBF (dUp (Zo 1 (dMt ZA8 (ZB 0) (ZA (dC (.str "/")) ZE)))) (ZBF (ZGz (dB (dOp ZHO (dF (f1 ZFQ) (ZA (ZB 1) ZE)) (dC (.int 4)))) (ZBL "NoText" (ZA (dC (.str "doings are four tuples")) ZE)) (dUp dNx)) (ZBF (ZEW 2 (dFE ZCr (ZCl 1 [] (.nm 0) (ZBX (ZB 1)) (ZLn (dB (dOp ZC1 (ZB 0) (dC (.str "-")))) (ZNW (dF ZDz ZE)) (ZBk ZV (ZA (ZB 0) (ZA (dC (.str ".")) ZE))))))) (ZBF (dUp (ZH6 (.tp (.cons (.nm 3) (.cons (.nm 4) (.cons (.nm 5) (.cons (.nm 6) .nil))))) (ZB 2))) (ZBF (ZGz (ZDW (dB (dF (f1 ZEe) (ZA (Z4 1 [] (.nm 0) (ZBX (ZB 2)) Zs (dF Zm (ZA (ZB 0) ZE))) ZE)))) (ZBL "NoText" (ZA (dC (.str "the numbers of doings must rise")) ZE)) (dUp dNx)) (ZBF (ZGz (ZDW (ZHM (dB (dF Zk (ZA (ZB 4) (ZA (ZB 5) ZE)))) (dB (dF Zk (ZA (dOp ZT (ZB 4) (ZB 5)) (ZA (ZB 6) ZE)))))) (ZBL "NoText" (ZA (dC (.str "a house falls, leaves or comes, not two of these")) ZE)) (dUp dNx)) (dUp (ZQ (ZB 2)))))))))
@[irreducible] noncomputable def ZX:List W->G->Option OutE:=ZCe 7 ZAz
@[irreducible] noncomputable def ZCd:List W->G->Option (W×G):=ZIa ZX
theorem ZD5{a0:W}{g:G}{P:OutE->Prop}(h:EvX (ZAz [some a0,none,none,none,none,none,none] g) (runE P)):EvE (ZX [a0] g) P:=by
 unfold ZX;exact ZI0 h
@[reducible] noncomputable def ZB5:DX :=
 (ZBF (ZGz (ZDW (dB (dF ZKC (ZA (ZB 0) (ZA (λ_ g=>some (.ty "str",g)) ZE))))) (ZBL "NoText" (ZA (dC (.str "a row is written as a text")) ZE)) (dUp dNx)) (ZBF (dUp (ZAM (dB (dOp ZC1 (ZB 0) (dC (.str ""))))
 (ZQ (dF ZDz ZE))
 dNx)) (ZFj (dFE ZCr (ZCl 1 [] (.nm 0) (ZBX (dMt ZA8 (ZB 0) (ZA (dC (.str " ")) ZE))) (ZBk ZX (ZA (ZB 0) ZE)))))))
@[irreducible] noncomputable def Zw:List W->G->Option OutE:=ZCe 1 ZB5
@[irreducible] noncomputable def ZEw:List W->G->Option (W×G):=ZIa Zw
theorem ZDD{a0:W}{g:G}{P:OutE->Prop}(h:EvX (ZB5 [some a0] g) (runE P)):EvE (Zw [a0] g) P:=by
 unfold Zw;exact ZI0 h
@[reducible] noncomputable def ZCv:DS :=
 (ZR (Zo 2 (dIf (dB (dOp ZIb (ZB 1) (dF (f1 ZFQ) (ZA (ZB 0) ZE)))) (dOp Za (ZB 0) (ZB 1)) (dC (.int 0))))
 (ZR (Zo 3 (dOp ZCX (dF (f1 ZQo) (ZA (ZB 2) ZE)) (dF (f1 ZPF) (ZA (dOp ZQK (dF (f1 ZQo) (ZA (ZB 2) ZE)) (dC (.int 1000000000000000000))) ZE))))
 (ZQ (dF ZDp (ZA (ZB 3) (ZA (dOp ZAu (dOp ZCX (dOp ZT (dOp ZT (dOp ZAu (ZB 2) (dC (.int 2147483629))) (dOp ZCX (dOp ZCX (dC (.int 7919)) (ZB 1)) (ZB 1))) (dC (.int 11))) (dC (.int 48271))) (dC (.int 2147483647))) (ZA (dC (.int 0)) ZE)))))))
@[irreducible] noncomputable def ZAE:List W->G->Option (W×G):=ZA9 4 ZCv
theorem ZHv(h:EvS (ZCv [some a0,some a1,none,none] g) (runP P)):EvP (ZAE [a0,a1] g) P:=by
 unfold ZAE;exact Zu h
@[reducible] noncomputable def ZCH:DS :=
 (ZR (ZGV (ZB 0) (dC (.int 2)) (dOp ZT (dOp Za (ZB 0) (dC (.int 2))) (dC (.int 1))))
 (ZR (ZAM (ZHM (dB (dOp ZNO (dOp Za (ZB 0) (dC (.int 0))) (dC (.int 0)))) (dB (dOp ZON (dOp Za (ZB 0) (dC (.int 2))) (dC (.int 60)))))
 (ZR (Zo 2 (dOp ZAu (dOp Za (ZB 0) (dC (.int 0))) (ZB 1)))
 (ZR (ZGV (ZB 0) (dC (.int 0)) (dOp ZEY (dOp Za (ZB 0) (dC (.int 0))) (ZB 1)))
 (ZQ (ZB 2))))
 dNx)
 (ZR (ZGV (ZB 0) (dC (.int 1)) (dOp ZAu (dOp ZT (dOp ZT (dOp ZCX (dOp Za (ZB 0) (dC (.int 1))) (dC (.int 48271))) (dC (.int 12345))) (dOp Za (ZB 0) (dC (.int 2)))) (dC (.int 2147483647))))
 (ZQ (dOp ZAu (dOp ZEY (dOp ZAu (dOp ZCX (dOp Za (ZB 0) (dC (.int 1))) (dOp ZT (dOp ZAu (dOp Za (ZB 0) (dC (.int 1))) (dC (.int 40009))) (dC (.int 3)))) (dC (.int 2147483629))) (dC (.int 7))) (ZB 1))))))
@[irreducible] noncomputable def ZH:List W->G->Option (W×G):=ZA9 3 ZCH
theorem ZG3(h:EvS (ZCH [some a0,some a1,none] g) (runP P)):EvP (ZH [a0,a1] g) P:=by
 unfold ZH;exact Zu h
@[reducible] noncomputable def ZBO:DS :=
 (ZR (Zo 3 ZPt)
 (ZR (ZGU (.nm 4) (ZBn (ZA (dF ZH (ZA (ZB 0) (ZA (dOp ZT (ZB 2) (dC (.int 1))) ZE))) ZE))
 (ZJw (ZB 3) (dF ZH (ZA (ZB 0) (ZA (ZB 1) ZE))) (dC (.bool true))))
 (ZQ (dF (f1 ZCr) (ZA (dF (f1 ZJH) (ZA (ZB 3) ZE)) ZE)))))
@[irreducible] noncomputable def Zi:List W->G->Option (W×G):=ZA9 5 ZBO
theorem ZEu(h:EvS (ZBO [some a0,some a1,some a2,none,none] g) (runP P)):EvP (Zi [a0,a1,a2] g) P:=by
 unfold Zi;exact Zu h
@[reducible] noncomputable def ZBV:DS :=
 (ZR (Zo 1 (dF Zi (ZA (ZB 0) (ZA (dOp Za (dF ZDy (ZA (dC (.int 6)) (ZA (dC (.int 60)) (ZA (dC (.int 1000000000)) ZE)))) (dF ZH (ZA (ZB 0) (ZA (dC (.int 3)) ZE)))) (ZA (dC (.int 5)) ZE)))))
 (ZR (Zo 2 (dF ZGH (ZA (dF ZDp ZE) (ZA (dF ZDp ZE) (ZA (dF ZDp ZE) (ZA (dF ZDp ZE) ZE))))))
 (ZR (ZGU (.nm 3) (ZBn (ZA (dC (.int 8)) ZE))
 (ZC3 (ZIK (dOp Za (ZB 2) (dF ZH (ZA (ZB 0) (ZA (dC (.int 4)) ZE)))) (ZB 3))))
 (ZR (Zo 4 (dF ZH (ZA (ZB 0) (ZA (dC (.int 3)) ZE))))
 (ZR (ZAM (dB (dOp ZC1 (ZB 4) (dC (.int 0))))
 (ZQ (dF ZDz (ZA (ZB 1) (ZA (dF ZDz ZE) (ZA (dF ZDz ZE) (ZA (dF ZDz ZE) ZE))))))
 dNx)
 (ZQ (dF ZDz (ZA (ZB 1) (ZA (dF (f1 ZCr) (ZA (dOp Za (ZB 2) (dC (.int 0))) ZE)) (ZA (dF (f1 ZCr) (ZA (dSl (dOp Za (ZB 2) (dC (.int 1))) ZDG (ZFc (ZB 4))) ZE)) (ZA (dF (f1 ZCr) (ZA (dOp Za (ZB 2) (dC (.int 2))) ZE)) ZE)))))))))))
@[irreducible] noncomputable def Ze:List W->G->Option (W×G):=ZA9 5 ZBV
theorem ZEt(h:EvS (ZBV [some a0,none,none,none,none] g) (runP P)):EvP (Ze [a0] g) P:=by
 unfold Ze;exact Zu h
@[reducible] noncomputable def ZAP:DS :=
 (ZQ (dIf (dB (dOp ZC1 (ZB 0) (dF ZDz ZE))) (dC (.str "-")) (dMt ZBZ (dC (.str ".")) (ZA (Z4 1 [] (.nm 0) (ZBX (ZB 0)) Zs (dF (f1 ZNe) (ZA (ZB 0) ZE))) ZE))))
@[irreducible] noncomputable def ZO:List W->G->Option (W×G):=ZA9 1 ZAP
theorem ZDJ(h:EvS (ZAP [some a0] g) (runP P)):EvP (ZO [a0] g) P:=by
 unfold ZO;exact Zu h
@[reducible] noncomputable def ZBP:DS :=
 (ZR (ZAM (dOr (dB (dOp ZC1 (ZB 0) (dC (.str "")))) (dOr (dB (dOp ZNO (dF (f1 ZJ4) (ZA (ZB 0) ZE)) (dC (.int 9)))) (dB (dF (f1 ZFv) (ZA (Z4 1 [] (.nm 0) (ZRU (ZB 0)) Zs (dOp ZE8 (ZB 0) (dC (.str "0123456789")))) ZE)))))
 (ZQ (dUn ZP1 (dC (.int 1))))
 dNx)
 (ZR (Zo 1 (dF (f1 ZJp) (ZA (ZB 0) ZE)))
 (ZQ (dIf (dB (dOp ZC1 (dF (f1 ZNe) (ZA (ZB 1) ZE)) (ZB 0))) (ZB 1) (dUn ZP1 (dC (.int 1)))))))
@[irreducible] noncomputable def Zh:List W->G->Option (W×G):=ZA9 2 ZBP
theorem ZE0(h:EvS (ZBP [some a0,none] g) (runP P)):EvP (Zh [a0] g) P:=by
 unfold Zh;exact Zu h
@[reducible] noncomputable def ZCA:DS :=
 (ZR (ZAM (dB (dOp ZC1 (ZB 0) (dC (.str "-"))))
 (ZQ (dF ZDz ZE))
 dNx)
 (ZR (Zo 1 (Z4 1 [] (.nm 0) (ZBX (dMt ZA8 (ZB 0) (ZA (dC (.str ".")) ZE))) Zs (dF Zh (ZA (ZB 0) ZE))))
 (ZR (ZAM (dOr (dB (dOp ZIW (dUn ZP1 (dC (.int 1))) (ZB 1))) (dB (dOp ZHO (ZB 1) (dSS (ZB 1)))))
 (ZQ (dC .none))
 dNx)
 (ZQ (dF (f1 ZCr) (ZA (ZB 1) ZE))))))
@[irreducible] noncomputable def Zl:List W->G->Option (W×G):=ZA9 2 ZCA
theorem ZGb(h:EvS (ZCA [some a0,none] g) (runP P)):EvP (Zl [a0] g) P:=by
 unfold Zl;exact Zu h
@[reducible] noncomputable def ZCh:DS :=
 (ZR (ZAM (ZDW (dB (dF ZKC (ZA (ZB 0) (ZA (λ_ g=>some (.ty "str",g)) ZE)))))
 (ZQ (dC .none))
 dNx)
 (ZR (Zo 1 (dF ZDp ZE))
 (ZR (ZGU (.nm 2) (ZBX (dIf (dB (dOp ZHO (ZB 0) (dC (.str "")))) (dMt ZA8 (ZB 0) (ZA (dC (.str " ")) ZE)) (dF ZDy ZE)))
 (ZR (Zo 3 (Z4 1 [] (.nm 0) (ZBX (dMt ZA8 (ZB 2) (ZA (dC (.str "/")) ZE))) Zs (dF Zl (ZA (ZB 0) ZE))))
 (ZR (ZAM (dOr (dB (dOp ZHO (dF (f1 ZFQ) (ZA (ZB 3) ZE)) (dC (.int 4)))) (dB (dOp ZIW (dC .none) (ZB 3))))
 (ZQ (dC .none))
 dNx)
 (ZR (Zo 4 (dOp ZT (dOp ZT (dF (f1 ZIA) (ZA (dOp Za (ZB 3) (dC (.int 1))) ZE)) (dF (f1 ZIA) (ZA (dOp Za (ZB 3) (dC (.int 2))) ZE))) (dF (f1 ZIA) (ZA (dOp Za (ZB 3) (dC (.int 3))) ZE))))
 (ZR (ZAM (dB (dF (f1 ZFv) (ZA (Z4 1 [4] (.nm 0) (ZBX (ZB 4)) Zs (dOp ZNO (ZH2 (ZB 1) (ZB 0)) (dC (.int 1)))) ZE)))
 (ZQ (dC .none))
 dNx)
 (ZC3 (ZIK (ZB 1) (dF (f1 ZCr) (ZA (ZB 3) ZE)))))))))
 (ZQ (dF (f1 ZCr) (ZA (ZB 1) ZE))))))
@[irreducible] noncomputable def ZAC:List W->G->Option (W×G):=ZA9 5 ZCh
theorem ZDi(h:EvS (ZCh [some a0,none,none,none,none] g) (runP P)):EvP (ZAC [a0] g) P:=by
 unfold ZAC;exact Zu h
@[reducible] noncomputable def ZBR:DS :=
 (ZR (Zo 2 (ZAi 1 [] (.nm 0) (ZBX (ZB 1)) Zs (dPl (ZAi 1 [] (.nm 0) (ZBX (ZB 0)) Zs (dF ZO (ZA (ZB 0) ZE))))))
 (ZR (ZHs 3 4 5 (ZA (dF ZH (ZA (ZB 0) (ZA (dF (f1 ZFQ) (ZA (ZB 2) ZE)) ZE))) (ZA (dF ZH (ZA (ZB 0) (ZA (dC (.int 4)) ZE))) (ZA (dF ZH (ZA (ZB 0) (ZA (dC (.int 4)) ZE))) ZE))))
 (ZR (Zo 6 (dF ZDy (ZA (dC (.str "")) (ZA (dC (.str "0.0")) (ZA (dC (.str "3.1")) (ZA (dC (.str "01")) (ZA (dC (.str "1.")) (ZA (dC (.str ".1")) (ZA (dC (.str "1..2")) (ZA (dC (.str "1234567890")) (ZA (dC (.str "123456789")) (ZA (dC (.str "--")) ZE))))))))))))
 (ZR (Zo 6 (dOp ZT (ZB 6) (dF ZDy (ZA (dC (.str "-.1")) (ZA (dC (.str "x")) (ZA (dC (.str "0.1.2")) (ZA (dC (.str "5")) (ZA (dC (.str "-1")) ZE))))))))
 (ZR (Zo 7 (dOp Za (ZB 6) (dF ZH (ZA (ZB 0) (ZA (dC (.int 15)) ZE)))))
 (ZR (Zo 8 (dF ZH (ZA (ZB 0) (ZA (dC (.int 8)) ZE))))
 (ZR (ZAM (dB (dOp ZIb (ZB 8) (dC (.int 3))))
 (ZGV (dOp Za (ZB 2) (ZB 3)) (ZB 4) (ZB 7))
 (ZAM (dB (dOp ZC1 (ZB 8) (dC (.int 3))))
 (ZC3 (ZJs (dOp Za (ZB 2) (ZB 3)) (ZB 4)))
 (ZAM (dB (dOp ZC1 (ZB 8) (dC (.int 4))))
 (ZC3 (ZME (dOp Za (ZB 2) (ZB 3)) (ZB 4) (ZB 7)))
 (ZAM (dB (dOp ZC1 (ZB 8) (dC (.int 5))))
 (ZR (ZLS 7 9 (ZA (dOp Za (dOp Za (ZB 2) (ZB 3)) (ZB 4)) (ZA (dOp Za (dOp Za (ZB 2) (ZB 3)) (ZB 5)) ZE)))
 (ZFl (dOp Za (ZB 2) (ZB 3)) (ZB 4) (dOp Za (ZB 2) (ZB 3)) (ZB 5) (dF ZHY (ZA (ZB 9) (ZA (ZB 7) ZE)))))
 (ZAM (dB (dOp ZC1 (ZB 8) (dC (.int 6))))
 (ZFl (dOp Za (ZB 2) (ZB 3)) (dOp ZT (dC (.int 1)) (dOp ZAu (ZB 4) (dC (.int 3)))) (dOp Za (ZB 2) (ZB 3)) (dOp ZT (dC (.int 1)) (dOp ZAu (ZB 5) (dC (.int 3)))) (dF ZHY (ZA (dC (.str "2.4")) (ZA (dC (.str "4.5")) ZE))))
 dNx)))))
 (ZR (Zo 10 (dMt ZBZ (dC (.str " ")) (ZA (ZB2 1 [] (.nm 0) (iRl (ZB 2)) Zs (dMt ZBZ (dC (.str "/")) (ZA (ZB 0) ZE))) ZE)))
 (ZR (ZAM (dB (dOp ZIb (ZB 8) (dC (.int 7))))
 (ZQ (ZB 10))
 dNx)
 (ZQ (dOp Za (dF ZDy (ZA (dOp ZT (ZB 10) (dC (.str " "))) (ZA (dOp ZT (dC (.str " ")) (ZB 10)) (ZA (dOp ZT (ZB 10) (dC (.str "\n"))) (ZA (dOp ZT (ZB 10) (dC (.str "/"))) (ZCi (dC (.str "")) (ZA (dC (.str " ")) (ZA (dC .none) (ZA (dC (.int 5)) (ZA (dF ZDy (ZA (ZB 10) ZE)) (ZA (ZF2 " " "  " (ZB 10)) ZE))))))))))) (dF ZH (ZA (ZB 0) (ZA (dC (.int 10)) ZE))))))))))))))
@[irreducible] noncomputable def Zf:List W->G->Option (W×G):=ZA9 11 ZBR
theorem ZEq(h:EvS (ZBR [some a0,some a1,none,none,none,none,none,none,none,none,none] g) (runP P)):EvP (Zf [a0,a1] g) P:=by
 unfold Zf;exact Zu h
@[reducible] noncomputable def ZBy:DS :=
 (ZR (Zo 1 (dF ZAC (ZA (ZB 0) ZE)))
 (ZR (ZH6 (.tp (.cons (.nm 2) (.cons (.nm 3) .nil))) (dF ZDz (ZA (dC .none) (ZA (dC .none) ZE))))
 (ZR (ZIn 4 "NoText" (ZEW 3 (ZBk Zw (ZA (ZB 0) ZE))) (Zo 2 (ZB 4)))
 (ZR (ZAM (dB (dOp ZHa (ZB 1) (dC .none)))
 (ZQ (ZB3 (dOp ZPa (ZB 2) (dC .none)) (dOp ZPg (dF (f1 ZJc) (ZA (ZB 3) ZE)) (dF (f1 ZJc) (ZA (ZB 1) ZE)))))
 dNx)
 (ZR (ZAM (dOr (ZDW (dB (dXJ "NoText" (ZB 2)))) (ZDW (dB (dXI "NoText" true (ZB 2)))))
 (ZQ (dC (.bool false)))
 dNx)
 (ZQ (ZFh (dXI "NoText" false (ZB 2)))))))))
@[irreducible] noncomputable def ZP:List W->G->Option (W×G):=ZA9 5 ZBy
theorem ZCg(h:EvS (ZBy [some a0,none,none,none,none] g) (runP P)):EvP (ZP [a0] g) P:=by
 unfold ZP;exact Zu h
@[reducible] noncomputable def ZLm:DS :=
 (ZR (ZGU (.nm 1) (ZBn (ZA (dOp ZT (dC (.int 1)) (dF ZSU (ZA (dC (.int 16)) (ZA (dF (f1 ZFQ) (ZA (ZB 0) ZE)) ZE)))) ZE))
 (ZR (Zo 2 (dF ZAE (ZA (ZB 0) (ZA (ZB 1) ZE))))
 (ZR (Zo 3 (dF (f1 ZCr) (ZA (Z4 1 [2] (.nm 0) (ZBn (ZA (dOp ZT (dC (.int 1)) (dF ZH (ZA (ZB 2) (ZA (dC (.int 4)) ZE)))) ZE)) Zs (dF Ze (ZA (ZB 1) ZE))) ZE)))
 (ZGU (.nm 4) (ZBn (ZA (dC (.int 6)) ZE))
 (ZAM (ZDW (dB (dF ZP (ZA (dF Zf (ZA (ZB 2) (ZA (ZB 3) ZE))) ZE))))
 (ZQ (dC (.bool false)))
 dNx)))))
 (ZQ (ZB3 (dF ZP (ZA (dC (.str "-/-/-/-")) ZE)) (ZB3 (dF ZP (ZA (dC (.str "-/1/-/1")) ZE)) (dF ZP (ZA (dC (.str "-/-/-")) ZE))))))
@[irreducible] noncomputable def ZER:List W->G->Option (W×G):=ZA9 5 ZLm
theorem ZRw(h:EvS (ZLm [some a0,none,none,none,none] g) (runP P)):EvP (ZER [a0] g) P:=by
 unfold ZER;exact Zu h
end
local macro_rules
 | `(tactic| symm) => `(tactic| repeat (first
  | with_reducible (first
   | refine ZPy ?_ | refine ZP6 ?_ | refine ZP2 ?_ | refine ZLE ?_ | refine u_if ?_ | refine u_up ?_ | refine w_up ?_ | refine ZRZ ?_ | refine w_if ?_ | refine w_f ?_ | refine w_op ?_ | refine ZRR ?_ | refine w_compI ?_ | refine onV.val ?_ | refine onX.val ?_ | refine onV.ex ?_ | refine onX.ex ?_ | refine SeqX2.nx ?_ | refine SeqX2.rt ?_ | refine SeqX2.ex ?_ | refine runE.rt ?_ | refine runE.ex ?_ | refine x_mt0 ?_ | refine x_try ?_ | refine TryE.nx ?_ | refine TryE.ex ?_
   | refine ZSB ?_ | refine x_nil ?_ | refine x_c ?_ | refine x_op ?_ | refine x_f ?_ | refine as_b ?_ | refine x_b ?_ | refine ZEj ?_ | refine ZNa ?_ | refine ZNS ?_ | refine x_ifS ?_ | refine x_and ?_ | refine x_or ?_ | refine x_not ?_
   | refine ZQS ?_ | refine as_i ?_ | refine x_asg ?_ | refine x_ret ?_ | refine ZQE ?_ | refine x_for ?_ | refine ZR1 ?_ | refine x_retN ?_
   | refine x_un ?_ | refine ZPz ?_ | refine x_orV ?_ | refine ZIg ?_ | refine x_if ?_ | refine ZOn ?_
   | refine x_sl ?_ | refine ZMN ?_ | refine ZP8 ?_ | refine ZQC ?_ | refine ZQm ?_ | refine x_ienum ?_ | refine ZRV ?_ | refine x_app ?_ | refine x_sto ?_ | refine x_augS ?_ | refine x_make ?_ | refine x_fld ?_ | refine x_fldS ?_ | refine x_meth ?_ | refine x_tupR ?_ | refine x_par ?_ | refine ZRs ?_ | refine x_pick ?_ | refine x_ext ?_ | refine x_ins ?_)
  | ((with_reducible refine x_var ?_ ?_); exact rfl)
  | refine ZQa ?_ | refine run_nx ?_ | refine Exists.intro _ (And.intro rfl ?_)
  | refine Exists.intro _ (Exists.intro _ (Exists.intro _ (And.intro rfl (And.intro (by assumption) (And.intro rfl ?_)))))
  | refine Exists.intro _ (Exists.intro _ (Exists.intro _ (And.intro rfl (And.intro (by assumption) (And.intro (of_decide_eq_true rfl) (And.intro rfl ?_))))))
  | refine Exists.intro _ (Exists.intro _ (And.intro rfl (And.intro (by assumption) ?_)))
  | refine And.intro (ZNL (by assumption)) ?_ | refine And.intro (ZNL ZGh) ?_ | refine ZAx ?_ | refine ZRH ?_))
theorem ZHZ{a b:Str}(ha:PyData.strOk a=true)(hb:PyData.strOk b=true):(ok0 (.str a) && ok0 (.str b))=true:=by
 unfold ok0;rw[show(PyData.str a).canLay0=true from ha,show(PyData.str b).canLay0=true from hb];rfl
theorem ZPe(n:Nat):PyData.strOk (nt n)=true:=ZAc _
theorem ZBG{a b:Str}:(PyData.str a).eqv (.str b)=decide (a=b):=by
 show(a == b)=_
 by_cases h:a=b
 ·subst h;rw[decide_eq_true rfl];exact beq_self_eq_true a
 ·rw[decide_eq_false h];exact beq_eq_false_iff_ne.mpr h
theorem ZLI{s:Str}{g:G}{P:W->G->Prop}(hl:s.length<=100000)(hk:PyData.strOk s=true)(q:P (.dat (.bool (ZDB s))) g):EvP (Zx [.dat (.str s)] g) P:=by
 refine ZGw ?_;symm;refine ZNJ hl ?_;symm;refine⟨λz1=>?_,λz1=>?_⟩
 ·have h1 : 1<=s.length:=by have:=of_decide_eq_true z1;omega
  symm;refine⟨λz2=>?_,λz2=>?_⟩
  ·have h2:s.length<=9:=by have:=of_decide_eq_true z2;omega
   symm;refine⟨by unfold ZKp;rw[length_map,Array.length_toList];show s.length<=1000;omega,?_⟩;refine Z7 (λc:Nat=>PyData.str ⟨#[c]⟩) (λc:Nat=>PyData.bool (ZBi c)) s.cps.toList rfl trivial (λc hc=>⟨_,rfl,?_⟩) ?_
   ·symm
    rw[ZMo];exact⟨rfl,rfl⟩
   symm;rw[show(List.map (λc:Nat=>PyData.bool (ZBi c)) s.cps.toList)=(s.cps.toList.map ZBi).map .bool by rw[map_map];rfl];refine ZMk ?_;rw[show(s.cps.toList.map ZBi).all id=s.cps.toList.all ZBi by rw[all_map];rfl];symm;unfold ZDB at q;rw[decide_eq_true ⟨h1,h2⟩,Bool.true_and] at q;cases hd:s.cps.toList.all ZBi with
   |false =>
    rw[hd] at q;refine bT ?_;symm;exact q
   |true =>
    rw[hd,Bool.true_and] at q;refine bF ?_;symm;refine ZIz (ZHZ hk (ZAc _)) ?_;rw[ZBG]
    by_cases h0:s=Str.ofString "0"
    ·rw[decide_eq_true h0] at q ⊢
     symm;refine bT ?_;symm;exact q
    ·rw[decide_eq_false h0] at q ⊢
     symm;refine bF ?_;symm;cases hc:s.cps.toList with
     |nil=>have:s.cps.toList.length=s.length:=Array.length_toList;rw[hc] at this;have this : 0=s.length:=this;omega
     |cons c r =>
      refine ZRb (c:=c) hl (by rw[hc];exact ZBp (j:=0) rfl) ?_;symm;have hck:PyData.strOk ⟨#[c]⟩=true:=by
       have hh:=List.all_eq_true.mp hd c (by rw[hc];exact mem_cons_self ..);unfold ZBi at hh;rw[Bool.and_eq_true,decide_eq_true_iff,decide_eq_true_iff] at hh;unfold PyData.strOk;simp;omega
      refine ZQN (ZHZ hck (ZAc _)) ?_;rw[ZBG];have e:decide ((⟨#[c]⟩:Str)=Str.ofString "0")=decide (s.cps.toList.head? = some 48):=by
       rw[hc]
       by_cases hz:c=48
       ·subst hz
        exact(decide_eq_true (show(⟨#[48]⟩:Str)=Str.ofString "0" from rfl)).trans (decide_eq_true rfl).symm
       ·rw[decide_eq_false (show ¬((c::r).head? = some 48) from λz=>hz (by cases z;rfl))]
        refine decide_eq_false λz=>hz ?_
        have z:(⟨#[c]⟩:Str)=⟨#[48]⟩:=z;injection z with z
        have z:=congrArg Array.toList z;cases z;rfl
      rw[e];symm;exact q
  ·have h2 : ¬(s.length<=9):=by have:=of_decide_eq_false z2;omega
   unfold ZDB at q;rw[decide_eq_false (λz=>h2 z.2),Bool.false_and,Bool.false_and] at q;symm;refine bT ?_;symm;exact q
 ·have h1 : ¬(1<=s.length):=by have:=of_decide_eq_false z1;omega
  unfold ZDB at q;rw[decide_eq_false (λz=>h1 z.1),Bool.false_and,Bool.false_and] at q;symm;refine bF ?_;refine bT ?_;symm;exact q
noncomputable def ZEJ(s:Str):Option PyData:=(ZDw s).map λn:Nat=>.int (n:Int)
theorem ZOc{s:Str}{g:G}{P:OutE->Prop}(hl:s.length<=100000)(hk:PyData.strOk s=true)(q:P (oE "NoText" (ZEJ s) g)):EvE (ZY [.dat (.str s)] g) P:=by
 refine ZD0 ?_;symm;refine ZLI hl hk ?_;unfold ZEJ at q;cases hn:ZDw s with
 |none =>
  rw[hn] at q;rw[ZKV hn];symm;refine bT ?_;symm;exact⟨rfl,.ex (.ex q)⟩
 |some n =>
  rw[hn] at q;obtain⟨rfl,h9⟩:=ZCM hn;rw[ZIc h9];symm;refine bF ?_;symm;have hl:=ZGO h9;refine ZNA (by omega) (ZEH h9) ?_;symm;exact q
theorem ZBw(n:Nat)(lo:Int):(ZFM n lo).length=n:=by unfold ZFM;rw[length_map,length_range]
theorem ZAB{b:Nat}{m:Int}{g:G}{P:W->G->Prop}(hb:Bx g b)(h0 : 0<m)(h1:m<2 ^ 62)(q:∀d g',0<=d->d<m->Dr b g g'->P (.dat (.int d)) g'):EvP (ZH [.ref b,.dat (.int m)] g) P:=by
 have hl:=hb.lt;obtain⟨x,n,c,e⟩:=hb;have hl2:∀{y:Cell},b<(g.set b y).length:=λ{y}=>by rw[length_set];exact hl
 refine ZG3 ?_;symm;refine ZB9 e rfl ?_;symm;refine⟨_,e,?_⟩;symm;have go:∀rest:DS,EvS (ZR (ZGV (ZB 0) (dC (.int 1)) (dOp ZAu (dOp ZT (dOp ZT (dOp ZCX (dOp Za (ZB 0) (dC (.int 1))) (dC (.int 48271))) (dC (.int 12345))) (dOp Za (ZB 0) (dC (.int 2)))) (dC (.int 2147483647)))) (ZQ (dOp ZAu (dOp ZEY (dOp ZAu (dOp ZCX (dOp Za (ZB 0) (dC (.int 1))) (dOp ZT (dOp ZAu (dOp Za (ZB 0) (dC (.int 1))) (dC (.int 40009))) (dC (.int 3)))) (dC (.int 2147483629))) (dC (.int 7))) (ZB 1))) [some (.ref b),some (.dat (.int m)),none] (g.set b (.pl [.int x,.int n,.int (c+1)]))) (runP P):=λ_=>by
  symm;refine ZB9 (Z2 hl) rfl ?_;symm;refine ZEo (ZCq (by decide)) ?_;symm;refine ZB9 (Z2 hl) rfl ?_;symm;refine⟨_,Z2 hl,?_⟩;symm
  generalize (n*48271+12345+(c+1)) % 2147483647=z
  refine ZB9 (Z2 hl2) rfl ?_;symm;refine ZB9 (Z2 hl2) rfl ?_;symm;have w0:=Int.emod_nonneg z (show(40009:Int)≠0 by decide);have w1:=Int.emod_lt_of_pos z (show(0:Int)<40009 by decide);refine ZEo (ZCq (by omega)) ?_;symm;refine ZPb h0 ?_;symm;refine q _ _ (Int.emod_nonneg _ (by omega)) (Int.emod_lt_of_pos _ h0) ?_;rw[set_set];exact .set hl
 refine ZB9 (Z2 hl) rfl ?_;symm;refine⟨λh1=>?_,λh1=>⟨(λz=>by cases z),λ_=>ZR1 (ZEj (go dNx))⟩⟩;symm;refine ZB9 (Z2 hl) rfl ?_;symm;refine⟨λh2=>?_,λh2=>ZR1 (ZEj (go dNx))⟩;symm;refine ZB9 (Z2 hl) rfl ?_;symm;refine ZPb h0 ?_;symm;refine ZB9 (Z2 hl) rfl ?_;symm;refine y_div h0 (by omega) ?_;symm;refine⟨_,Z2 hl,?_⟩;symm;refine q _ _ (Int.emod_nonneg _ (by omega)) (Int.emod_lt_of_pos _ h0) ?_;rw[set_set];exact .set hl
theorem ZQq{ns:List Int}{k:Int}{g:G}{P:W->G->Prop}(hk : 0<=k/\k<=100)(q:∀g',g'.length=g.length+1->(∀n,n<g.length->g'[n]? = g[n]?)->Bx g' g.length->P (.ref g.length) g'):EvP (ZAE [.inp ns,.dat (.int k)] g) P:=by
 refine ZHv ?_;symm;refine⟨λhx=>?_,λhx=>?_⟩
 ·have hk2:k.toNat<ns.length:=by have:=of_decide_eq_true hx;omega
  symm;refine ZIv (y:=ns.getD k.toNat 0) (x:=.dat (.int (ns.getD k.toNat 0))) (g:=g) (by have:=ZBp (xs:=ns) (j:=k.toNat) (v:=ns.getD k.toNat 0) (by rw[List.getD_eq_getElem?_getD,getElem?_eq_getElem hk2];rfl);rwa [Int.toNat_of_nonneg hk.1] at this) rfl ?_
  generalize ns.getD k.toNat 0=c
  symm;refine ZEo (ZCq (ib1 _)) ?_;symm;refine ZEo (ZCq (by omega)) ?_;symm;refine ZEo (ZCq (by decide)) ?_;symm;exact q _ (by simp) (λn hn=>getElem?_append_left hn) ⟨_,_,_,ZGh⟩
 ·symm
  refine ZEo (ZCq (by omega)) ?_;symm;refine ZEo (ZCq (by decide)) ?_;symm;exact q _ (by simp) (λn hn=>getElem?_append_left hn) ⟨_,_,_,ZGh⟩
theorem ZG0{xs:List PyData}{d:Int}{g:G}{P:W->G->Prop}(h0 : 0<=d)(h1:d<xs.length)(q:∀x∈xs,P (.dat x) g):EvP (Za (.dat (.list xs)) (.dat (.int d)) g) P:=by
 have hn:d.toNat<xs.length:=by omega
 refine y_ixL (d:=xs[d.toNat]) ?_ (q _ (getElem_mem hn));have h:=ZBp (xs:=xs) (j:=d.toNat) (v:=xs[d.toNat]) (by simp[hn])
 rwa [Int.toNat_of_nonneg h0] at h
noncomputable def isI:PyData->Bool
 |.int _=>true
 |_=>false
theorem ZL0{d:PyData}{g:G}{P:W->G->Prop}(q:P (.dat (.bool (isI d))) g):EvP (ZAH [.dat d] g) P:=by
 refine ZHf ?_;symm;cases d with
 |int i=>exact⟨λ_=>ZIg (by symm;exact q),(λz=>by cases z)⟩
 |bool b=>exact⟨λ_=>ZIg (by symm;exact q),(λz=>by cases z)⟩
 |_=>exact⟨(λz=>by cases z),λ_=>(by symm;exact q)⟩
noncomputable def its:PyData->List PyData
 |.tuple ds=>ds
 |_=>[]
theorem ZMK{ds:List PyData}{c:PyData->Bool}{g:G}{P:W->G->Prop}(q:P (.dat (.bool (ds.all c))) g):EvP (f1 ZEe [.dat (.list (ds.map λx=>.bool (c x)))] g) P:=by
 rw[show ds.map (λx=>PyData.bool (c x))=(ds.map c).map .bool by rw[map_map];rfl];exact ZMk (by rw[all_map];exact q)
theorem ZHu:∀(ds:List PyData),ZB4 ds (ds.drop 1)=(ds.zip (ds.drop 1)).map λp=>PyData.tuple [p.1,p.2]
 |[]=>rfl
 |[a]=>rfl
 |a::b::r=>by
  have:=ZHu (b::r);show PyData.tuple [a,b]::ZB4 (b::r) r=_;rw[show ZB4 (b::r) r=_ from this];rfl
theorem cut1(ds:List PyData):ZDZ ds (some 1) none=ds.drop 1:=by
 have h1:HT.sIx ds.length 0 (some 1)=min 1 ds.length:=rfl;have h2:HT.sIx ds.length ds.length none=ds.length:=rfl;unfold ZDZ;rw[h1,h2];cases ds with
 |nil=>rfl
 |cons d ds =>
  rw[show min 1 (d::ds).length=1 by simp,List.take_of_length_le (by rw[length_drop];exact le_refl _)]
theorem ZRT{α : Type}{L:List α}{c : α->Bool}{g:G}{P:W->G->Prop}(q:P (.dat (.bool (L.all c))) g):EvP (f1 ZEe [.dat (.list (L.map λx=>.bool (c x)))] g) P:=by
 rw[show L.map (λx=>PyData.bool (c x))=(L.map c).map .bool by rw[map_map];rfl];exact ZMk (by rw[all_map];exact q)
noncomputable def isT:PyData->Bool
 |.tuple _=>true
 |_=>false
theorem ZMT{c:Nat}:∀{A:List (List Nat)} {a:List Nat},a∈A->(∀x∈a,x∈jn c A)/\a.length<=(jn c A).length
 |[],_,h=>by cases h
 |[b],a,h=>by rw[List.mem_singleton.mp h];exact⟨λx hx=>hx,le_refl _⟩
 |b::d::l,a,h=>by
  show(∀x∈a,x∈b++c::jn c (d::l))/\a.length<=(b++c::jn c (d::l)).length;rcases List.mem_cons.mp h with rfl|h
  ·exact⟨λx hx=>mem_append_left _ hx,by rw[length_append];omega⟩
  ·obtain⟨h1,h2⟩:=ZMT (c:=c) h
   exact⟨λx hx=>mem_append_right _ (mem_cons_of_mem _ (h1 x hx)),by rw[length_append,length_cons];omega⟩
theorem ZMy{c:Nat}:∀A:List (List Nat),A.length<=(jn c A).length+1
 |[]=>zero_le _
 |[a]=>by show 1<=_;omega
 |a::b::l=>by
  have:=ZMy (c:=c) (b::l);show _<=(a++c::jn c (b::l)).length+1;simp only[length_append,length_cons] at this ⊢
  omega
theorem ZF9(t:Str)(c:Nat):jn c ((Txt.split t ⟨#[c]⟩).map λs=>s.cps.toList)=t.cps.toList:=by
 rw[←ZCN,StrLaws.join_split]
theorem ZCu{t:Str}{c:Nat}(hk:PyData.strOk t=true){w:Str}(hw:w∈Txt.split t ⟨#[c]⟩):PyData.strOk w=true/\w.length<=t.length:=by
 obtain⟨h1,h2⟩:=ZMT (c:=c) (A:=(Txt.split t ⟨#[c]⟩).map λs=>s.cps.toList) (List.mem_map.mpr ⟨w,hw,rfl⟩);rw[ZF9] at h1 h2;refine⟨?_,by rw[Array.length_toList,Array.length_toList] at h2;exact h2⟩;unfold PyData.strOk at hk ⊢;rw[←Array.all_toList,all_eq_true] at hk ⊢;exact λx hx=>hk x (h1 x hx)
theorem ZAS(t:Str)(c:Nat):(Txt.split t ⟨#[c]⟩).length<=t.length+1:=by
 have:=ZMy (c:=c) ((Txt.split t ⟨#[c]⟩).map λs=>s.cps.toList);rw[ZF9,length_map,Array.length_toList] at this
 exact this
theorem ZLz(t:Str)(c:Nat):∃w r,Txt.split t ⟨#[c]⟩=w::r:=by
 have:=split_pos t ⟨#[c]⟩;cases h:Txt.split t ⟨#[c]⟩ with
 |nil=>rw[h] at this;exact absurd this (by decide)
 |cons w r=>exact⟨w,r,rfl⟩
noncomputable abbrev sp:Str:=Str.ofString " "
structure TOk (t:Str):Prop where
 l:t.length<=900
 k:PyData.strOk t=true
theorem TOk.word{t:Str}(h:TOk t){c:Nat}{w:Str}(hw:w∈Txt.split t ⟨#[c]⟩):TOk w:=by
 obtain⟨a,b⟩:=ZCu h.k hw;exact⟨le_trans b h.l,a⟩
noncomputable abbrev sl:Str:=Str.ofString "/"
noncomputable def nsO(c:Nat)(x:Str):Option PyData:=(Zb ZEJ (Txt.split x ⟨#[c]⟩)).map .tuple
theorem ZKg{c:Nat}{x:Str}{g:G}{P:OutE->Prop}(h:TOk x)(q:P (oE "NoText" (nsO c x) g)):EvE (ZV [.dat (.str x),.dat (.str ⟨#[c]⟩)] g) P:=by
 have hl:=h.l;have hc:=ZAS x c;refine ZDe ?_;symm;refine ZG5 ?_;symm;refine ZCP rfl (by omega) rfl ?_;symm;refine⟨by rw[length_map];omega,?_⟩;refine ZEX (nm:="NoText") PyData.str ZEJ (Txt.split x ⟨#[c]⟩) rfl trivial (λs hs=>⟨_,rfl,?_⟩) ?_
 ·symm
  have hs:=h.word (c:=c) hs;have:=hs.l;exact ZOc (by omega) hs.k rfl
 unfold nsO at q;cases ha:Zb ZEJ (Txt.split x ⟨#[c]⟩) with
 |none =>
  rw[ha] at q;exact .ex (.ex (.ex q))
 |some ds =>
  rw[ha] at q;show onV _ _ (.val (.dat (.list ds)) g);symm;exact q
theorem ZKI{s:Str}{d:PyData}(h:ZEJ s=some d):∃n,ZDw s=some n/\d=.int (n:Int):=by
 obtain⟨n,e,rfl⟩:=mp h;exact⟨n,e,rfl⟩
noncomputable def cnt:PyData->Bool
 |.int i=>decide (0<=i)
 |_=>false
theorem ZNm{d:PyData}{g:G}{P:W->G->Prop}(q:P (.dat (.bool (cnt d))) g):EvP (ZAF [.dat d] g) P:=by
 refine ZHt ?_;symm;refine ZL0 ?_;symm;cases d with
 |int i =>
  refine bT ?_;symm;exact q
 |_=>exact⟨(λz=>by cases z),λ_=>(by symm;exact q)⟩
noncomputable def upI:PyData->Int
 |.int i=>i
 |_=>0
noncomputable def ris(ds:List PyData):Bool:=(ds.zip (ds.drop 1)).all λp=>decide (upI p.1<upI p.2)
theorem ZI8{d:PyData}(h:cnt d=true):d=.int (upI d)/\0<=upI d:=by
 cases d with
 |int a=>exact⟨rfl,of_decide_eq_true h⟩
 |_=>cases h
theorem ZMs{ds:List PyData}{g:G}{P:W->G->Prop}(hl:ds.length<=1000)(hi:∀x∈ds,cnt x=true)(q:P (.dat (.bool (ris ds))) g):EvP (ZBu [.dat (.tuple ds)] g) P:=by
 refine ZLc ?_;symm;rw[cut1];refine⟨_,_,rfl,by rw[ZCD];omega,?_⟩;refine Z7 (λp:PyData×PyData=>PyData.tuple [p.1,p.2]) (λp=>.bool (decide (upI p.1<upI p.2))) _ (ZHu ds) trivial (λp hp=>⟨_,rfl,?_⟩) ?_
 ·obtain⟨h1,h2⟩:=of_mem_zip (show(p.1,p.2)∈_ from hp)
  have e1:=(ZI8 (hi _ h1)).1;have e2:=(ZI8 (hi _ (List.mem_of_mem_drop h2))).1;rw[e1,e2];symm;exact⟨rfl,rfl⟩
 symm;refine ZRT ?_;symm;exact q
noncomputable def arR(d:PyData):Bool:=isT d && ((its d).all cnt && ris (its d))
theorem ZII{d:PyData}{g:G}{P:W->G->Prop}(hl:(its d).length<=1000)(q:P (.dat (.bool (arR d))) g):EvP (Zm [.dat d] g) P:=by
 refine ZFS ?_;unfold arR at q;symm;cases d with
 |tuple ds =>
  have hl:ds.length<=1000:=hl;have q:P (.dat (.bool (ds.all cnt && ris ds))) g:=q;refine bT ?_;symm;refine⟨hl,?_⟩;refine Z7 id (λx=>.bool (cnt x)) ds (map_id _).symm trivial (λx hx=>⟨_,by rw[ZW],?_⟩) ?_
  ·symm
   refine ZNm ?_;exact⟨rfl,rfl⟩
  symm;refine ZMK ?_;symm;cases h:ds.all cnt with
  |false =>
   rw[h,Bool.false_and] at q;refine bF ?_;symm;exact q
  |true =>
   rw[h,Bool.true_and] at q;refine bT ?_;symm;refine ZMs hl (List.all_eq_true.mp h) ?_;symm;exact q
 |_=>exact⟨(λz=>by cases z),λ_=>(by symm;exact q)⟩
theorem ZCI{α β : Type}{f : α->Option β}:∀{l:List α} {ds:List β},Zb f l=some ds->ds.length=l.length
 |[],_,e=>by cases e;rfl
 |a::l,ds,e=>by
  rw[Zb] at e;obtain⟨b,e1,e⟩:=bnd e;obtain⟨bs,e2,e⟩:=mp e;cases e;rw[length_cons,length_cons,ZCI e2]
theorem ZCz{α β : Type}{f : α->Option β}:∀{l:List α} {ds:List β},Zb f l=some ds->∀d∈ds,∃a∈l,f a=some d
 |[],_,e,d,hd=>by cases e;cases hd
 |a::l,ds,e,d,hd=>by
  rw[Zb] at e;obtain⟨b,e1,e⟩:=bnd e;obtain⟨bs,e2,e⟩:=mp e;cases e;rcases List.mem_cons.mp hd with rfl|hd
  ·exact⟨a,mem_cons_self ..,e1⟩
  ·obtain⟨x,hx,ex⟩:=ZCz e2 d hd
   exact⟨x,mem_cons_of_mem _ hx,ex⟩
noncomputable abbrev dot:Str:=Str.ofString "."
theorem ZE4:∀{l:List Str} {ds:List PyData},Zb ZEJ l=some ds->∃ns:List Nat,l=ns.map nt/\ds=ns.map (λn:Nat=>PyData.int (n:Int))/\∀n∈ns,n<10 ^ 9
 |[],_,e=>by cases e;exact⟨[],rfl,rfl,λn hn=>by cases hn⟩
 |s::l,ds,e=>by
  rw[Zb] at e;obtain⟨b,e1,e⟩:=bnd e;obtain⟨bs,e2,e⟩:=mp e;cases e;obtain⟨n,k1,rfl⟩:=ZKI e1;obtain⟨ns,rfl,rfl,hn⟩:=ZE4 e2;obtain⟨rfl,h9⟩:=ZCM k1;refine⟨n::ns,rfl,rfl,λm hm=>?_⟩;rcases List.mem_cons.mp hm with rfl|hm
  ·exact h9
  ·exact hn m hm
noncomputable def ZAd(p:Str):Option PyData:=if p=Str.ofString "-" then some (.tuple []) else nsO 46 p
theorem ZED{p:Str}{d:PyData}(h:ZAd p=some d):∃ns:List Nat,d=.tuple (ns.map λn:Nat=>PyData.int (n:Int))/\ns.length<=p.length+1/\(∀n∈ns,n<10 ^ 9)/\((ns=[]/\p=Str.ofString "-")∨Txt.split p dot=ns.map nt):=by
 unfold ZAd at h
 split at h
 ·rename_i hp
  cases h;exact⟨[],rfl,zero_le _,(λn hn=>by cases hn),.inl ⟨rfl,hp⟩⟩
 ·obtain⟨ds,e,rfl⟩:=mp h
  obtain⟨ns,e1,rfl,hn⟩:=ZE4 e;refine⟨ns,rfl,?_,hn,.inr e1⟩;have:=ZAS p 46;rw[e1,length_map] at this
  exact this
noncomputable def apB(xs ys:List PyData):Bool:=xs.all λx=>!(ys.any λy=>y.eqv x)
noncomputable def ZP9(ds:List PyData):Prop:=∃ns:List Nat,ds=ns.map λn:Nat=>PyData.int (n:Int)
theorem ZE5:∀ns:List Nat,PyData.canLayAll0 (ns.map λn:Nat=>PyData.int (n:Int))=true
 |[]=>rfl
 |n::r=>by
  show((PyData.int (n:Int)).canLay0 && PyData.canLayAll0 (r.map λn:Nat=>PyData.int (n:Int)))=true;rw[ZE5 r];rfl
theorem ZFs{xs ys:List PyData}{g:G}{P:W->G->Prop}(hl:xs.length<=1000)(hx:ZP9 xs)(hy:ZP9 ys)(q:P (.dat (.bool (apB xs ys))) g):EvP (Zk [.dat (.tuple xs),.dat (.tuple ys)] g) P:=by
 obtain⟨ms,rfl⟩:=hy;obtain⟨ns,rfl⟩:=hx;refine ZGr ?_;symm;refine⟨hl,?_⟩;refine Z7 id (λx=>.bool (!((ms.map λn:Nat=>PyData.int (n:Int)).any λy=>y.eqv x))) _ (map_id _).symm trivial (λx hx=>⟨_,by rw[ZW],?_⟩) ?_
 ·obtain⟨n,_,rfl⟩:=List.mem_map.mp hx
  symm;refine ZSE (by rw[ZE5];rfl) ?_;exact⟨rfl,rfl⟩
 symm;refine ZMK ?_;symm;exact q
noncomputable def ZKv:List PyData->Bool
 |[a,b,c,d]=>((arR a && (arR b && (arR c && (arR d && true)))) && (apB (its b) (its c) && apB (its b++its c) (its d)))
 |_=>false
noncomputable def doO(w:Str):Option PyData:=if (Txt.split w sl).length=4 then (Zb ZAd (Txt.split w sl)).bind λds=>if ZKv ds=true then some (.tuple ds) else none else none
theorem ZNv{w:Str}{g:G}{P:OutE->Prop}(h:TOk w)(h4:w.length<=490)(q:P (oE "NoText" (doO w) g)):EvE (ZX [.dat (.str w)] g) P:=by
 have hc:(Txt.split w sl).length<=w.length+1:=ZAS w 47;have hm:∀s∈Txt.split w sl,TOk s/\s.length<=490:=λs hs=>by
  obtain⟨a,b⟩:=ZCu (c:=47) h.k hs;exact⟨⟨by omega,a⟩,by omega⟩
 unfold doO at q
 generalize hps:Txt.split w sl=ps at *
 refine ZD5 ?_;symm;refine ZG5 ?_;symm;refine ZCP (by decide) (by omega) hps ?_;symm;rw[length_map,ZAW]
 by_cases hp4:ps.length=4
 ·rw[if_pos hp4] at q
  rw[decide_eq_true (show((ps.length:Int)=4) by omega)];symm;refine bF ?_;symm;refine⟨by rw[length_map];omega,?_⟩;refine ZEX (nm:="NoText") PyData.str ZAd ps rfl trivial (λs hs=>⟨_,rfl,?_⟩) ?_
  ·obtain⟨hs,_⟩:=hm s hs
   symm;refine ZIz (ZHZ hs.k (ZAc _)) ?_;rw[ZBG];unfold ZAd
   by_cases hz:s=Str.ofString "-"
   ·rw[decide_eq_true hz,if_pos hz]
    symm;refine bT ?_;symm;rfl
   ·rw[decide_eq_false hz,if_neg hz]
    symm;refine bF ?_;symm;exact ZKg (c:=46) hs rfl
  cases ha:Zb ZAd ps with
  |none =>
   rw[ha] at q;exact .ex (.ex (.ex (.ex q)))
  |some ds =>
   rw[ha] at q;have hl:=ZCI ha;have hmem:=ZCz ha;show onV _ _ (.val (.dat (.list ds)) g);have hd4:ds.length=4:=by omega
   match ds,hd4,hmem with
   |[a,b,c,d],_,hmem =>
    have fact:∀z∈[a,b,c,d],∃es,z=.tuple es/\es.length<=491/\ZP9 es:=λz hz=>by
     obtain⟨s,hs,es⟩:=hmem z hz;obtain⟨ns,rfl,k1,_⟩:=ZED es;have:=(hm s hs).2;exact⟨_,rfl,by rw[length_map];omega,ns,rfl⟩
    obtain⟨ea,rfl,la,ia⟩:=fact a (by simp);obtain⟨eb,rfl,lb,ib⟩:=fact b (by simp);obtain⟨ec,rfl,lc,ic⟩:=fact c (by simp);obtain⟨ed,rfl,ld,id'⟩:=fact d (by simp);have q:P (oE "NoText" (if ((arR (.tuple ea) && (arR (.tuple eb) && (arR (.tuple ec) && (arR (.tuple ed) && true)))) && (apB eb ec && apB (eb++ec) ed))=true then some (.tuple [.tuple ea,.tuple eb,.tuple ec,.tuple ed]) else none) g):=q;symm;refine⟨by show 4<=1000;decide,?_⟩;refine Z7 id (λx=>.bool (arR x)) [.tuple ea,.tuple eb,.tuple ec,.tuple ed] rfl trivial (λx hx=>⟨_,by rw[ZW],?_⟩) ?_
    ·symm
     refine ZII ?_ ⟨rfl,rfl⟩;simp only[mem_cons,not_mem_nil,or_false] at hx;rcases hx with rfl|rfl|rfl|rfl
     ·show ea.length<=1000;omega
     ·show eb.length<=1000;omega
     ·show ec.length<=1000;omega
     ·show ed.length<=1000;omega
    symm;refine⟨λz=>?_,λz=>?_⟩
    ·have z:(!(arR (.tuple ea) && (arR (.tuple eb) && (arR (.tuple ec) && (arR (.tuple ed) && true)))))=true:=z
     rw[Bool.not_eq_true'] at z;rw[z,Bool.false_and] at q;symm;exact⟨rfl,.ex (.ex q)⟩
    ·have z:(!(arR (.tuple ea) && (arR (.tuple eb) && (arR (.tuple ec) && (arR (.tuple ed) && true)))))=false:=z
     rw[Bool.not_eq_false'] at z;rw[z,Bool.true_and] at q;symm;refine ZFs (by omega) ib ic ?_;symm;cases h1:apB eb ec with
     |false =>
      rw[h1,Bool.false_and] at q;refine bF ?_;refine bT ?_;symm;exact⟨rfl,.ex (.ex q)⟩
     |true =>
      rw [h1,Bool.true_and] at q;refine bT ?_;symm;refine ZQD (by omega) ?_;symm;refine ZFs (by rw [length_append]; omega) (by
       obtain⟨ns,rfl⟩:=ib;obtain⟨ms,rfl⟩:=ic;exact⟨ns++ms,by rw[map_append]⟩) id' ?_
      symm;cases h2:apB (eb++ec) ed with
      |false =>
       rw[h2] at q;refine bT ?_;symm;exact⟨rfl,.ex (.ex q)⟩
      |true =>
       rw[h2] at q;refine bF ?_;symm;exact q
 ·rw[if_neg hp4] at q
  rw[decide_eq_false (show ¬((ps.length:Int)=4) by omega)];symm;refine bT ?_;symm;exact⟨rfl,.ex (.ex q)⟩
noncomputable def ZFR(t:Str):Option PyData:=if t=Str.ofString "" then some (.tuple []) else (Zb doO (Txt.split t sp)).map .tuple
theorem ZKe{t:Str}{g:G}{P:OutE->Prop}(h:TOk t)(h4:t.length<=490)(q:P (oE "NoText" (ZFR t) g)):EvE (Zw [.dat (.str t)] g) P:=by
 have hc:(Txt.split t sp).length<=t.length+1:=ZAS t 32;have hm:∀s∈Txt.split t sp,TOk s/\s.length<=490:=λs hs=>by
  obtain⟨a,b⟩:=ZCu (c:=32) h.k hs;exact⟨⟨by omega,a⟩,by omega⟩
 unfold ZFR at q;refine ZDD ?_;symm;refine bF ?_;symm;refine ZIz (ZHZ h.k (ZAc _)) ?_;rw[ZBG]
 by_cases hz:t=Str.ofString ""
 ·rw[if_pos hz] at q
  rw[decide_eq_true hz];symm;refine bT ?_;symm;exact q
 ·rw[if_neg hz] at q
  rw[decide_eq_false hz];symm;refine bF ?_;symm;refine ZG5 ?_;symm;refine ZCP (by decide) (by omega) rfl ?_;symm;refine⟨by rw[length_map];show(Txt.split t sp).length<=1000;omega,?_⟩;refine ZEX (nm:="NoText") PyData.str doO (Txt.split t sp) rfl trivial (λs hs=>⟨_,rfl,?_⟩) ?_
  ·symm
   exact ZNv (hm s hs).1 (hm s hs).2 rfl
  cases ha:Zb doO (Txt.split t sp) with
  |none =>
   rw[ha] at q;exact .ex (.ex (.ex q))
  |some ds =>
   rw[ha] at q;show onV _ _ (.val (.dat (.list ds)) g);symm;exact q
noncomputable def lnI(s:Str):Int:=match ZDw s with|some n=>(n:Int)|none=>-1
theorem ZPQ{s:Str}(h:s.cps.toList.all ZBi=true):PySem.NumText.AllDigits s.cps.toList:=λc hc=>by
 have:=List.all_eq_true.mp h c hc;unfold ZBi at this
 rw[Bool.and_eq_true,decide_eq_true_iff,decide_eq_true_iff] at this
 exact this
theorem ZJ2:∀(l:List Nat) (a:Nat),PySem.NumText.AllDigits l->l.foldl (λacc c=>acc*10+(c-48)) a<(a+1)*10 ^ l.length
 |[],a,_=>by simp
 |c::l,a,h=>by
  have h1:=h.head;have:=ZJ2 l (a*10+(c-48)) h.tail;rw[foldl_cons,length_cons,pow_succ];refine lt_of_lt_of_le this ?_
  have:a*10+(c-48)+1<=(a+1)*10:=by omega
  calc (a*10+(c-48)+1)*10 ^ l.length<=((a+1)*10)*10 ^ l.length:=mul_le_mul_right _ this
   _=(a+1)*(10 ^ l.length*10):=by rw[Nat.mul_assoc,Nat.mul_comm 10]
theorem ZN9{l:List Nat}(h:PySem.NumText.AllDigits l)(hl:l.length<=9):PySem.NumText.digitsVal l<10 ^ 9:=by
 have:=ZJ2 l 0 h;unfold PySem.NumText.digitsVal;refine lt_of_lt_of_le this ?_
 rw[zero_add,Nat.one_mul];exact Nat.pow_le_pow_right (by decide) hl
theorem str0{s:Str}(h:s.length=0):s=Str.ofString "":=by
 cases s with
 |mk c =>
  have:c = #[]:=Array.eq_empty_of_size_eq_zero h;subst this
  rfl
theorem ZQI{bs:List Bool}{g:G}{P:W->G->Prop}(q:P (.dat (.bool (bs.any id))) g):EvP (ZFv (.dat (.list (bs.map .bool))) g) P:=by
 have e:ZAb (bs.map .bool)=some bs:=by
  clear q
  induction bs with
  |nil=>rfl
  |cons b bs ih=>rw[map_cons,ZAb,ih];rfl
 refine ZL6 ?_ q;show ZOv (.dat (.list (bs.map .bool))) g=_;unfold ZOv;show(ZAb (bs.map .bool)).map _=_;rw[e];rfl
theorem ZM0{α : Type}{L:List α}{c : α->Bool}{g:G}{P:W->G->Prop}(q:P (.dat (.bool (L.any c))) g):EvP (f1 ZFv [.dat (.list (L.map λx=>.bool (c x)))] g) P:=by
 rw[show L.map (λx=>PyData.bool (c x))=(L.map c).map .bool by rw[map_map];rfl];exact ZQI (by rw[any_map];exact q)
theorem ZOF{s:Str}{g:G}{P:W->G->Prop}(h:TOk s)(q:P (.dat (.int (lnI s))) g):EvP (Zh [.dat (.str s)] g) P:=by
 have hl:=h.l;refine ZE0 ?_;symm;refine ZIz (ZHZ h.k (ZAc _)) ?_;rw[ZBG];have bad:ZDB s=false->P (.dat (.int (-1))) g:=λe=>by
  unfold lnI at q;cases hn:ZDw s with
  |none=>rw[hn] at q;exact q
  |some n =>
   obtain⟨rfl,h9⟩:=ZCM hn;rw[ZIc h9] at e;cases e
 by_cases h0:s=Str.ofString ""
 ·rw[decide_eq_true h0]
  symm;refine bT ?_;refine bT ?_;symm;exact bad (by subst h0;decide +kernel)
 ·rw[decide_eq_false h0]
  symm;refine bF ?_;symm;refine ZNJ (by omega) ?_;symm;refine⟨λz=>?_,λz=>?_⟩
  ·have hz : 9<s.length:=by have:=of_decide_eq_true z;omega
   refine bT ?_;symm;exact bad (by unfold ZDB;rw[decide_eq_false (λq=>by omega)];rfl)
  ·have hz:s.length<=9:=by have:=of_decide_eq_false z;omega
   have h1 : 1<=s.length:=by
    rcases Nat.eq_zero_or_pos s.length with e|e
    ·exact absurd (str0 e) h0
    ·exact e
   symm;refine⟨by unfold ZKp;rw[length_map,Array.length_toList];show s.length<=1000;omega,?_⟩;refine Z7 (λc:Nat=>PyData.str ⟨#[c]⟩) (λc:Nat=>PyData.bool (!ZBi c)) s.cps.toList rfl trivial (λc hc=>⟨_,rfl,?_⟩) ?_
   ·symm
    rw[ZMo];exact⟨rfl,rfl⟩
   symm;refine ZM0 (L:=s.cps.toList) (c:=λc=>!ZBi c) ?_;symm;have ha:s.cps.toList.any (λc=>!ZBi c) = !s.cps.toList.all ZBi:=by rw[List.any_eq_not_all_not];simp
   rw[ha];cases hd:s.cps.toList.all ZBi with
   |false =>
    refine bT ?_;symm;exact bad (by unfold ZDB;rw[hd,Bool.and_false];rfl)
   |true =>
    refine bF ?_;have hD:=ZPQ hd;have hll:s.cps.toList.length=s.length:=Array.length_toList;have hne:s.cps.toList≠[]:=λe=>by rw[e] at hll;have hll : 0=s.length:=hll;omega
    have hi:=PySem.intText_digits hD hne (by omega);have hv:=ZN9 hD (by omega)
    generalize PySem.NumText.digitsVal s.cps.toList=n at hi hv
    symm;refine ZNA (by omega) hi ?_;symm;refine ZM1 (by omega) ?_;symm;refine ZIz (ZHZ (ZPe n) h.k) ?_;rw[ZBG];unfold lnI at q
    by_cases e:nt n=s
    ·rw[decide_eq_true e]
     symm;refine bT ?_;symm;rw[←e,ZGK hv] at q;exact q
    ·rw[decide_eq_false e]
     symm;refine bF ?_;symm;cases hn:ZDw s with
     |none=>rw[hn] at q;exact q
     |some m =>
      obtain⟨e2,h9⟩:=ZCM hn;rw[e2,ZEH h9] at hi;injection hi with hi
      have:m=n:=by omega
      subst this
      exact absurd e2.symm e
noncomputable def upN:List Nat->Bool
 |a::b::r=>decide (a<b) && upN (b::r)
 |_=>true
theorem ZH9:∀{l:List Nat},upN l=true ↔ l.Pairwise (· < ·)
 |[]=>by simp[upN]
 |[a]=>by simp[upN]
 |a::b::r=>by
  rw[upN,Bool.and_eq_true,decide_eq_true_iff,ZH9];constructor
  ·rintro ⟨h1,h2⟩
   refine List.pairwise_cons.mpr ⟨λx hx=>?_,h2⟩;rcases List.mem_cons.mp hx with rfl|hx
   ·exact h1
   ·exact lt_trans h1 ((List.pairwise_cons.mp h2).1 x hx)
  ·intro h
   exact⟨(List.pairwise_cons.mp h).1 b (mem_cons_self ..),(List.pairwise_cons.mp h).2⟩
theorem ZMh(ns:List Int):(ddI ns).Nodup:=by
 unfold ddI;have:∀(l acc:List Int),acc.Nodup->(l.foldl PyProof.Rows.step_dedup acc).Nodup:=by
  intro l
  induction l with
  |nil=>intro acc h;exact h
  |cons a l ih =>
   intro acc h;refine ih _ ?_;unfold PyProof.Rows.step_dedup
   split
   ·exact h
   ·rename_i hn
    refine List.nodup_append.mpr ⟨h,by simp,λx hx y hy=>?_⟩;rw[mem_singleton] at hy;subst hy;intro z;subst z;exact hn (List.any_eq_true.mpr ⟨x,hx,beq_self_eq_true x⟩)
 exact this ns [] nodup_nil
theorem ZPn:∀(l acc:List Int),(acc++l).Nodup->l.foldl PyProof.Rows.step_dedup acc=acc++l
 |[],acc,_=>by rw[append_nil];rfl
 |a::l,acc,h=>by
  have hn:a∉acc:=λz=>(List.nodup_append.mp h).2.2 a z a (mem_cons_self ..) rfl
  have e:PyProof.Rows.step_dedup acc a=acc++[a]:=by
   unfold PyProof.Rows.step_dedup;rw[if_neg];intro z;obtain⟨x,hx,e⟩:=List.any_eq_true.mp z;exact hn (eq_of_beq e ▸ hx)
  rw[foldl_cons,e,ZPn l (acc++[a]) (by rw[append_assoc];exact h),append_assoc];rfl
theorem ZIZ(ns:List Int):∃ms,ms.Perm ns/\ms.Pairwise (· <= ·)/\ZAf ns=ms:=by
 refine⟨ZAf ns,mergeSort_perm _ _,?_,rfl⟩;refine List.Pairwise.imp (λ{a b} h=>of_decide_eq_true h) (List.pairwise_mergeSort (le:=λa b:Int=>decide (a<=b)) (λa b c h1 h2=>?_) (λa b=>?_) ns)
 ·exact decide_eq_true (Int.le_trans (of_decide_eq_true h1) (of_decide_eq_true h2))
 ·rw[Bool.or_eq_true,decide_eq_true_iff,decide_eq_true_iff]
  exact le_total a b
theorem ZLF(ns:List Nat):(ZAf (ddI (ns.map λn:Nat=>(n:Int)))=ns.map λn:Nat=>(n:Int)) ↔ upN ns=true:=by
 rw[ZH9];constructor
 ·intro e
  obtain⟨ms,h1,h2,h3⟩:=ZIZ (ddI (ns.map λn:Nat=>(n:Int)));rw[e] at h3;have hnd:(ns.map λn:Nat=>(n:Int)).Nodup:=by rw[h3];exact h1.nodup_iff.mpr (ZMh _)
  have hpw:(ns.map λn:Nat=>(n:Int)).Pairwise (· <= ·):=by rw[h3];exact h2
  have hnd:=List.pairwise_map.mp hnd;have hpw:=List.pairwise_map.mp hpw;exact(hpw.and hnd).imp λ{a b} ⟨h1,h2⟩=>by
   have:(a:Int)≠(b:Int):=h2;omega
 ·intro h
  have hnd:(ns.map λn:Nat=>(n:Int)).Nodup:=List.pairwise_map.mpr (h.imp λ{a b} h=>by intro z;omega);have e:ddI (ns.map λn:Nat=>(n:Int))=ns.map λn:Nat=>(n:Int):=ZPn _ [] hnd
  rw[e];exact(ZET (List.Perm.refl _) (List.pairwise_map.mpr (h.imp λ{a b} h=>by omega))).symm
theorem ZHG:∀a b:List Int,PyData.eqvAll (a.map .int) (b.map .int)=decide (a=b)
 |[],[]=>rfl
 |[],_::_=>rfl
 |_::_,[]=>rfl
 |x::a,y::b=>by
  rw[map_cons,map_cons,PyData.eqvAll,ZAW,ZHG a b,←Bool.decide_and];exact decide_eq_decide.mpr (by rw[List.cons.injEq])
theorem ZJC{α β : Type}{f : α->Option β}:∀{l:List α},Zb f l=none->∃a∈l,f a=none
 |[],e=>by cases e
 |a::l,e=>by
  cases h:f a with
  |none=>exact⟨a,mem_cons_self ..,h⟩
  |some b =>
   rw[Zb,h] at e;cases h2:Zb f l with
   |none =>
    obtain⟨x,hx,hn⟩:=ZJC h2;exact⟨x,mem_cons_of_mem _ hx,hn⟩
   |some bs=>rw[h2] at e;cases e
theorem ZMO:∀ns:List Nat,ris (ns.map λn:Nat=>PyData.int (n:Int))=upN ns
 |[]=>rfl
 |[a]=>rfl
 |a::b::r=>by
  have:=ZMO (b::r);unfold ris at this ⊢
  rw[upN,←this];show(decide ((a:Int)<(b:Int)) && _)=_;rw[show decide ((a:Int)<(b:Int))=decide (a<b) by simp];rfl
theorem ZFr(ns:List Nat):arR (.tuple (ns.map λn:Nat=>PyData.int (n:Int)))=upN ns:=by
 unfold arR;rw[show its (.tuple (ns.map λn:Nat=>PyData.int (n:Int)))=ns.map λn:Nat=>PyData.int (n:Int) from rfl,ZMO];have:(ns.map λn:Nat=>PyData.int (n:Int)).all cnt=true:=List.all_eq_true.mpr λx hx=>by
  obtain⟨n,_,rfl⟩:=List.mem_map.mp hx;exact decide_eq_true (Int.natCast_nonneg n)
 rw[this];rfl
noncomputable def lpO(p:Str):Option PyData:=(ZAd p).bind λd=>if arR d=true then some d else none
noncomputable def ndO(o:Option PyData):PyData:=o.getD .none
theorem ZR0:∀ks:List Int,PyData.depthAll (ks.map .int)<=1
 |[]=>zero_le _
 |k::r=>by
  rw[map_cons,PyData.depthAll,PyData.depth];have:=ZR0 r;omega
theorem ZG6(ms:List Int):ok0 (.list (ms.map .int))=true:=by
 unfold ok0;have h1:PyData.canLayAll0 (ms.map .int)=true:=ZGF ms;rw[show(PyData.list (ms.map .int)).canLay0=true from h1,decide_eq_true (show(PyData.list (ms.map .int)).depth<=40 by rw[PyData.depth];have:=ZR0 ms;omega)];rfl
theorem ZLQ{p:Str}{g:G}{P:W->G->Prop}(h:TOk p)(h17:(Txt.split p dot).length<=17)(q:P (.dat (ndO (lpO p))) g):EvP (Zl [.dat (.str p)] g) P:=by
 have hl:=h.l;refine ZGb ?_;symm;refine ZIz (ZHZ h.k (ZAc _)) ?_;rw[ZBG];unfold lpO ZAd at q
 by_cases hp:p=Str.ofString "-"
 ·rw[if_pos hp] at q
  rw[decide_eq_true hp];symm;refine bT ?_;symm;exact q
 rw[if_neg hp] at q;rw[decide_eq_false hp];symm;refine bF ?_;symm;refine ZG5 ?_;symm;refine ZCP (by decide) (by omega) rfl ?_;symm;refine⟨by rw[length_map];show(Txt.split p dot).length<=1000;omega,?_⟩;refine Z7 PyData.str (λs=>PyData.int (lnI s)) (Txt.split p dot) rfl trivial (λs hs=>⟨_,rfl,?_⟩) ?_
 ·symm
  exact ZOF (h.word (c:=46) hs) ⟨rfl,rfl⟩
 symm;have em:(Txt.split p dot).map (λs=>PyData.int (lnI s))=((Txt.split p dot).map lnI).map .int:=by rw[map_map];rfl
 rw[em];refine ZPk (by rw[ZGF];rfl) ?_;symm;have en:((((Txt.split p dot).map lnI).map PyData.int).any λy=>y.eqv (.int (-1)))=(Txt.split p dot).any λs=>decide (lnI s = -1):=by
  rw[any_map,any_map]
  congr 1
 rw[en];unfold nsO at q;cases ha:Zb ZEJ (Txt.split p dot) with
 |none =>
  rw[show Zb ZEJ (Txt.split p ⟨#[46]⟩)=none from ha] at q;obtain⟨w,hw,hn⟩:=ZJC ha;have hln:lnI w = -1:=by
   unfold lnI;cases hx:ZDw w with
   |none=>rfl
   |some m=>unfold ZEJ at hn;rw[hx] at hn;cases hn
  rw[List.any_eq_true.mpr ⟨w,hw,decide_eq_true hln⟩];refine bT ?_;refine bT ?_;symm;exact q
 |some ds =>
  rw[show Zb ZEJ (Txt.split p ⟨#[46]⟩)=some ds from ha] at q;obtain⟨ns,e1,rfl,h9⟩:=ZE4 ha;have hln:(Txt.split p dot).map lnI=ns.map λn:Nat=>(n:Int):=by
   rw[e1,map_map];refine map_congr_left λn hn=>?_
   show lnI (nt n)=_;unfold lnI;rw[ZGK (h9 n hn)]
  have hno:((Txt.split p dot).any λs=>decide (lnI s = -1))=false:=by
   refine List.any_eq_false.mpr λs hs=>?_
   have hm:lnI s∈(Txt.split p dot).map lnI:=List.mem_map_of_mem hs;rw[hln] at hm;obtain⟨n,_,e⟩:=List.mem_map.mp hm;have e:(n:Int)=lnI s:=e;rw[decide_eq_true_iff];omega
  rw[hno,hln];have hlen:ns.length<=17:=by rw[e1,length_map] at h17;exact h17
  refine bF ?_;symm;refine x_ss ?_;symm;refine⟨by rw[length_map];exact hlen,?_⟩;symm;refine ZQN (by rw[ZG6,ZG6];rfl) ?_;rw[show(PyData.list ((ns.map λn:Nat=>(n:Int)).map .int)).eqv (.list ((ZAf (ddI (ns.map λn:Nat=>(n:Int)))).map .int))=decide ((ns.map λn:Nat=>(n:Int))=ZAf (ddI (ns.map λn:Nat=>(n:Int)))) from ZHG _ _];have q:P (.dat (ndO (if arR (.tuple (ns.map λn:Nat=>PyData.int (n:Int)))=true then some (.tuple (ns.map λn:Nat=>PyData.int (n:Int))) else none))) g:=q;rw[ZFr] at q
  by_cases hu:upN ns=true
  ·rw[if_pos hu] at q
   rw[decide_eq_true ((ZLF ns).mpr hu).symm];symm;refine bF ?_;symm;rw[map_map];exact q
  ·rw[if_neg hu] at q
   rw[decide_eq_false λz=>hu ((ZLF ns).mp z.symm)];symm;refine bT ?_;symm;exact q
theorem ZLH{p:Str}{d:PyData}(h:lpO p=some d):ZAd p=some d/\∃ns:List Nat,d=.tuple (ns.map λn:Nat=>PyData.int (n:Int))/\upN ns=true/\ns.length<=p.length+1:=by
 obtain⟨d',e1,e⟩:=bnd h;obtain⟨ns,rfl,hl,_,_⟩:=ZED e1
 split at e
 ·rename_i ha
  cases e;rw[ZFr] at ha;exact⟨e1,ns,rfl,ha,hl⟩
 ·cases e
theorem lp_no{p:Str}(h:lpO p=none):ZAd p=none∨∃d,ZAd p=some d/\arR d=false:=by
 unfold lpO at h;cases e:ZAd p with
 |none=>exact .inl rfl
 |some d =>
  rw[e] at h;refine .inr ⟨d,rfl,?_⟩;have h:(if arR d=true then some d else none)=none:=h
  split at h
  ·cases h
  ·rename_i ha
   exact Bool.eq_false_iff.mpr ha
theorem ZNK(p:Str):(ndO (lpO p)).canLay0=true:=by
 cases e:lpO p with
 |none=>rfl
 |some d =>
  obtain⟨_,ns,rfl,_⟩:=ZLH e;exact ZE5 ns
theorem ZFm:∀ps:List Str,PyData.canLayAll0 (ps.map λp=>ndO (lpO p))=true
 |[]=>rfl
 |p::ps=>by
  show((ndO (lpO p)).canLay0 && PyData.canLayAll0 (ps.map λp=>ndO (lpO p)))=true;rw[ZNK,ZFm ps];rfl
theorem ZR3(p:Str):(ndO (lpO p)).eqv .none=(lpO p).isNone:=by
 cases e:lpO p with
 |none=>rfl
 |some d =>
  obtain⟨_,ns,rfl,_⟩:=ZLH e;rfl
theorem ZJE(ns ms:List Nat):apB (ns.map λn:Nat=>PyData.int (n:Int)) (ms.map λn:Nat=>PyData.int (n:Int))=true ↔ ∀a∈ns,∀b∈ms,a≠b:=by
 unfold apB;rw[all_eq_true];constructor
 ·intro h a ha b hb z
  have:=h _ (List.mem_map_of_mem (f:=λn:Nat=>PyData.int (n:Int)) ha);rw[Bool.not_eq_true',List.any_eq_false] at this
  refine this _ (List.mem_map_of_mem (f:=λn:Nat=>PyData.int (n:Int)) hb) ?_
  rw[ZAW,decide_eq_true_iff,z]
 ·intro h x hx
  obtain⟨a,ha,rfl⟩:=List.mem_map.mp hx;rw[Bool.not_eq_true',List.any_eq_false];intro y hy;obtain⟨b,hb,rfl⟩:=List.mem_map.mp hy;rw[ZAW,decide_eq_true_iff];intro z;exact h a ha b hb (by omega)
theorem ZE6{ns:List Nat}(h:upN ns=true):ns.Nodup:=(ZH9.mp h).imp λ{a b} h=>by omega
theorem ZKn{nb nc nd:List Nat}(hb:upN nb=true)(hc:upN nc=true)(hd:upN nd=true) :
  (((nb++nc++nd).map λn:Nat=>(n:Int)).any λh=>decide (1<(((((nb++nc++nd).map λn:Nat=>(n:Int)).count h:Nat)):Int))) = !(apB (nb.map λn:Nat=>PyData.int (n:Int)) (nc.map λn:Nat=>PyData.int (n:Int)) && apB ((nb.map λn:Nat=>PyData.int (n:Int))++nc.map λn:Nat=>PyData.int (n:Int)) (nd.map λn:Nat=>PyData.int (n:Int))):=by
 have inj:((nb++nc++nd).map λn:Nat=>(n:Int)).Nodup ↔ (nb++nc++nd).Nodup:=by
  constructor
  ·intro h;exact(List.pairwise_map.mp h).imp λ{a b} h z=>h (by rw[z])
  ·intro h;exact List.pairwise_map.mpr (h.imp λ{a b} h z=>h (by omega))
 have key:(nb++nc++nd).Nodup ↔ (apB (nb.map λn:Nat=>PyData.int (n:Int)) (nc.map λn:Nat=>PyData.int (n:Int)) && apB ((nb.map λn:Nat=>PyData.int (n:Int))++nc.map λn:Nat=>PyData.int (n:Int)) (nd.map λn:Nat=>PyData.int (n:Int)))=true:=by
  rw[←map_append,Bool.and_eq_true,ZJE,ZJE,nodup_append,nodup_append];constructor
  ·rintro ⟨⟨_,_,h1⟩,_,h2⟩;exact⟨h1,h2⟩
  ·rintro ⟨h1,h2⟩;exact⟨⟨ZE6 hb,ZE6 hc,h1⟩,ZE6 hd,h2⟩
 cases hk:(apB (nb.map λn:Nat=>PyData.int (n:Int)) (nc.map λn:Nat=>PyData.int (n:Int)) && apB ((nb.map λn:Nat=>PyData.int (n:Int))++nc.map λn:Nat=>PyData.int (n:Int)) (nd.map λn:Nat=>PyData.int (n:Int))) with
 |true =>
  have hn:=inj.mpr (key.mpr hk);show _=false;refine List.any_eq_false.mpr λx hx=>?_
  have:=List.nodup_iff_count.mp hn x;rw[decide_eq_true_iff];omega
 |false =>
  show _=true;have hn : ¬((nb++nc++nd).map λn:Nat=>(n:Int)).Nodup:=λz=>by
   have:=key.mp (inj.mp z);rw[hk] at this
   cases this
  rw[List.nodup_iff_count] at hn;obtain⟨x,hx⟩:=Classical.not_forall.mp hn;refine List.any_eq_true.mpr ⟨x,?_,decide_eq_true (by omega)⟩;exact List.count_pos_iff.mp (by omega)
theorem ZF6{α β : Type}{f : α->Option β}:∀{l:List α} {ds:List β} {a : α} {b : β},Zb f l=some ds->f a=some b->Zb f (l++[a])=some (ds++[b])
 |[],_,a,b,e,h=>by cases e;rw[nil_append,Zb,h];rfl
 |x::l,ds,a,b,e,h=>by
  rw[Zb] at e;obtain⟨y,e1,e⟩:=bnd e;obtain⟨ys,e2,e⟩:=mp e;cases e;rw[List.cons_append,Zb,e1];show(Zb f (l++[a])).map _=_;rw[ZF6 e2 h];rfl
theorem ZEx{α β : Type}{f : α->Option β}:∀{l:List α} {a : α},a∈l->f a=none->Zb f l=none
 |x::l,a,hm,h=>by
  rw[Zb];rcases List.mem_cons.mp hm with rfl|hm
  ·rw[h];rfl
  ·rw[ZEx hm h]
   cases f x <;> rfl
noncomputable def wsO(t:Str):List Str:=if t=Str.ofString "" then [] else Txt.split t sp
theorem ZLt(t:Str):ZFR t=(Zb doO (wsO t)).map .tuple:=by
 unfold ZFR wsO
 split
 ·rfl
 ·rfl
theorem ZI1{α β : Type}{f : α->Option β}:∀{l:List α} {ds:List β} {a : α} {b : β},Zb f l=some ds->a∈l->f a=some b->b∈ds
 |x::l,ds,a,b,e,hm,h=>by
  rw[Zb] at e;obtain⟨y,e1,e⟩:=bnd e;obtain⟨ys,e2,e⟩:=mp e;cases e;rcases List.mem_cons.mp hm with rfl|hm
  ·rw[h] at e1;cases e1;exact mem_cons_self ..
  ·exact mem_cons_of_mem _ (ZI1 e2 hm h)
theorem ZNh{dd:List PyData}{d:PyData}(h:ZKv dd=true)(hm:d∈dd):arR d=true:=by
 unfold ZKv at h
 split at h
 ·simp only[Bool.and_eq_true] at h
  obtain⟨⟨h1,h2,h3,h4,_⟩,_⟩:=h;simp only[mem_cons,not_mem_nil,or_false] at hm;rcases hm with rfl|rfl|rfl|rfl <;> assumption
 ·cases h
theorem four4{α : Type}{l:List α}(h:l.length=4):∃a b c d,l=[a,b,c,d]:=by
 match l,h with
 |[a,b,c,d],_=>exact⟨a,b,c,d,rfl⟩
noncomputable def ZLW(t:Str):Prop:=∀w∈Txt.split t sp,∀p∈Txt.split w sl,(Txt.split p dot).length<=17
theorem ZRM{t:Str}{g:G}{P:W->G->Prop}(h:TOk t)(hf:ZLW t)(q:∀c,P (.dat (ndO (ZFR t))) (g++[c])):EvP (ZAC [.dat (.str t)] g) P:=by
 have hl:=h.l;have hc:(Txt.split t sp).length<=t.length+1:=ZAS t 32;have hwl:(wsO t).length<=901:=by
  unfold wsO
  split
  ·exact zero_le _
  ·omega
 have hww:∀w∈wsO t,w∈Txt.split t sp:=λw hw=>by
  unfold wsO at hw
  split at hw
  ·cases hw
  ·exact hw
 refine ZDi ?_;symm;refine bF ?_;symm;have hgo:EvS (ZBc none ((wsO t).map PyData.str) (.nm 2) (ZR (Zo 3 (Z4 1 [] (.nm 0) (ZBX (dMt ZA8 (ZB 2) (ZA (dC (.str "/")) ZE))) Zs (dF Zl (ZA (ZB 0) ZE)))) (ZR (ZAM (dOr (dB (dOp ZHO (dF (f1 ZFQ) (ZA (ZB 3) ZE)) (dC (.int 4)))) (dB (dOp ZIW (dC .none) (ZB 3)))) (ZQ (dC .none)) dNx) (ZR (Zo 4 (dOp ZT (dOp ZT (dF (f1 ZIA) (ZA (dOp Za (ZB 3) (dC (.int 1))) ZE)) (dF (f1 ZIA) (ZA (dOp Za (ZB 3) (dC (.int 2))) ZE))) (dF (f1 ZIA) (ZA (dOp Za (ZB 3) (dC (.int 3))) ZE)))) (ZR (ZAM (dB (dF (f1 ZFv) (ZA (Z4 1 [4] (.nm 0) (ZBX (ZB 4)) Zs (dOp ZNO (ZH2 (ZB 1) (ZB 0)) (dC (.int 1)))) ZE))) (ZQ (dC .none)) dNx) (ZC3 (ZIK (ZB 1) (dF (f1 ZCr) (ZA (ZB 3) ZE)))))))) ((wsO t).map PyData.str) [some (.dat (.str t)),some (.ref g.length),none,none,none] (g++[.pl []])) (seqP (ZQ (dF (f1 ZCr) (ZA (ZB 1) ZE))) (runP P)):=by
  refine ZDH (λi sd gx=>∃ds z2 z3 z4,gx=g++[.pl ds]/\Zb doO ((wsO t).take i)=some ds/\sd=[some (.dat (.str t)),some (.ref g.length),z2,z3,z4]) ⟨[],none,none,none,rfl,rfl,rfl⟩ ?_ ?_
  ·rintro i x sd gx hx ⟨ds,z2,z3,z4,rfl,ha,rfl⟩
   rw[getElem?_map] at hx;cases hw:(wsO t)[i]? with
   |none=>rw[hw] at hx;cases hx
   |some w =>
    rw[hw] at hx;cases hx;have hwm:w∈wsO t:=mem_of_getElem? hw;have hwk:TOk w:=h.word (c:=32) (hww w hwm);have hwl2:=hwk.l;have hpc:(Txt.split w sl).length<=w.length+1:=ZAS w 47;have hi:i<(wsO t).length:=(List.getElem?_eq_some_iff.mp hw).1;have htk:(wsO t).take (i+1)=(wsO t).take i++[w]:=by rw[List.take_add_one,hw];rfl
    have bad:doO w=none->ZFR t=none:=λe=>by rw[ZLt,ZEx hwm e];rfl
    have hdl:ds.length<1000:=by
     have:=ZCI ha;rw[length_take] at this
     omega
    refine⟨_,rfl,?_⟩;symm;refine ZG5 ?_;symm;refine ZCP (by decide) (by omega) rfl ?_;symm;refine⟨by rw[length_map];show(Txt.split w sl).length<=1000;omega,?_⟩;refine Z7 PyData.str (λp=>ndO (lpO p)) (Txt.split w sl) rfl trivial (λp hp=>⟨_,rfl,?_⟩) ?_
    ·symm
     exact ZLQ (hwk.word (c:=47) hp) (hf w (hww w hwm) p hp) ⟨rfl,rfl⟩
    symm;rw[length_map,ZAW];refine⟨λz=>?_,λz=>?_⟩
    ·have h4 : ¬(Txt.split w sl).length=4:=λe=>by rw[e] at z;cases z
     refine bT ?_;symm;have hq:=q (.pl ds);rw[bad (by unfold doO;rw[if_neg h4])] at hq;exact seqP.rt (.rt hq)
    ·have h4:(Txt.split w sl).length=4:=by
      rw[Bool.not_eq_false'] at z;have:=of_decide_eq_true z;omega
     symm;refine ZPk (by rw[ZFm];rfl) ?_;rw[show(((Txt.split w sl).map λp=>ndO (lpO p)).any λy=>y.eqv .none)=(Txt.split w sl).any λp=>(lpO p).isNone by
      rw[any_map]
      congr 1
      funext p
      exact ZR3 p]
     symm;cases hn:(Txt.split w sl).any λp=>(lpO p).isNone with
     |true =>
      obtain⟨p,hp,hpn⟩:=List.any_eq_true.mp hn;have hpn:=Option.isNone_iff_eq_none.mp hpn;have hdo:doO w=none:=by
       unfold doO;rw[if_pos h4];rcases lp_no hpn with e|⟨d,e,ea⟩
       ·rw[ZEx hp e];rfl
       ·cases ha:Zb ZAd (Txt.split w sl) with
        |none=>rfl
        |some dd =>
         show(if ZKv dd=true then _ else none)=none;rw[if_neg];intro z;have:=ZNh z (ZI1 ha hp e);rw[ea] at this
         cases this
      refine bT ?_;symm;have hq:=q (.pl ds);rw[bad hdo] at hq;exact seqP.rt (.rt hq)
     |false =>
      have hall:∀p∈Txt.split w sl,∃ns:List Nat,lpO p=some (.tuple (ns.map λn:Nat=>PyData.int (n:Int)))/\ZAd p=some (.tuple (ns.map λn:Nat=>PyData.int (n:Int)))/\upN ns=true/\ns.length<=17:=λp hp=>by
       have:=List.any_eq_false.mp hn p hp;cases e:lpO p with
       |none=>rw[e] at this;exact absurd rfl this
       |some d =>
        obtain⟨e1,ns,rfl,hu,_⟩:=ZLH e;refine⟨ns,rfl,e1,hu,?_⟩;have h17:=hf w (hww w hwm) p hp;obtain⟨ns',e2,_,_,hh⟩:=ZED e1;injection e2 with e2
        have e3:=congrArg List.length e2;rw[length_map,length_map] at e3;rcases hh with ⟨rfl,_⟩|hh
        ·rw[e3];exact zero_le _
        ·rw[hh,length_map] at h17
         omega
      obtain⟨p0,p1,p2,p3,e4⟩:=four4 h4;rw[e4] at hall ⊢;obtain⟨n0,a0,b0,u0,l0⟩:=hall p0 (by simp);obtain⟨n1,a1,b1,u1,l1⟩:=hall p1 (by simp);obtain⟨n2,a2,b2,u2,l2⟩:=hall p2 (by simp);obtain⟨n3,a3,b3,u3,l3⟩:=hall p3 (by simp);rw[show [p0,p1,p2,p3].map (λp=>ndO (lpO p))=[.tuple (n0.map λn:Nat=>PyData.int (n:Int)),.tuple (n1.map λn:Nat=>PyData.int (n:Int)),.tuple (n2.map λn:Nat=>PyData.int (n:Int)),.tuple (n3.map λn:Nat=>PyData.int (n:Int))] by
       show [ndO (lpO p0),ndO (lpO p1),ndO (lpO p2),ndO (lpO p3)]=_;rw[a0,a1,a2,a3];rfl]
      have hdo:doO w=if (apB (n1.map λn:Nat=>PyData.int (n:Int)) (n2.map λn:Nat=>PyData.int (n:Int)) && apB ((n1.map λn:Nat=>PyData.int (n:Int))++n2.map λn:Nat=>PyData.int (n:Int)) (n3.map λn:Nat=>PyData.int (n:Int)))=true then some (.tuple [.tuple (n0.map λn:Nat=>PyData.int (n:Int)),.tuple (n1.map λn:Nat=>PyData.int (n:Int)),.tuple (n2.map λn:Nat=>PyData.int (n:Int)),.tuple (n3.map λn:Nat=>PyData.int (n:Int))]) else none:=by
       unfold doO;rw[if_pos h4,e4];rw[show Zb ZAd [p0,p1,p2,p3]=some [.tuple (n0.map λn:Nat=>PyData.int (n:Int)),.tuple (n1.map λn:Nat=>PyData.int (n:Int)),.tuple (n2.map λn:Nat=>PyData.int (n:Int)),.tuple (n3.map λn:Nat=>PyData.int (n:Int))] by
        rw[Zb,Zb,Zb,Zb,Zb,b0,b1,b2,b3];rfl]
       show(if ZKv _=true then _ else none)=_;have hok:ZKv [.tuple (n0.map λn:Nat=>PyData.int (n:Int)),.tuple (n1.map λn:Nat=>PyData.int (n:Int)),.tuple (n2.map λn:Nat=>PyData.int (n:Int)),.tuple (n3.map λn:Nat=>PyData.int (n:Int))]=((upN n0 && (upN n1 && (upN n2 && (upN n3 && true)))) && (apB (n1.map λn:Nat=>PyData.int (n:Int)) (n2.map λn:Nat=>PyData.int (n:Int)) && apB ((n1.map λn:Nat=>PyData.int (n:Int))++n2.map λn:Nat=>PyData.int (n:Int)) (n3.map λn:Nat=>PyData.int (n:Int)))):=by
        rw[←ZFr,←ZFr,←ZFr,←ZFr];rfl
       rw[hok,u0,u1,u2,u3];rfl
      refine bF ?_;symm;refine ZL4 (by rw[length_map,length_map];omega) ?_;symm;refine ZL4 (by rw[length_append,length_map,length_map,length_map];omega) ?_;symm;have ecat:(n1.map λn:Nat=>PyData.int (n:Int))++(n2.map λn:Nat=>PyData.int (n:Int))++(n3.map λn:Nat=>PyData.int (n:Int))=((n1++n2++n3).map λn:Nat=>(n:Int)).map PyData.int:=by
       rw[map_map,map_append,map_append];rfl
      rw[ecat];refine⟨by rw[length_map,length_map,length_append,length_append];omega,?_⟩;refine Z7 PyData.int (λh:Int=>PyData.bool (decide (1<(((((n1++n2++n3).map λn:Nat=>(n:Int)).count h:Nat)):Int)))) ((n1++n2++n3).map λn:Nat=>(n:Int)) rfl trivial (λk hk=>⟨_,rfl,?_⟩) ?_
      ·symm
       refine ZRY ?_;symm;exact⟨rfl,rfl⟩
      symm;refine ZM0 (L:=(n1++n2++n3).map λn:Nat=>(n:Int)) (c:=λh=>decide (1<(((((n1++n2++n3).map λn:Nat=>(n:Int)).count h:Nat)):Int))) ?_;symm;rw[ZKn u1 u2 u3];cases hk:(apB (n1.map λn:Nat=>PyData.int (n:Int)) (n2.map λn:Nat=>PyData.int (n:Int)) && apB ((n1.map λn:Nat=>PyData.int (n:Int))++n2.map λn:Nat=>PyData.int (n:Int)) (n3.map λn:Nat=>PyData.int (n:Int))) with
      |false =>
       refine bT ?_;symm;have hq:=q (.pl ds);rw[bad (by rw[hdo,hk];rfl)] at hq;exact seqP.rt (.rt hq)
      |true =>
       rw[hk] at hdo;refine bF ?_;symm;refine⟨ds,by rw[getElem?_append_right (le_refl _),sub_self];rfl,hdl,trivial,ds++[_],_,_,_,by rw[List.set_append_right _ _ (le_refl _),sub_self];rfl,?_,rfl⟩;rw[htk];exact ZF6 ha hdo
  ·rintro sd gx ⟨ds,z2,z3,z4,rfl,ha,rfl⟩
   rw[length_map,List.take_length] at ha;symm;have hq:=q (.pl ds);rw[ZLt,ha] at hq;refine ZIX (by rw[getElem?_append_right (le_refl _),sub_self];rfl) ?_;exact .rt hq
 refine ZQN (ZHZ h.k (ZAc _)) ?_;rw[ZBG];symm;refine⟨λz=>?_,λz=>?_⟩
 ·have hz : ¬t=Str.ofString "":=by simpa using z
  symm;refine ZG5 ?_;symm;refine ZCP (by decide) (by omega) rfl ?_;have e:Txt.split t sp=wsO t:=by unfold wsO;rw[if_neg hz]
  refine⟨_,_,_,rfl,?_⟩;rw[show Txt.split t (Str.ofString " ")=wsO t from e];exact hgo
 ·have hz:t=Str.ofString "":=by simpa using z
  have e:([]:List PyData)=(wsO t).map PyData.str:=by unfold wsO;rw[if_pos hz];rfl
  symm;have hgo:=hgo;rw[←e] at hgo;exact hgo
theorem ZQh{d:PyData}(f:Fine d 3 900000):okR d=true:=by
 unfold okR;rw[f.lay,f.sh,f.nd,decide_eq_true (show d.depth<=40 from le_trans f.dp (by decide)),decide_eq_true (le_trans f.ln (by decide))];rfl
theorem do_ds{w:Str}{d:PyData}(h:doO w=some d):(Txt.split w sl).length=4/\∃ds,Zb ZAd (Txt.split w sl)=some ds/\d=.tuple ds:=by
 unfold doO at h
 split at h
 ·rename_i h4
  obtain⟨ds,e,h⟩:=bnd h
  split at h
  ·cases h;exact⟨h4,ds,e,rfl⟩
  ·cases h
 ·cases h
theorem ZKQ{p:Str}{d:PyData}(h17:(Txt.split p dot).length<=17)(h:ZAd p=some d):Fine d 1 (17*(13+2)+3):=by
 obtain⟨ns,rfl,hl,h9,hh⟩:=ZED h;have hn:ns.length<=17:=by
  rcases hh with ⟨rfl,_⟩|hh
  ·exact zero_le _
  ·rw[hh,length_map] at h17;exact h17
 exact Fine.tup (k:=0) (L:=13) (n:=17) (λ x hx=>by
  obtain⟨n,hn,rfl⟩:=List.mem_map.mp hx;have:=h9 n hn;exact Fine.int (by omega)) (by rw[length_map];omega)
theorem ZPN{w:Str}{d:PyData}(hf:∀p∈Txt.split w sl,(Txt.split p dot).length<=17)(h:doO w=some d):Fine d 2 1200:=by
 obtain⟨h4,ds,e,rfl⟩:=do_ds h;refine(Fine.tup (k:=1) (L:=17*(13+2)+3) (n:=4) (λx hx=>?_) (by rw[ZCI e];omega)).mono (le_refl _) (by decide);obtain⟨p,hp,ep⟩:=ZCz e x hx;exact ZKQ (hf p hp) ep
theorem ZMq{t:Str}{d:PyData}(h4:t.length<=490)(hf:ZLW t)(h:ZFR t=some d):∃ds,d=.tuple ds/\Fine d 3 900000:=by
 unfold ZFR at h
 split at h
 ·cases h
  exact⟨[],rfl,(Fine.tup (k:=2) (L:=0) (n:=0) (xs:=[]) (λx hx=>by cases hx) (le_refl _)).mono (le_refl _) (by decide)⟩
 ·obtain⟨ds,e,rfl⟩:=mp h
  have hc:(Txt.split t sp).length<=t.length+1:=ZAS t 32;refine⟨ds,rfl,(Fine.tup (k:=2) (L:=1200) (n:=491) (λx hx=>?_) (by rw[ZCI e];omega)).mono (le_refl _) (by decide)⟩;obtain⟨p,hp,ep⟩:=ZCz e x hx;exact ZPN (hf p hp) ep
theorem ZI9{ds:List PyData}{g:G}{P:W->G->Prop}(h:Fine (.tuple ds) 3 900000)(q:P (.dat (.str (PyData.tuple ds).shown)) g):EvP (f1 ZJc [.dat (.tuple ds)] g) P:=ZBN (ZQh h) (ZAx q)
theorem ZCJ{t:Str}{g:G}{P:W->G->Prop}(h:TOk t)(h4:t.length<=490)(hf:ZLW t)(q:∀c,P (.dat (.bool true)) (g++[c])):EvP (ZP [.dat (.str t)] g) P:=by
 refine ZCg ?_;symm;refine ZRM h hf λc=>?_
 have q:=q c;symm;refine ZKe h h4 ?_;have kf:∀d,ZFR t=some d->∃ds,d=.tuple ds/\Fine d 3 900000:=λd hd=>ZMq h4 hf hd
 generalize ZFR t=o at kf ⊢
 cases o with
 |some d =>
  obtain⟨ds,rfl,f⟩:=kf d rfl;show onX _ _ (.val (.dat (.tuple ds)) (g++[c]));symm;refine bT ?_;symm;refine bT ?_;symm;refine ZI9 f ?_;symm;refine ZI9 f ?_;symm;rw[decide_eq_true rfl];exact q
 |none =>
  show onX _ _ (.ex "NoText" none (g++[c]));symm;refine ZEj ?_;symm;refine bF ?_;symm;refine bF ?_;symm;refine bF ?_;symm;exact q
theorem ZMR{d:PyData}{g:G}{P:W->G->Prop}(h:isi (ZM3 d) "str" = false)(q:P (.dat (.bool true)) g):EvP (ZP [.dat d] g) P:=by
 refine ZCg ?_;symm;refine ZDi ?_;symm;rw[h];refine bT ?_;symm;refine ZDD ?_;symm;rw[h];refine bT ?_;symm;refine⟨rfl,.ex (.ex ?_)⟩;symm;refine ZEj ?_;symm;refine bF ?_;symm;refine bF ?_;symm;refine bF ?_;symm;exact q
noncomputable def ZBY(ns:List Nat):List PyData:=ns.map λn:Nat=>.int (n:Int)
noncomputable def Few(ns:List Nat):Prop:=ns.length<=20/\∀n∈ns,n<10 ^ 9
noncomputable def ZJZ(ns:List Nat):Str:=Txt.join dot (ns.map nt)
theorem ZOg{n c:Nat}(h:c<48):c∉(nt n).cps.toList:=λz=>by have:=ZIY c z;omega
theorem ZR7{ns:List Nat}(h0:ns≠[]):Txt.split (ZJZ ns) dot=ns.map nt:=ZBq (c:=46) (λz=>h0 (List.map_eq_nil_iff.mp z)) λs hs=>by
 obtain⟨n,hn,rfl⟩:=List.mem_map.mp hs;exact ZOg (by decide)
noncomputable def Z6(ns:List Nat):Str:=if ns=[] then Str.ofString "-" else ZJZ ns
theorem ZMC{ns:List Nat}:PyData.strOk (ZJZ ns)=true:=ZEs (ZAc _) λx hx=>by
 obtain⟨n,_,rfl⟩:=List.mem_map.mp hx;exact ZPe n
noncomputable def nsI(ns:List Nat):List Int:=ns.map λn:Nat=>(n:Int)
theorem ZHo(ns:List Nat):(PyData.tuple (ZBY ns))=ZDj (nsI ns):=by
 unfold ZBY nsI ZDj;rw[map_map];rfl
noncomputable def ZID(ns:List Nat):PyData:=.tuple (ZBY ns)
theorem ZIw{c x:Nat}:∀{A:List (List Nat)},x∈jn c A->x=c∨∃a∈A,x∈a
 |[],h=>by cases h
 |[a],h=>.inr ⟨a,mem_cons_self ..,h⟩
 |a::b::l,h=>by
  have h:x∈a++c::jn c (b::l):=h;rcases List.mem_append.mp h with h|h
  ·exact .inr ⟨a,mem_cons_self ..,h⟩
  ·rcases List.mem_cons.mp h with h|h
   ·exact .inl h
   ·rcases ZIw h with h|⟨y,hy,h⟩
    ·exact .inl h
    ·exact .inr ⟨y,mem_cons_of_mem _ hy,h⟩
theorem ZLU{ns:List Nat}{x:Nat}(h:x∈(Z6 ns).cps.toList):x=45∨x=46∨(48<=x/\x<=57):=by
 unfold Z6 at h
 split at h
 ·have h:x∈[45]:=h
  cases h with
  |head=>exact .inl rfl
  |tail _ h=>cases h
 ·have e:(ZJZ ns).cps.toList=jn 46 ((ns.map nt).map λs=>s.cps.toList):=by
   rw[←ZCN];show(Builtin.Str.glued dot (ns.map nt)).cps.toList=_;rw[StrLaws.glued_eq_join];rfl
  rw[e] at h;rcases ZIw h with h|⟨a,ha,h⟩
  ·exact .inr (.inl h)
  ·obtain⟨s,hs,rfl⟩:=List.mem_map.mp ha
   obtain⟨n,hn,rfl⟩:=List.mem_map.mp hs;exact .inr (.inr (ZIY x h))
theorem ZMa{ns:List Nat}:PyData.strOk (Z6 ns)=true:=by
 unfold Z6
 split
 ·exact ZAc _
 ·exact ZMC
noncomputable def doN(p:List (List Nat)):PyData:=.tuple (p.map ZID)
theorem okIs(ks:List Int):ok0 (.tuple (ks.map .int))=true:=by
 unfold ok0;have h1:(PyData.tuple (ks.map .int)).canLay0=true:=by rw[PyData.canLay0];exact ZGF ks
 have h2:(PyData.tuple (ks.map .int)).depth<=40:=by
  rw[PyData.depth];have:=ZR0 ks;omega
 rw[h1,decide_eq_true h2];rfl
theorem ZL8:∀ds:List PyData,(PyData.tuple ds).eqv (.tuple [])=decide (ds=[])
 |[]=>rfl
 |_::_=>rfl
theorem ZOs{ns:List Nat}{g:G}{P:W->G->Prop}(h:Few ns)(q:P (.dat (.str (Z6 ns))) g):EvP (ZO [.dat (ZID ns)] g) P:=by
 have hf:=h.1;refine ZDJ ?_;symm;refine ZIz (by rw[show ZID ns=ZDj (nsI ns) from ZHo ns,Bool.and_eq_true];exact⟨okIs _,by decide⟩) ?_;rw[show(ZID ns).eqv (.tuple [])=decide (ZBY ns=[]) from ZL8 _]
 by_cases h0:ns=[]
 ·subst h0
  symm;refine bT ?_;symm;exact q
 ·have hn:ZBY ns≠[]:=λz=>h0 (List.map_eq_nil_iff.mp z)
  rw[decide_eq_false hn];symm;refine bF ?_;refine ZG5 ?_;symm;refine⟨by unfold ZBY;rw[length_map];omega,?_⟩;refine Z7 (λn:Nat=>PyData.int (n:Int)) (λn:Nat=>PyData.str (nt n)) ns rfl trivial (λn hn=>⟨_,rfl,?_⟩) ?_
  ·symm
   refine ZM1 (lt_trans (h.2 n hn) (by decide)) ?_;exact⟨rfl,rfl⟩
  symm;refine ZIF (ss:=ns.map nt) (by rw [map_map]; rfl) (by decide) (by rw [length_map]; omega) (λ x hx=>by
   obtain⟨n,hn,rfl⟩:=List.mem_map.mp hx;have:=(ZGO (h.2 n hn)).2;omega) ?_
  symm;unfold Z6 at q;rw[if_neg h0] at q;exact q
structure RisN (ks:List Int) (m:Int):Prop where
 up:ks.Pairwise (· < ·)
 lo:∀k∈ks,0<=k
 hi:∀k∈ks,k<m
theorem ZOC{kvs:List (Key×W)}{k:Key}{x:W}:(ZBW kvs k x).length<=kvs.length+1:=by
 unfold ZBW
 split
 ·rw[length_map];omega
 ·rw[length_append];exact le_refl _
theorem ZEy:∀{ns:List Int} {kvs:List (Key×W)} {ms:List Int},kvs.map (·.1)=ms.map Sum.inl->ms.Nodup->(∀k∈ms,k∈ms)->∃js:List Int,(ZRy kvs (ns.map λn=>(Sum.inl n,W.dat (.bool true)))).map (·.1)=js.map Sum.inl/\js.Nodup/\∀k∈js,k∈ms∨k∈ns
 |[],kvs,ms,e,nd,_=>⟨ms,e,nd,λk h=>.inl h⟩
 |n::r,kvs,ms,e,nd,_=>by
  have hp:∃ms':List Int,(ZBW kvs (Sum.inl n) (W.dat (.bool true))).map (·.1)=ms'.map Sum.inl/\ms'.Nodup/\∀k∈ms',k∈ms∨k=n:=by
   unfold ZBW
   split
   ·refine⟨ms,?_,nd,λk h=>.inl h⟩
    rw[←e,map_map];apply map_congr_left;intro p hp;show(if p.1=Sum.inl n then (p.1,W.dat (.bool true)) else p).1=p.1
    split <;> rfl
   ·rename_i h
    refine⟨ms++[n],by rw[map_append,map_append,e];rfl,?_,λk hk=>?_⟩
    ·rw[nodup_append]
     refine⟨nd,by simp,λa ha c hc z=>h ?_⟩;rw[List.mem_singleton.mp hc] at z;subst z;have:(Sum.inl a:Key)∈kvs.map (·.1):=by rw[e];exact List.mem_map.mpr ⟨a,ha,rfl⟩
     obtain⟨p,hp,e2⟩:=List.mem_map.mp this
     exact List.any_eq_true.mpr ⟨p,hp,decide_eq_true e2⟩
    ·rcases List.mem_append.mp hk with hk|hk
     ·exact .inl hk
     ·exact .inr (List.mem_singleton.mp hk)
  obtain⟨ms',e1,n1,h1⟩:=hp;obtain⟨js,e2,n2,h2⟩:=ZEy (ns:=r) e1 n1 λ_ h=>h
  refine⟨js,e2,n2,λk hk=>?_⟩;rcases h2 k hk with h|h
  ·rcases h1 k h with h|h
   ·exact .inl h
   ·exact .inr (by rw[h];exact mem_cons_self ..)
  ·exact .inr (mem_cons_of_mem _ h)
theorem ZHh:∀{kvs:List (Key×W)} {ns:List Int},kvs.map (·.1)=ns.map Sum.inl->ZAo kvs=some ns
 |[],[],_=>rfl
 |[],_::_,e=>by cases e
 |_::_,[],e=>by cases e
 |(k,v)::r,n::ns,e=>by
  rw[map_cons,map_cons] at e;injection e with e1 e2
  have e1:k=Sum.inl n:=e1;subst e1;rw[ZAo,ZHh e2];rfl
theorem ZKU{ns:List Int}(nd:ns.Nodup){m:Int}(h:∀k∈ns,0<=k/\k<m):RisN (ZAf ns) m:=by
 have pm:(ZAf ns).Perm ns:=mergeSort_perm _ _;have pw:(ZAf ns).Pairwise (· <= ·):=by
  refine List.Pairwise.imp (λ{a b} h=>of_decide_eq_true h) (List.pairwise_mergeSort (le:=λa b:Int=>decide (a<=b)) (λa b c h1 h2=>?_) (λa b=>?_) ns)
  ·exact decide_eq_true (Int.le_trans (of_decide_eq_true h1) (of_decide_eq_true h2))
  ·rw[Bool.or_eq_true,decide_eq_true_iff,decide_eq_true_iff]
   exact le_total a b
 have nd2:(ZAf ns).Nodup:=pm.nodup_iff.mpr nd;exact⟨(List.pairwise_and_iff.mpr ⟨pw,nd2⟩).imp λz=>by omega,λk hk=>(h k (pm.mem_iff.mp hk)).1,λk hk=>(h k (pm.mem_iff.mp hk)).2⟩
theorem ZNb{n:Int}{kvs:List (Key×W)}{ms:List Int}(e:kvs.map (·.1)=ms.map Sum.inl)(nd:ms.Nodup):∃js:List Int,(ZBW kvs (Sum.inl n) (W.dat (.bool true))).map (·.1)=js.map Sum.inl/\js.Nodup/\(js.length<=ms.length+1)/\∀k∈js,k∈ms∨k=n:=by
 obtain⟨js,e1,n1,h1⟩:=ZEy (ns:=[n]) e nd λ_ h=>h
 refine⟨js,e1,n1,?_,λk hk=>?_⟩
 ·have:=ZOC (kvs:=kvs) (k:=Sum.inl n) (x:=W.dat (.bool true))
  have e2:=congrArg List.length e1;have e3:=congrArg List.length e;rw[length_map,length_map] at e2 e3;have e2:(ZBW kvs (Sum.inl n) (W.dat (.bool true))).length=js.length:=e2;omega
 ·rcases h1 k hk with h|h
  ·exact .inl h
  ·exact .inr (List.mem_singleton.mp h)
theorem ZKa{b:Nat}{m:Int}{g:G}{P:W->G->Prop}(hb:Bx g b)(hm : 0<m/\m<2 ^ 62)(q:∀lo g',RisN lo m->lo.length<=5->Dr b g g'->P (.dat (ZDj lo)) g'):EvP (Zi [.ref b,.dat (.int m),.dat (.int 5)] g) P:=by
 have hbl:=hb.lt;refine ZEu ?_;symm;have D1:Dr b g (g++[.dk []]):=(Dr.refl hb).app;refine ZFE (j:=0) (g1:=[]) ?_;symm;refine ZAB D1.bx (by decide) (by decide) λd1 g1 l1 u1 D2=>?_
 symm;refine⟨by omega,?_⟩;have c1:g1[g.length]? = some (.dk []):=by rw[D2.kp _ (by simp) (by omega)];exact ZGh
 have hl1:=D2.len;rw[length_append] at hl1;have hl1:g.length<g1.length:=hl1;refine ZDH (λi sd gx=>∃kvs js z,Dr b g gx/\g.length<gx.length/\gx[g.length]? = some (.dk kvs)/\kvs.map (·.1)=(js:List Int).map Sum.inl/\js.Nodup/\js.length<=i/\(∀k∈js,0<=k/\k<m)/\sd=[some (.ref b),some (.dat (.int m)),some (.dat (.int 5)),some (.ref g.length),z]) ⟨[],[],none,D1.trans D2,hl1,c1,rfl,nodup_nil,le_refl _,(λk hk=>by cases hk),rfl⟩ ?_ ?_
 ·rintro i x sd gx hx ⟨kvs,js,z,D3,hl3,c3,e3,n3,h3,k3,rfl⟩
  have hi:i<6:=by
   have:=(List.getElem?_eq_some_iff.mp hx).1;rw[ZBw] at this
   omega
  refine⟨_,rfl,?_⟩;refine ZPx ?_;symm;refine ZAB D3.bx hm.1 hm.2 λd2 g2 l2 u2 D4=>?_
  have c4:g2[g.length]? = some (.dk kvs):=by rw[D4.kp _ hl3 (by omega)];exact c3
  have hl4:=D4.len;obtain⟨js',e5,n5,h5,k5⟩:=ZNb (n:=d2) e3 n3;have hkl:kvs.length=js.length:=by have:=congrArg List.length e3;rwa [length_map,length_map] at this
  refine⟨_,_,_,rfl,c4,rfl,by omega,trivial,_,js',_,(D3.trans D4).put hbl (le_refl _),by rw[length_set];omega,Z2 (by omega),e5,n5,by omega,λk hk=>?_,rfl⟩;rcases k5 k hk with h|h
  ·exact k3 k h
  ·rw[h];exact⟨l2,u2⟩
 ·rintro sd gx ⟨kvs,js,z,D3,hl3,c3,e3,n3,h3,k3,rfl⟩
  rw[ZBw] at h3;symm;refine ZQQ c3 (ZHh e3) (by omega) ?_;symm;refine q (ZAf js) gx (ZKU n3 k3) ?_ D3;have e9:(ZAf js).length=js.length:=(mergeSort_perm _ _).length_eq;rw[e9];omega
theorem ZR9{lo:List Int}{m:Int}(h:RisN lo m):nsI (lo.map Int.toNat)=lo:=by
 unfold nsI;rw[map_map];refine(map_congr_left λk hk=>?_).trans (map_id lo);exact Int.toNat_of_nonneg (h.lo k hk)
structure Lots (gx:G) (n0 i:Nat) (L:Nat->List Nat):Prop where
 at_:∀j<4,gx[n0+j]? = some (.pl (ZBY (L j)))
 rf:gx[n0+4]? = some (.rl [.ref n0,.ref (n0+1),.ref (n0+2),.ref (n0+3)])
 up:∀j,(L j).Pairwise (· < ·)
 hi:∀j,∀x∈L j,x<i
 ap:∀j j',j≠j'->∀x∈L j,x∉L j'
 ln:∀j,(L j).length<=i
theorem Lots.add{gx:G}{n0 i d:Nat}{L:Nat->List Nat}(h:Lots gx n0 i L)(hd:d<4):Lots (gx.set (n0+d) (.pl (ZBY (L d)++[.int (i:Int)]))) n0 (i+1) (λj=>if j=d then L j++[i] else L j):=⟨λj hj=>by
 by_cases e:j=d
 ·subst e
  rw[if_pos rfl,Z2 (List.getElem?_eq_some_iff.mp (h.at_ j hj)).1];unfold ZBY;rw[map_append];rfl
 ·rw[if_neg e,getElem?_set_ne (by omega)]
  exact h.at_ j hj,by rw[getElem?_set_ne (by omega)];exact h.rf,λj=>by
 show(if j=d then L j++[i] else L j).Pairwise (· < ·)
 split
 ·rw[List.pairwise_append]
  exact⟨h.up j,List.pairwise_singleton _ _,λa ha c hc=>by rw[List.mem_singleton.mp hc];exact h.hi j a ha⟩
 ·exact h.up j,λj x hx=>by
 have hx:x∈if j=d then L j++[i] else L j:=hx
 split at hx
 ·rcases List.mem_append.mp hx with hx|hx
  ·have:=h.hi j x hx;omega
  ·rw[List.mem_singleton.mp hx];omega
 ·have:=h.hi j x hx;omega,λj j' hj x hx hx'=>by
 have hx:x∈if j=d then L j++[i] else L j:=hx
 have hx':x∈if j'=d then L j'++[i] else L j':=hx'
 split at hx
 ·rw[if_neg (by omega)] at hx'
  rcases List.mem_append.mp hx with hx|hx
  ·exact h.ap j j' hj x hx hx'
  ·rw[List.mem_singleton.mp hx] at hx'
   have:=h.hi j' i hx';omega
 ·split at hx'
  ·rcases List.mem_append.mp hx' with hx'|hx'
   ·exact h.ap j j' hj x hx hx'
   ·rw[List.mem_singleton.mp hx'] at hx
    have:=h.hi j i hx;omega
  ·exact h.ap j j' hj x hx hx',λj=>by
 show(if j=d then L j++[i] else L j).length<=i+1;have:=h.ln j
 split
 ·rw[length_append]
  show(L j).length+1<=_;omega
 ·omega⟩
theorem Lots.draw{b n0 i:Nat}{g gx:G}{L:Nat->List Nat}(h:Lots g n0 i L)(hb:b<n0)(D:Dr b g gx):Lots gx n0 i L:=⟨λj hj=>by rw[D.kp _ (List.getElem?_eq_some_iff.mp (h.at_ j hj)).1 (by omega)];exact h.at_ j hj,by rw[D.kp _ (List.getElem?_eq_some_iff.mp h.rf).1 (by omega)];exact h.rf,h.up,h.hi,h.ap,h.ln⟩
structure Row5 (p:List (List Nat)):Prop where
 len:p.length=4
 few:∀ns∈p,ns.length<=8/\∀n∈ns,n<10 ^ 9
 sum:(p.map λns=>(Z6 ns).length).sum<=100
theorem ZDP{ns:List Nat}{B N:Nat}(hb:∀n∈ns,(nt n).length<=B)(hn:ns.length<=N)(h1 : 1<=N*(B+1)):(Z6 ns).length<=N*(B+1):=by
 unfold Z6
 split
 ·exact h1
 ·have:=ZOm (sep:=dot) (ss:=ns.map nt) (B:=B) (N:=N) (λ x hx=>by
   obtain⟨n,hm,rfl⟩:=List.mem_map.mp hx;exact hb n hm) (by rw[length_map];exact hn)
  rw[Nat.mul_add];exact this
theorem ZIi:∀{n:Nat},n<8->(nt n).length<=1:=λ{n} h=>(show ∀n,n<8->(nt n).length<=1 by decide +kernel) n h
theorem ZJ7{lo:List Int}{m:Int}(hm:m<=10 ^ 9)(hr:RisN lo m)(hl:lo.length<=5){b c d:List Nat}(lb:b.length<=8)(lc:c.length<=8)(ld:d.length<=8)(bb:∀x∈b,x<8)(bc:∀x∈c,x<8)(bd:∀x∈d,x<8):Row5 [lo.map Int.toNat,b,c,d]:=by
 have e:(10:Int) ^ 9=1000000000:=by decide
 have h9:∀n∈lo.map Int.toNat,n<10 ^ 9:=λn hn=>by
  obtain⟨k,hk,rfl⟩:=List.mem_map.mp hn;have h1:=hr.lo k hk;have h2:=hr.hi k hk;show k.toNat<1000000000;omega
 refine⟨rfl,λns hn=>?_,?_⟩
 ·simp only[mem_cons,not_mem_nil,or_false] at hn
  rcases hn with rfl|rfl|rfl|rfl
  ·exact⟨by rw[length_map];omega,h9⟩
  ·exact⟨lb,λn hn=>lt_trans (bb n hn) (by decide)⟩
  ·exact⟨lc,λn hn=>lt_trans (bc n hn) (by decide)⟩
  ·exact⟨ld,λn hn=>lt_trans (bd n hn) (by decide)⟩
 ·have s0:=ZDP (ns:=lo.map Int.toNat) (B:=9) (N:=5) (λn hn=>(ZGO (h9 n hn)).2) (by rw[length_map];exact hl) (by decide)
  have s1:=ZDP (ns:=b) (B:=1) (N:=8) (λn hn=>ZIi (bb n hn)) lb (by decide);have s2:=ZDP (ns:=c) (B:=1) (N:=8) (λn hn=>ZIi (bc n hn)) lc (by decide);have s3:=ZDP (ns:=d) (B:=1) (N:=8) (λn hn=>ZIi (bd n hn)) ld (by decide);show(Z6 (lo.map Int.toNat)).length+((Z6 b).length+((Z6 c).length+((Z6 d).length+0)))<=100;omega
theorem ZRq{α : Type}{ds:List α}{k:Int}(h : 0<=k):ZDZ ds none (some k)=ds.take k.toNat:=by
 obtain⟨n,rfl⟩:=Int.eq_ofNat_of_zero_le h;unfold ZDZ;rw[HT.sIx_none,HT.sIx_nat,List.drop_zero,Nat.sub_zero,toNat_natCast]
 by_cases z:n<=ds.length
 ·rw[Nat.min_eq_left z]
 ·rw[Nat.min_eq_right (by omega),List.take_length,List.take_of_length_le (by omega)]
theorem ZRO{n:Nat}{xs:List PyData}{lo hi:Option Int}{g:G}{P:W->G->Prop}(hn:g[n]? = some (.pl xs))(q:P (.dat (.list (ZDZ xs lo hi))) g):EvP (slO (.ref n) lo hi g) P:=by
 refine ZL6 ?_ q;show(lk g n).map _=_;rw[ZJT hn];rfl
theorem lots0{g:G}:Lots (g++[Cell.pl []]++[Cell.pl []]++[Cell.pl []]++[Cell.pl []]++[Cell.rl [W.ref (List.length g),W.ref (List.length (g++[Cell.pl []])),W.ref (List.length (g++[Cell.pl []]++[Cell.pl []])),W.ref (List.length (g++[Cell.pl []]++[Cell.pl []]++[Cell.pl []]))]]) g.length 0 (λ_=>[]):=by
 have e:(g++[Cell.pl []]++[Cell.pl []]++[Cell.pl []]++[Cell.pl []]++[Cell.rl [W.ref (List.length g),W.ref (List.length (g++[Cell.pl []])),W.ref (List.length (g++[Cell.pl []]++[Cell.pl []])),W.ref (List.length (g++[Cell.pl []]++[Cell.pl []]++[Cell.pl []]))]])=g++[Cell.pl [],Cell.pl [],Cell.pl [],Cell.pl [],Cell.rl [W.ref g.length,W.ref (g.length+1),W.ref (g.length+2),W.ref (g.length+3)]]:=by
  simp only[append_assoc,length_append];rfl
 rw[e];have at_:∀j,(g++[Cell.pl [],Cell.pl [],Cell.pl [],Cell.pl [],Cell.rl [W.ref g.length,W.ref (g.length+1),W.ref (g.length+2),W.ref (g.length+3)]])[g.length+j]? = [Cell.pl [],Cell.pl [],Cell.pl [],Cell.pl [],Cell.rl [W.ref g.length,W.ref (g.length+1),W.ref (g.length+2),W.ref (g.length+3)]][j]?:=λj=>by
  rw[getElem?_append_right (by omega),Nat.add_sub_cancel_left]
 refine⟨λj hj=>?_,at_ 4,λ_=>.nil,(λ_ x hx=>by cases hx),(λ_ _ _ x hx=>by cases hx),λ_=>le_refl _⟩;rw[at_ j]
 match j,hj with
 |0,_=>rfl
 |1,_=>rfl
 |2,_=>rfl
 |3,_=>rfl
theorem ZKJ{b:Nat}{g:G}{P:W->G->Prop}(hb:Bx g b)(q:∀p g',Row5 p->Dr b g g'->P (.dat (doN p)) g'):EvP (Ze [.ref b] g) P:=by
 have hbl:=hb.lt;refine ZEt ?_;symm;refine ZAB hb (by decide) (by decide) λd1 g1 l1 u1 D1=>?_
 symm;refine ZG0 (xs:=[.int 6,.int 60,.int 1000000000]) l1 u1 λx hx=>?_
 obtain⟨m,rfl,hm⟩:∃m:Int,x=.int m/\0<m/\m<=1000000000:=by
  simp only[mem_cons,not_mem_nil,or_false] at hx;rcases hx with rfl|rfl|rfl <;> exact⟨_,rfl,by decide,by decide⟩
 symm;refine ZKa D1.bx ⟨hm.1,by omega⟩ λlo g2 hr hlo D2=>?_
 have D12:=D1.trans D2;have hl2:=D12.len;have hb2:b<g2.length:=by omega
 symm;refine ZDH (λi sd gx=>∃L z z',Dr b g gx/\Lots gx g2.length i L/\sd=[some (.ref b),some (.dat (ZDj lo)),some (.ref (g2.length+4)),z,z']) ⟨λ_=>[],none,none,D12.app.app.app.app.app,lots0,?_⟩ ?_ ?_
 ·show [some (W.ref b),some (W.dat (ZDj lo)),some (W.ref (List.length (g2++[Cell.pl []]++[Cell.pl []]++[Cell.pl []]++[Cell.pl []]))),none,none]=_
  simp only[length_append];rfl
 ·rintro i x sd gx hx ⟨L,z,z',D3,hL,rfl⟩
  have hi:i<8:=by
   have:=(List.getElem?_eq_some_iff.mp hx).1;rw[ZBw] at this
   exact this
  rw[ZJv,getElem?_map] at hx;obtain⟨k,hk,rfl⟩:=mp hx;obtain⟨hk1,hk2⟩:=List.getElem?_eq_some_iff.mp hk;rw[List.getElem_range] at hk2;subst hk2;refine⟨_,rfl,?_⟩;symm;refine ZAB D3.bx (by decide) (by decide) λd2 g3 l2 u2 D4=>?_
  obtain⟨d,rfl⟩:=Int.eq_ofNat_of_zero_le l2;have hd:d<4:=by omega
  have hL4:=hL.draw hb2 D4;symm;refine ZAT (d:=.ref (g2.length+d)) hL4.rf ?_ ?_
  ·refine ZBp ?_
   match d,hd with
   |0,_=>rfl
   |1,_=>rfl
   |2,_=>rfl
   |3,_=>rfl
  have hc:=hL4.at_ d hd;symm;refine⟨_,hc,?_,?_⟩
  ·have:=hL4.ln d
   unfold ZBY;rw[length_map];omega
  symm;exact⟨trivial,_,_,_,(D3.trans D4).put hbl (by omega),hL4.add hd,rfl⟩
 ·rintro sd gx ⟨L,z,z',D3,hL,rfl⟩
  rw[ZBw] at hL;symm;refine ZAB D3.bx (by decide) (by decide) λd2 g3 l2 u2 D4=>?_
  have hL4:=hL.draw hb2 D4;have e0:ZDj lo=ZID (lo.map Int.toNat):=by rw[show ZID (lo.map Int.toNat)=ZDj (nsI (lo.map Int.toNat)) from ZHo _,ZR9 hr]
  symm;rw[ZAW];refine⟨λz1=>?_,λz1=>?_⟩
  ·symm
   rw[e0];exact q [lo.map Int.toNat,[],[],[]] g3 (ZJ7 (by omega) hr hlo (by decide) (by decide) (by decide) (λx hx=>by cases hx) (λx hx=>by cases hx) (λx hx=>by cases hx)) (D3.trans D4)
  ·symm
   refine ZAT (d:=.ref (g2.length+0)) hL4.rf rfl ?_;symm;refine ZIX (hL4.at_ 0 (by decide)) ?_;symm;refine ZAT (d:=.ref (g2.length+1)) hL4.rf rfl ?_;symm;refine ZRO (hL4.at_ 1 (by decide)) ?_;rw[ZRq l2];symm;refine ZAT (d:=.ref (g2.length+2)) hL4.rf rfl ?_;symm;refine ZIX (hL4.at_ 2 (by decide)) ?_;symm;have e1:(ZBY (L 1)).take d2.toNat=ZBY ((L 1).take d2.toNat):=by unfold ZBY;rw[List.map_take]
   rw[e0,e1];have hs:=take_sublist d2.toNat (L 1);refine q [lo.map Int.toNat,L 0,(L 1).take d2.toNat,L 2] g3 (ZJ7 (by omega) hr hlo (hL.ln 0) (le_trans hs.length_le (hL.ln 1)) (hL.ln 2) (hL.hi 0) (λx hx=>hL.hi 1 x (hs.mem hx)) (hL.hi 2)) (D3.trans D4)
theorem ZGW{c:Nat}:∀{A B:List (List Nat)},A≠[]->B≠[]->jn c (A++B)=jn c A++c::jn c B
 |[],_,h,_=>absurd rfl h
 |[a],b::B,_,_=>rfl
 |[a],[],_,h=>absurd rfl h
 |a::a'::A,B,_,h=>by
  show a++c::jn c (a'::A++B)=(a++c::jn c (a'::A))++c::jn c B;rw[ZGW (A:=a'::A) (by simp) h,append_assoc];rfl
theorem ZFF{c:Nat}{ss:List Str}:(Txt.join ⟨#[c]⟩ ss).cps.toList=jn c (ss.map λs=>s.cps.toList):=by
 rw[←ZCN];show(Builtin.Str.glued ⟨#[c]⟩ ss).cps.toList=_;rw[StrLaws.glued_eq_join]
structure GoodP (p:Str):Prop where
 k:PyData.strOk p=true
 fr:∀c∈p.cps.toList,c≠32/\c≠47
 few:(Txt.split p dot).length<=17
noncomputable def ZCb(ps:List Str):Prop:=ps≠[]/\∀p∈ps,GoodP p
noncomputable def ZA6(pss:List (List Str)):Prop:=pss≠[]/\∀ps∈pss,ZCb ps
noncomputable def wtR(ps:List Str):Nat:=(ps.map λp=>p.length+1).sum
noncomputable def wtT(pss:List (List Str)):Nat:=(pss.map λps=>wtR ps+1).sum
noncomputable def wdT(ps:List Str):Str:=Txt.join sl ps
noncomputable def txT(pss:List (List Str)):Str:=Txt.join sp (pss.map wdT)
theorem ZLi{c:Nat}:∀A:List (List Nat),(jn c A).length<=(A.map λa=>a.length+1).sum
 |[]=>zero_le _
 |[a]=>by show a.length<=a.length+1+0;omega
 |a::b::r=>by
  have:=ZLi (c:=c) (b::r);show(a++c::jn c (b::r)).length<=(a.length+1)+((b::r).map λa=>a.length+1).sum;rw[length_append,length_cons];omega
theorem ZJk{c:Nat}(ss:List Str):(Txt.join ⟨#[c]⟩ ss).length<=(ss.map λs=>s.length+1).sum:=by
 have h1:(Txt.join ⟨#[c]⟩ ss).cps.toList.length=(Txt.join ⟨#[c]⟩ ss).length:=Array.length_toList;have h2:=ZLi (c:=c) (ss.map λs=>s.cps.toList);rw[←ZFF,h1,map_map] at h2;exact h2
theorem ZMd(ps:List Str):(wdT ps).length<=wtR ps:=ZJk (c:=47) ps
theorem ZQk(pss:List (List Str)):(txT pss).length<=wtT pss:=by
 refine le_trans (ZJk (c:=32) _) ?_;unfold wtT;rw[map_map]
 induction pss with
 |nil=>exact le_refl _
 |cons ps r ih =>
  have:=ZMd ps;rw[map_cons,map_cons,sum_cons,sum_cons];show(wdT ps).length+1+_<=wtR ps+1+_;omega
theorem ZHq{c x:Nat}{ss:List Str}(h:x∈(Txt.join ⟨#[c]⟩ ss).cps.toList):x=c∨∃s∈ss,x∈s.cps.toList:=by
 rw[ZFF] at h;rcases ZIw h with h|⟨a,ha,hx⟩
 ·exact .inl h
 ·obtain⟨s,hs,rfl⟩:=List.mem_map.mp ha
  exact .inr ⟨s,hs,hx⟩
theorem ZM2{ps:List Str}(h:ZCb ps):Txt.split (wdT ps) sl=ps:=ZBq (c:=47) h.1 λs hs z=>((h.2 s hs).fr 47 z).2 rfl
theorem ZLh{pss:List (List Str)}(h:ZA6 pss):Txt.split (txT pss) sp=pss.map wdT:=ZBq (c:=32) (λz=>h.1 (List.map_eq_nil_iff.mp z)) λs hs z=>by
 obtain⟨ps,hp,rfl⟩:=List.mem_map.mp hs;rcases ZHq z with e|⟨p,hpp,e⟩
 ·cases e
 ·exact(((h.2 ps hp).2 p hpp).fr 32 e).1 rfl
theorem ZPs{pss:List (List Str)}(h:ZA6 pss)(hw:wtT pss<=490):TOk (txT pss)/\(txT pss).length<=490/\ZLW (txT pss):=by
 have hl:=ZQk pss;refine⟨⟨by omega,ZEs (ZAc _) λx hx=>?_⟩,by omega,λw hw2 p hp=>?_⟩
 ·obtain⟨ps,hp,rfl⟩:=List.mem_map.mp hx
  exact ZEs (ZAc _) λy hy=>((h.2 ps hp).2 y hy).k
 ·rw[ZLh h] at hw2
  obtain⟨ps,hps,rfl⟩:=List.mem_map.mp hw2;rw[ZM2 (h.2 ps hps)] at hp;exact((h.2 ps hps).2 p hp).few
theorem ZKF{pss:List (List Str)}{g:G}{P:W->G->Prop}(h:ZA6 pss)(hw:wtT pss<=490)(q:∀c,P (.dat (.bool true)) (g++[c])):EvP (ZP [.dat (.str (txT pss))] g) P:=by
 obtain⟨a,b,c⟩:=ZPs h hw;exact ZCJ a b c q
theorem ZKo{ns:List Nat}(h:ns.length<=8/\∀n∈ns,n<10 ^ 9):GoodP (Z6 ns):=⟨ZMa,λc hc=>by
 rcases ZLU hc with rfl|rfl|h <;> omega,by
 unfold Z6
 split
 ·decide +kernel
 ·rename_i h0
  rw[ZR7 h0,length_map];omega⟩
noncomputable def ZMJ(p:Str):Bool:=PyData.strOk p && (p.cps.toList.all (λc=>decide (c≠32) && decide (c≠47)) && decide ((Txt.split p dot).length<=17))
theorem ZEA{p:Str}(h:ZMJ p=true):GoodP p:=by
 unfold ZMJ at h;rw[Bool.and_eq_true,Bool.and_eq_true] at h;refine⟨h.1,λc hc=>?_,of_decide_eq_true h.2.2⟩;have:=List.all_eq_true.mp h.2.1 c hc;rw[Bool.and_eq_true,decide_eq_true_iff,decide_eq_true_iff] at this
 exact this
noncomputable def ODD:List Str:=["","0.0","3.1","01","1.",".1","1..2","1234567890","123456789","--","-.1","x","0.1.2","5","-1"]
theorem ZRv:∀p∈ODD,GoodP p/\p.length<=10:=λp hp=>by
 have h:∀p∈ODD,(ZMJ p && decide (p.length<=10))=true:=by decide +kernel
 have:=h p hp;rw[Bool.and_eq_true,decide_eq_true_iff] at this
 exact⟨ZEA this.1,this.2⟩
theorem ZKK(t:Str)(c:Nat):Txt.join ⟨#[c]⟩ (Txt.split t ⟨#[c]⟩)=t:=by
 show Builtin.Str.glued ⟨#[c]⟩ (Txt.split t ⟨#[c]⟩)=t;rw[StrLaws.glued_eq_join,StrLaws.join_split]
theorem ZIG(c:Nat)(ss:List Str):(Txt.join ⟨#[c]⟩ ss).cps.toList=jn c (ss.map λs=>s.cps.toList):=ZFF
theorem ZAq(a b:Str):(a++b).cps.toList=a.cps.toList++b.cps.toList:=by
 show(a.cps++b.cps).toList=_;rw[Array.toList_append]
noncomputable def lsT(pss:List (List Str)):List (List Nat):=(pss.map wdT).map λs=>s.cps.toList
theorem ZBT(pss:List (List Str)):(txT pss).cps.toList=jn 32 (lsT pss):=ZIG 32 _
theorem ZDX(A B:List (List Str)):lsT (A++B)=lsT A++lsT B:=by unfold lsT;rw[map_append,map_append]
theorem ZPh{A:List (List Str)}(h:A≠[]):lsT A≠[]:=λz=>h (by
 unfold lsT at z;exact List.map_eq_nil_iff.mp (List.map_eq_nil_iff.mp z))
theorem ZC6{c:Nat}:∀(A:List (List Nat)) (a s:List Nat),jn c (A++[a])++s=jn c (A++[a++s])
 |[],a,s=>rfl
 |[x],a,s=>by show(x++c::a)++s=x++c::(a++s);rw[append_assoc];rfl
 |x::y::A,a,s=>by
  have:=ZC6 (c:=c) (y::A) a s;show(x++c::jn c (y::A++[a]))++s=x++c::jn c (y::A++[a++s]);rw[append_assoc,List.cons_append,this]
theorem ZOP{pss:List (List Str)}(h:pss≠[]):txT pss++Str.ofString " " = txT (pss++[[Str.ofString ""]]):=ZBH (by
 rw[ZAq,ZBT,ZBT,ZDX,ZGW (ZPh h) (by decide)];rfl)
theorem ZRu{pss:List (List Str)}(h:pss≠[]):Str.ofString " "++txT pss=txT ([Str.ofString ""]::pss):=ZBH (by
 rw[ZAq,ZBT,ZBT,show [Str.ofString ""]::pss=[[Str.ofString ""]]++pss from rfl,ZDX,ZGW (by decide) (ZPh h)];rfl)
theorem v_end{A:List (List Str)}{B:List Str}{p s:Str}:txT (A++[B++[p]])++s=txT (A++[B++[p++s]]):=ZBH (by
 rw[ZAq,ZBT,ZBT,ZDX,ZDX];show jn 32 (lsT A++[(wdT (B++[p])).cps.toList])++s.cps.toList=jn 32 (lsT A++[(wdT (B++[p++s])).cps.toList]);rw[ZC6]
 congr 3
 show(Txt.join ⟨#[47]⟩ (B++[p])).cps.toList++s.cps.toList=(Txt.join ⟨#[47]⟩ (B++[p++s])).cps.toList;rw[ZIG,ZIG,map_append,map_append];show jn 47 (B.map (λs=>s.cps.toList)++[p.cps.toList])++s.cps.toList=jn 47 (B.map (λs=>s.cps.toList)++[(p++s).cps.toList]);rw[ZC6,ZAq])
theorem v_bar{A:List (List Str)}{B:List Str}(hB:B≠[]):txT (A++[B])++Str.ofString "/" = txT (A++[B++[Str.ofString ""]]):=ZBH (by
 rw[ZAq,ZBT,ZBT,ZDX,ZDX];show jn 32 (lsT A++[(wdT B).cps.toList])++[47]=jn 32 (lsT A++[(wdT (B++[Str.ofString ""])).cps.toList]);rw[ZC6]
 congr 3
 show(Txt.join ⟨#[47]⟩ B).cps.toList++[47]=(Txt.join ⟨#[47]⟩ (B++[Str.ofString ""])).cps.toList;rw[ZIG,ZIG,map_append,ZGW (λz=>hB (List.map_eq_nil_iff.mp z)) (by decide)];rfl)
noncomputable def itl:List (List Str)->List (List Str)
 |a::b::r=>a::[Str.ofString ""]::itl (b::r)
 |l=>l
noncomputable def itL:List (List Nat)->List (List Nat)
 |a::b::r=>a::[]::itL (b::r)
 |l=>l
theorem ZMf(b:List Nat)(r:List (List Nat)):∃x y,itL (b::r)=x::y:=by
 cases r with
 |nil=>exact⟨_,_,rfl⟩
 |cons c r=>exact⟨_,_,rfl⟩
theorem ZM5{c:Nat}:∀{A:List (List Nat)},(∀a∈A,c∉a)->StrLaws.dbl c (jn c A)=jn c (itL A)
 |[],_=>rfl
 |[a],h=>StrLaws.dbl_free c a (h a (mem_cons_self ..))
 |a::b::r,h=>by
  have ih:=ZM5 (A:=b::r) λx hx=>h x (mem_cons_of_mem _ hx)
  obtain⟨x,y,e⟩:=ZMf b r;show StrLaws.dbl c (a++([c]++jn c (b::r)))=a++c::jn c ([]::itL (b::r));rw[StrLaws.dbl_append,StrLaws.dbl_append,StrLaws.dbl_free c a (h a (mem_cons_self ..)),StrLaws.dbl_one,ih,e];rfl
theorem ZNi:∀pss:List (List Str),lsT (itl pss)=itL (lsT pss)
 |[]=>rfl
 |[a]=>rfl
 |a::b::r=>by
  have ih:=ZNi (b::r);show(wdT a).cps.toList::(wdT [Str.ofString ""]).cps.toList::lsT (itl (b::r))=(wdT a).cps.toList::[]::itL (lsT (b::r));rw[ih];rfl
theorem v_rep{pss:List (List Str)}(h:ZA6 pss):Txt.replace (txT pss) (Str.ofString " ") (Str.ofString "  ")=txT (itl pss):=ZBH (by
 rw[show Txt.replace (txT pss) (Str.ofString " ") (Str.ofString "  ")=Txt.replace (txT pss) ⟨#[32]⟩ ⟨#[32,32]⟩ from rfl,StrLaws.replace_double,ZBT,ZBT,ZNi];refine ZM5 λa ha z=>?_
 obtain⟨s,hs,rfl⟩:=List.mem_map.mp ha;obtain⟨ps,hp,rfl⟩:=List.mem_map.mp hs;rcases ZHq z with e|⟨p,hpp,e⟩
 ·cases e
 ·exact(((h.2 ps hp).2 p hpp).fr 32 e).1 rfl)
theorem ZNf:GoodP (Str.ofString ""):=ZEA (by decide +kernel)
theorem ZGv:ZCb [Str.ofString ""]:=⟨by simp,λp hp=>by rw[List.mem_singleton.mp hp];exact ZNf⟩
theorem ZDb(A B:List (List Str)):wtT (A++B)=wtT A+wtT B:=by unfold wtT;rw[map_append,List.sum_append]
theorem ZES(A B:List Str):wtR (A++B)=wtR A+wtR B:=by unfold wtR;rw[map_append,List.sum_append]
theorem ZIj{pss:List (List Str)}(h:ZA6 pss):ZA6 (pss++[[Str.ofString ""]])/\wtT (pss++[[Str.ofString ""]])=wtT pss+2:=⟨⟨by simp,λps hp=>by
 rcases List.mem_append.mp hp with hp|hp
 ·exact h.2 ps hp
 ·rw[List.mem_singleton.mp hp];exact ZGv⟩,by rw[ZDb];rfl⟩
theorem ZKL{pss:List (List Str)}(h:ZA6 pss):ZA6 ([Str.ofString ""]::pss)/\wtT ([Str.ofString ""]::pss)=wtT pss+2:=⟨⟨by simp,λps hp=>by
 rcases List.mem_cons.mp hp with rfl|hp
 ·exact ZGv
 ·exact h.2 ps hp⟩,by
 rw[show [Str.ofString ""]::pss=[[Str.ofString ""]]++pss from rfl,ZDb,add_comm];rfl⟩
theorem ZHl:∀{pss:List (List Str)},ZA6 pss->ZA6 (itl pss)/\wtT (itl pss)<=wtT pss+2*pss.length
 |[],h=>absurd rfl h.1
 |[a],h=>⟨h,by show wtT [a]<=wtT [a]+2;omega⟩
 |a::b::r,h=>by
  obtain⟨h1,h2⟩:=ZHl (pss:=b::r) ⟨by simp,λps hp=>h.2 ps (mem_cons_of_mem _ hp)⟩;refine⟨⟨by show a::_≠[];simp,λps hp=>?_⟩,?_⟩
  ·have hp:ps∈a::[Str.ofString ""]::itl (b::r):=hp
   rcases List.mem_cons.mp hp with rfl|hp
   ·exact h.2 _ (mem_cons_self ..)
   ·rcases List.mem_cons.mp hp with rfl|hp
    ·exact ZGv
    ·exact h1.2 ps hp
  ·show(wtR a+1)+((wtR [Str.ofString ""]+1)+wtT (itl (b::r)))<=((wtR a+1)+wtT (b::r))+2*(r.length+1+1)
   have:wtR [Str.ofString ""]=1:=rfl;have h2:wtT (itl (b::r))<=wtT (b::r)+2*(r.length+1):=h2;omega
theorem ZCj{α : Type}{l:List α}(h:l≠[]):∃A a,l=A++[a]:=⟨l.dropLast,l.getLast h,(List.dropLast_concat_getLast h).symm⟩
theorem ZJ8{a b:Str}(ha:PyData.strOk a=true)(hb:PyData.strOk b=true):PyData.strOk (a++b)=true:=by
 unfold PyData.strOk at *;rw[show(a++b).cps=a.cps++b.cps from rfl,Array.all_append,ha,hb];rfl
theorem ZOW{p:Str}(h:GoodP p):GoodP (p++Str.ofString "\n"):=by
 refine⟨ZJ8 h.k (ZAc _),λc hc=>?_,?_⟩
 ·rw[ZAq] at hc
  rcases List.mem_append.mp hc with hc|hc
  ·exact h.fr c hc
  ·have hc:c∈[10]:=hc
   rw[List.mem_singleton.mp hc];exact⟨by decide,by decide⟩
 ·have hn:Txt.split p dot≠[]:=by obtain⟨w,r,e⟩:=ZLz p 46;rw[show Txt.split p dot=w::r from e];simp
  obtain⟨A,a,e⟩:=ZCj hn;have hb:p=Txt.join ⟨#[46]⟩ (A++[a]):=by rw[←e];exact(ZKK p 46).symm
  have e2:p ++ Str.ofString "\n" = Txt.join ⟨#[46]⟩ (A ++ [a ++ Str.ofString "\n"]):=ZBH (by
   rw[ZAq,hb,ZIG,ZIG,map_append,map_append];show jn 46 (A.map (λs=>s.cps.toList)++[a.cps.toList])++[10]=jn 46 (A.map (λs=>s.cps.toList)++[(a++Str.ofString "\n").cps.toList]);rw[ZC6,ZAq];rfl)
  have hfree:∀s∈A++[a],46∉s.cps.toList:=λs hs=>by
   rw[←e] at hs;exact StrLaws.split_free p 46 s hs
  have hl:(Txt.split p dot).length=A.length+1:=by rw[e,length_append];rfl
  have hf:=h.few;show(Txt.split (p++Str.ofString "\n") ⟨#[46]⟩).length<=17;rw[e2,ZBq (by simp) (λs hs z=>?_),length_append]
  ·show A.length+1<=17
   omega
  ·rcases List.mem_append.mp hs with hs|hs
   ·exact hfree s (mem_append_left _ hs) z
   ·rw[List.mem_singleton.mp hs,ZAq] at z
    rcases List.mem_append.mp z with z|z
    ·exact hfree a (by simp) z
    ·have z : 46∈[10]:=z
     simp at z
theorem ZNu{n:Nat}{sep:Str}{ss:List Str}{g:G}{P:W->G->Prop}(hn:g[n]? = some (.pl (ss.map .str)))(h1:sep.length<=16)(h2:ss.length<=1000)(h3:∀x∈ss,x.length<=1000)(q:P (.dat (.str (Txt.join sep ss))) g):EvP (ZBZ (.dat (.str sep)) [.ref n] g) P:=by
 have:=ZIF (g:=g) (P:=P) (sep:=sep) (ss:=ss) rfl h1 h2 h3 q;obtain⟨x,g',e,h⟩:=this
 refine⟨x,g',?_,h⟩;show(lk g n).bind _=_;rw[ZJT hn];exact e
noncomputable abbrev Rw3:=List (List (List Nat))
noncomputable def prt(p:List (List Nat)):List Str:=p.map Z6
noncomputable def wc(p:List (List Nat)):Cell:=.pl ((prt p).map .str)
theorem ZHd{src:Option Nat}{xs:List PyData}(hs:src=none):∀{p:List (List Nat)} {g:G} {Q:List W->G->Prop},(∀ns∈p,Few ns)->Q ((prt p).map λs=>W.dat (.str s)) g->EvP (Z0 src xs (.nm 0) Zs (dF ZO (ZA (ZB 0) ZE)) [none] (p.map ZID) g) Q
 |[],g,Q,_,q=>ZJS q
 |ns::p,g,Q,h,q=>by
  subst hs;refine ZG9 rfl ?_;symm;refine ZOs (h ns (mem_cons_self ..)) ?_;exact⟨trivial,ZHd rfl (λx hx=>h x (mem_cons_of_mem _ hx)) q⟩
theorem ZHp{src:Option Nat}{xs:List PyData}(hs:src=none):∀{L:Rw3} {g:G} {Q:List W->G->Prop},(∀p∈L,Row5 p)->Q ((List.range L.length).map λj=>W.ref (g.length+j)) (g++L.map wc)->EvP (Z0 src xs (.nm 0) Zs (dPl (ZAi 1 [] (.nm 0) (ZBX (ZB 0)) Zs (dF ZO (ZA (ZB 0) ZE)))) [none] (L.map doN) g) Q
 |[],g,Q,_,q=>by
  rw[map_nil,append_nil] at q;exact ZJS q
 |p::L,g,Q,h,q=>by
  subst hs;have hp:=h p (mem_cons_self ..);refine ZG9 rfl ?_;refine x_pl (ZJN ?_);symm;refine⟨by rw[length_map,hp.len];decide,?_⟩;refine ZHd rfl (λns hn=>⟨by have:=(hp.few ns hn).1;omega,(hp.few ns hn).2⟩) ?_;refine⟨_,rfl,(prt p).map .str,by rw[getElem?_append_right (le_refl _),sub_self,map_map];rfl,trivial,?_⟩;rw[List.set_append_right _ _ (le_refl _),sub_self];show EvP (Z0 none xs (.nm 0) Zs _ [none] (L.map doN) (g++[wc p])) _;refine ZHp rfl (λx hx=>h x (mem_cons_of_mem _ hx)) ?_;have e1:(g++[wc p])++L.map wc=g++(p::L).map wc:=by rw[append_assoc];rfl
  have e2:(W.ref g.length::(List.range L.length).map λj=>W.ref ((g++[wc p]).length+j))=(List.range (p::L).length).map λj=>W.ref (g.length+j):=by
   rw[length_cons,List.range_succ_eq_map,map_cons,map_map,length_append]
   congr 1
   refine map_congr_left λj _=>?_
   show W.ref (g.length+1+j)=W.ref (g.length+(j+1))
   congr 1
   omega
  rw[e1,e2];exact q
structure Wst (gx:G) (n0:Nat) (pss:List (List Str)):Prop where
 rf:gx[n0+pss.length]? = some (.rl ((List.range pss.length).map λj=>W.ref (n0+j)))
 at_:∀j ps,pss[j]? = some ps->gx[n0+j]? = some (.pl (ps.map .str))
theorem Wst.new{g:G}{L:Rw3}:Wst (g++L.map wc++[.rl ((List.range L.length).map λj=>W.ref (g.length+j))]) g.length (L.map prt):=⟨by
 rw[length_map,getElem?_append_right (by rw[length_append,length_map];omega),length_append,length_map,sub_self];rfl,λj ps h=>by
 rw[getElem?_map] at h;obtain⟨p,hp,rfl⟩:=mp h;have hj:=(List.getElem?_eq_some_iff.mp hp).1;rw[getElem?_append_left (by rw[length_append,length_map];omega),getElem?_append_right (by omega),Nat.add_sub_cancel_left,getElem?_map,hp];rfl⟩
theorem Wst.draw{b n0:Nat}{g gx:G}{pss:List (List Str)}(h:Wst g n0 pss)(hb:b<n0)(D:Dr b g gx):Wst gx n0 pss:=⟨by rw[D.kp _ (List.getElem?_eq_some_iff.mp h.rf).1 (by omega)];exact h.rf,λj ps hj=>by rw[D.kp _ (List.getElem?_eq_some_iff.mp (h.at_ j ps hj)).1 (by omega)];exact h.at_ j ps hj⟩
theorem Wst.put{n0 i:Nat}{g:G}{pss:List (List Str)}{ps':List Str}(h:Wst g n0 pss)(hi:i<pss.length):Wst (g.set (n0+i) (.pl (ps'.map .str))) n0 (pss.set i ps'):=⟨by
 rw[length_set,getElem?_set_ne (by omega)];exact h.rf,λj ps hj=>by
 have hz:=(List.getElem?_eq_some_iff.mp h.rf).1
 by_cases e:j=i
 ·subst e
  rw[getElem?_set_self hi] at hj;cases hj;exact getElem?_set_self (by omega)
 ·rw[getElem?_set_ne (Ne.symm e)] at hj
  rw[getElem?_set_ne (by omega)];exact h.at_ j ps hj⟩
theorem ZHw{n n0:Nat}{ws:List W}{g:G}(hn:g[n]? = some (.rl ws)):∀{pss:List (List Str)} {k:Nat} {Q:List PyData->G->Prop},(∀j ps,pss[j]? = some ps->g[n0+k+j]? = some (.pl (ps.map .str))/\ps.length<=1000/\∀p∈ps,p.length<=1000)->Q (pss.map λps=>.str (wdT ps)) g->EvP (ZAG n ws (.nm 0) Zs (dMt ZBZ (dC (.str "/")) (ZA (ZB 0) ZE)) [none] ((List.range pss.length).map λj=>W.ref (n0+k+j)) g) Q
 |[],k,Q,_,q=>ZO7 q
 |ps::pss,k,Q,h,q=>by
  rw [length_cons,List.range_succ_eq_map,map_cons,map_map];refine ZLN rfl ?_;refine ZG5 ?_;symm;obtain ⟨h1,h2,h3⟩:=h 0 ps rfl;refine ZNu h1 (by decide) h2 h3 ?_;refine ⟨_,rfl,hn,?_⟩;have:=ZHw (n0:=n0) (ws:=ws) hn (pss:=pss) (k:=k+1) (Q:=λ ys g2=>Q (.str (wdT ps) :: ys) g2) (λ j ps' hj=>by
   have:=h (j+1) ps' (by simpa using hj);rw[show n0+(k+1)+j=n0+k+(j+1) by omega];exact this) q
  rw[show(λj=>W.ref (n0+(k+1)+j))=((λj=>W.ref (n0+k+j)) ∘ Nat.succ) from funext λj=>by show W.ref _=W.ref _;congr 1;show _=n0+k+(j+1);omega] at this
  exact this
theorem ZJi:∀ps:List Str,ps.length<=wtR ps
 |[]=>le_refl _
 |p::ps=>by
  have:=ZJi ps;show ps.length+1<=p.length+1+wtR ps;omega
theorem ZJA:∀{ps:List Str} {p:Str},p∈ps->p.length<=wtR ps
 |a::ps,p,h=>by
  show p.length<=a.length+1+wtR ps;rcases List.mem_cons.mp h with rfl|h
  ·omega
  ·have:=ZJA h
   omega
theorem ZLd:∀{pss:List (List Str)} {ps:List Str},ps∈pss->wtR ps<=wtT pss
 |a::pss,ps,h=>by
  show wtR ps<=wtR a+1+wtT pss;rcases List.mem_cons.mp h with rfl|h
  ·omega
  ·have:=ZLd h
   omega
theorem ZGs{a b:Str}{g:G}{P:W->G->Prop}(h:a.length+b.length<=1000)(q:P (.dat (.str (a++b))) g):EvP (ZT (.dat (.str a)) (.dat (.str b)) g) P:=ZBN h (ZAx q)
theorem ZIx{n j:Nat}(h:j<n):ixN n (j:Int)=some j:=by
 unfold ixN;have h1 : ¬((j:Int)<0):=by omega
 simp[h1];omega
theorem ZHJ{dl di:DE}{x:PyData}{sd:Sd}{g:G}{Q:G->Prop}{jj:Nat}(h:EvP (dl sd g) λl g1=>∃n,l=.ref n/\EvP (di sd g1) λi g2=>i=.dat (.int (jj:Int))/\∃ds:List PyData,g2[n]? = some (.pl ds)/\jj<ds.length/\Q (g2.set n (.pl (ds.set jj x)))):∃g2,ZCC dl di (.dat x) sd g=some g2/\Q g2:=by
 obtain⟨l,g1,e1,n,rfl,i,g2,e2,rfl,ds,e3,hj,q⟩:=h;refine⟨_,?_,q⟩;unfold ZCC;rw[e1];show(di sd g1).bind _=_;rw[e2];exact ZJF e3 (ZIx hj)
theorem ZFZ:∀{ps:List Str} {j:Nat},(ps.map PyData.str).eraseIdx j=(ps.eraseIdx j).map .str
 |[],_=>rfl
 |p::ps,0=>rfl
 |p::ps,j+1=>by
  show PyData.str p::(ps.map PyData.str).eraseIdx j=PyData.str p::(ps.eraseIdx j).map .str;rw[ZFZ]
theorem ZJ1{dl di:DE}{x:PyData}{sd:Sd}{g:G}{Q:G->Prop}(h:EvP (dl sd g) λl g1=>∃n,l=.ref n/\EvP (di sd g1) λi g2=>∃j:Nat,i=.dat (.int (j:Int))/\∃ds:List PyData,g2[n]? = some (.pl ds)/\j<ds.length/\Q (g2.set n (.pl (ds.set j x)))):∃g2,ZCC dl di (.dat x) sd g=some g2/\Q g2:=by
 obtain⟨l,g1,e1,n,rfl,i,g2,e2,j,rfl,ds,e3,hj,q⟩:=h;refine⟨_,?_,q⟩;unfold ZCC;rw[e1];show(di sd g1).bind _=_;rw[e2];exact ZJF e3 (ZIx hj)
theorem ZEN{ps:List Str}{i:Nat}{a x:Str}(h:ps[i]? = some a):wtR (ps.set i x)+a.length=wtR ps+x.length:=by
 induction ps generalizing i with
 |nil=>simp at h
 |cons p ps ih =>
  cases i with
  |zero =>
   have h:p=a:=by simpa using h
   subst h;show(x.length+1+_)+p.length=(p.length+1+_)+x.length;omega
  |succ i =>
   have:=ih (i:=i) (by simpa using h);show(p.length+1+wtR (ps.set i x))+a.length=(p.length+1+wtR ps)+x.length;omega
theorem ZOu{pss:List (List Str)}{i:Nat}{a x:List Str}(h:pss[i]? = some a):wtT (pss.set i x)+wtR a=wtT pss+wtR x:=by
 induction pss generalizing i with
 |nil=>simp at h
 |cons p pss ih =>
  cases i with
  |zero =>
   have h:p=a:=by simpa using h
   subst h;show(wtR x+1+_)+wtR p=(wtR p+1+_)+wtR x;omega
  |succ i =>
   have:=ih (i:=i) (by simpa using h);show(wtR p+1+wtT (pss.set i x))+wtR a=(wtR p+1+wtT pss)+wtR x;omega
theorem ZJB{α : Type}{l:List α}{i:Nat}{x y : α}(h:y∈l.set i x):y∈l∨y=x:=List.mem_or_eq_of_mem_set h
theorem ZBe{ps:List Str}{i:Nat}{x:Str}(h:ZCb ps)(hx:GoodP x):ZCb (ps.set i x):=⟨λz=>h.1 (by
 have:=congrArg List.length z;rw[length_set] at this
 exact List.eq_nil_of_length_eq_zero this),λp hp=>by
 rcases ZJB hp with hp|rfl
 ·exact h.2 p hp
 ·exact hx⟩
theorem ZKc{pss:List (List Str)}{i:Nat}{x:List Str}(h:ZA6 pss)(hx:ZCb x):ZA6 (pss.set i x):=⟨λz=>h.1 (by
 have:=congrArg List.length z;rw[length_set] at this
 exact List.eq_nil_of_length_eq_zero this),λp hp=>by
 rcases ZJB hp with hp|rfl
 ·exact h.2 p hp
 ·exact hx⟩
theorem ZNE{ps:List Str}{i:Nat}:wtR (ps.eraseIdx i)<=wtR ps:=by
 induction ps generalizing i with
 |nil=>exact le_refl _
 |cons p ps ih =>
  cases i with
  |zero=>show wtR ps<=p.length+1+wtR ps;omega
  |succ i =>
   have:=ih (i:=i);show p.length+1+wtR (ps.eraseIdx i)<=p.length+1+wtR ps;omega
theorem ZQW{ps:List Str}{i:Nat}{x:Str}:wtR (ps.take i++x::ps.drop i)=wtR ps+(x.length+1):=by
 have e:wtR ps=wtR (ps.take i)+wtR (ps.drop i):=by rw[←ZES,List.take_append_drop]
 rw[ZES,e];show _+(x.length+1+wtR (ps.drop i))=_;omega
theorem ZNZ:∀p:List (List Nat),wtR (prt p)=(p.map λns=>(Z6 ns).length).sum+p.length
 |[]=>rfl
 |a::p=>by
  have ih:=ZNZ p;show(Z6 a).length+1+wtR (prt p)=((Z6 a).length+(p.map λns=>(Z6 ns).length).sum)+(p.length+1);omega
theorem ZMc{L:Rw3}(h0:L≠[])(h:∀p∈L,Row5 p):ZA6 (L.map prt)/\wtT (L.map prt)<=105*L.length/\∀ps∈L.map prt,ps.length=4:=by
 have one:∀p∈L,ZCb (prt p)/\wtR (prt p)<=104/\(prt p).length=4:=λp hp=>by
  have hp:=h p hp;have hl:(prt p).length=4:=by unfold prt;rw[length_map];exact hp.len
  refine⟨⟨(λz=>by rw[z] at hl;cases hl),λs hs=>?_⟩,?_,hl⟩
  ·obtain⟨ns,hn,rfl⟩:=List.mem_map.mp hs
   exact ZKo (hp.few ns hn)
  ·have hs:=hp.sum
   have:wtR (prt p)=(p.map λns=>(Z6 ns).length).sum+p.length:=ZNZ p;rw[this,hp.len];omega
 refine⟨⟨λz=>h0 (List.map_eq_nil_iff.mp z),λps hps=>?_⟩,?_,λps hps=>?_⟩
 ·obtain⟨p,hp,rfl⟩:=List.mem_map.mp hps
  exact(one p hp).1
 ·clear h0 h
  induction L with
  |nil=>exact zero_le _
  |cons p L ih =>
   have h1:=(one p (mem_cons_self ..)).2.1;have h2:=ih λx hx=>one x (mem_cons_of_mem _ hx)
   show wtR (prt p)+1+wtT (L.map prt)<=105*(L.length+1);omega
 ·obtain⟨p,hp,rfl⟩:=List.mem_map.mp hps
  exact(one p hp).2.2
noncomputable def Spo(d:PyData):Prop:=(∃pss,ZA6 pss/\wtT pss<=490/\d=.str (txT pss))∨d=.str (Str.ofString "")∨isi (ZM3 d) "str" = false
theorem Dr.apps{b:Nat}{g:G}:∀{gx:G} (_:Dr b g gx) (l:List Cell),Dr b g (gx++l)
 |gx,h,[]=>by rw[append_nil];exact h
 |gx,h,c::l=>by
  have:=Dr.apps (h.app (c:=c)) l;rw[append_assoc] at this
  exact this
theorem ZK1{b:Nat}{L:Rw3}{g:G}{P:W->G->Prop}(hb:Bx g b)(h0:L≠[])(h4:L.length<=4)(hL:∀p∈L,Row5 p)(q:∀d g',Spo d->Dr b g g'->P (.dat d) g'):EvP (Zf [.ref b,.dat (.tuple (L.map doN))] g) P:=by
 have hbl:=hb.lt;obtain⟨hG,hW,hF⟩:=ZMc h0 hL;have hk : 0<L.length:=List.length_pos_iff.mpr h0;refine ZEq ?_;refine ZNa (ZNS (ZJN ?_));symm;refine⟨by rw[length_map];omega,?_⟩;refine ZHp rfl hL ?_;have W0:Wst (g++L.map wc++[.rl ((List.range L.length).map λj=>W.ref (g.length+j))]) g.length (L.map prt):=Wst.new;have D0:Dr b g (g++L.map wc++[.rl ((List.range L.length).map λj=>W.ref (g.length+j))]):=(Dr.apps (Dr.refl hb) _).app;have lx:(g++L.map wc).length=g.length+L.length:=by rw[length_append,length_map]
 rw[lx]
 generalize (g++L.map wc++[.rl ((List.range L.length).map λj=>W.ref (g.length+j))])=ga at *
 generalize hP:L.map prt=pss at *
 have hpl:pss.length=L.length:=by rw[←hP,length_map]
 have r0:=W0.rf;rw[hpl] at r0;symm;refine ZOj r0 ?_;rw[length_map,length_range];symm;refine ZAB D0.bx (by omega) (by omega) λat_ g1 l1 u1 D1=>?_
 obtain⟨i,rfl⟩:=Int.eq_ofNat_of_zero_le l1;have hi:i<pss.length:=by omega
 symm;refine ZAB D1.bx (by decide) (by decide) λpl g2 l2 u2 D2=>?_
 obtain⟨j,rfl⟩:=Int.eq_ofNat_of_zero_le l2;symm;refine ZAB D2.bx (by decide) (by decide) λot g3 l3 u3 D3=>?_
 obtain⟨k,rfl⟩:=Int.eq_ofNat_of_zero_le l3;symm;refine⟨_,_,_,rfl,?_⟩;symm;refine ZAB D3.bx (by decide) (by decide) λod g4 l4 u4 D4=>?_
 symm;refine ZG0 (xs:=ODD.map .str) l4 u4 λx hx=>?_
 obtain⟨o,ho,rfl⟩:=List.mem_map.mp hx;obtain⟨go,lo⟩:=ZRv o ho;symm;refine ZAB D4.bx (by decide) (by decide) λwy g5 l5 u5 D5=>?_
 have DA:=(((D0.trans D1).trans D2).trans D3).trans D4 |>.trans D5
 have WA:=((((W0.draw hbl D1).draw hbl D2).draw hbl D3).draw hbl D4).draw hbl D5;have fin:∀(ps2:List (List Str)) (z6 z7 z9:Option W) (gx:G),Wst gx g.length ps2->ps2.length=L.length->Dr b g gx->ZA6 ps2->wtT ps2<=470->EvS ((ZR (Zo 10 (dMt ZBZ (dC (.str " ")) (ZA (ZB2 1 [] (.nm 0) (iRl (ZB 2)) Zs (dMt ZBZ (dC (.str "/")) (ZA (ZB 0) ZE))) ZE))) (ZR (ZAM (dB (dOp ZIb (ZB 8) (dC (.int 7)))) (ZQ (ZB 10)) dNx) (ZQ (dOp Za (dF ZDy (ZA (dOp ZT (ZB 10) (dC (.str " "))) (ZA (dOp ZT (dC (.str " ")) (ZB 10)) (ZA (dOp ZT (ZB 10) (dC (.str "\n"))) (ZA (dOp ZT (ZB 10) (dC (.str "/"))) (ZCi (dC (.str "")) (ZA (dC (.str " ")) (ZA (dC .none) (ZA (dC (.int 5)) (ZA (dF ZDy (ZA (ZB 10) ZE)) (ZA (ZF2 " " "  " (ZB 10)) ZE))))))))))) (dF ZH (ZA (ZB 0) (ZA (dC (.int 10)) ZE))))))) [some (.ref b),some (.dat (.tuple (L.map doN))),some (.ref (g.length+L.length)),some (.dat (.int (i:Int))),some (.dat (.int (j:Int))),some (.dat (.int (k:Int))),z6,z7,some (.dat (.int wy)),z9,none] gx) (runP P):=by
  intro ps2 z6 z7 z9 gx hw hl2 DX hg hwt;have rX:=hw.rf;rw[hl2] at rX;obtain⟨tk1,tk2,_⟩:=ZPs hg (by omega);have hmem:∀ps∈ps2,wtR ps<=470:=λps hp=>le_trans (ZLd hp) hwt
  refine ZNa (ZNS (ZG5 ?_));symm;refine ZOK ?_;symm;refine⟨_,rX,by rw[length_map,length_range];omega,?_⟩;rw[←hl2];rw[←hl2] at rX;refine ZHw (n0:=g.length) (k:=0) rX (λj ps hj=>⟨hw.at_ j ps hj,?_,λp hp=>?_⟩) ?_
  ·have:=hmem ps (mem_of_getElem? hj)
   have:=ZJi ps;omega
  ·have:=hmem ps (mem_of_getElem? hj)
   have:=ZJA hp;omega
  symm;refine ZIF (ss:=ps2.map wdT) (by rw [map_map]; rfl) (by decide) (by rw [length_map]; omega) (λ x hx=>by
   obtain⟨ps,hp,rfl⟩:=List.mem_map.mp hx;have:=hmem ps hp;have:=ZMd ps;omega) ?_
  symm;refine⟨λz=>?_,λz=>?_⟩
  ·symm
   exact q _ gx (.inl ⟨ps2,hg,by omega,rfl⟩) DX
  ·symm
   have hT:(Txt.join (Str.ofString " ") (ps2.map wdT))=txT ps2:=rfl;rw[hT];refine ZGs (by show(txT ps2).length+1<=1000;omega) ?_;symm;refine ZGs (by show 1+(txT ps2).length<=1000;omega) ?_;symm;refine ZGs (by show(txT ps2).length+1<=1000;omega) ?_;symm;refine ZGs (by show(txT ps2).length+1<=1000;omega) ?_;symm;unfold ZCi;symm;refine ZSC ?_;symm;refine⟨by omega,?_⟩;symm;refine ZAB DX.bx (by decide) (by decide) λpk g6 l6 u6 D6=>?_
   symm;refine ZG0 (xs:=[.str (txT ps2++Str.ofString " "),.str (Str.ofString " "++txT ps2),.str (txT ps2++Str.ofString "\n"),.str (txT ps2++Str.ofString "/"),.str (Str.ofString ""),.str (Str.ofString " "),.none,.int 5,.list [.str (txT ps2)],.str (Txt.replace (txT ps2) (Str.ofString " ") (Str.ofString "  "))]) l6 u6 λx hx=>?_
   refine .rt (q x g6 ?_ (DX.trans D6));obtain⟨A,B,e1⟩:=ZCj hg.1;have gB:ZCb B:=hg.2 B (by rw[e1];simp);obtain⟨C,p,e2⟩:=ZCj gB.1;have gp:GoodP p:=gB.2 p (by rw[e2];simp);simp only[mem_cons,not_mem_nil,or_false] at hx;rcases hx with rfl|rfl|rfl|rfl|rfl|rfl|rfl|rfl|rfl|rfl
   ·obtain⟨h1,h2⟩:=ZIj hg
    exact .inl ⟨_,h1,by omega,by rw[ZOP hg.1]⟩
   ·obtain⟨h1,h2⟩:=ZKL hg
    exact .inl ⟨_,h1,by omega,by rw[ZRu hg.1]⟩
   ·refine .inl ⟨A++[C++[p++Str.ofString "\n"]],⟨by simp,λps hp=>?_⟩,?_,by rw[e1,e2,v_end]⟩
    ·rcases List.mem_append.mp hp with hp|hp
     ·exact hg.2 ps (by rw[e1];exact mem_append_left _ hp)
     ·rw[List.mem_singleton.mp hp]
      refine⟨by simp,λs hs=>?_⟩;rcases List.mem_append.mp hs with hs|hs
      ·exact gB.2 s (by rw[e2];exact mem_append_left _ hs)
      ·rw[List.mem_singleton.mp hs];exact ZOW gp
    ·have w1:wtT ps2=wtT A+(wtR C+(p.length+1+0)+1+0):=by rw[e1,e2,ZDb];show wtT A+(wtR (C++[p])+1+0)=_;rw[ZES];rfl
     have w2:wtT (A++[C++[p++Str.ofString "\n"]])=wtT A+(wtR C+((p++Str.ofString "\n").length+1+0)+1+0):=by rw[ZDb];show wtT A+(wtR (C++[p++Str.ofString "\n"])+1+0)=_;rw[ZES];rfl
     have w3:(p++Str.ofString "\n").length=p.length+1:=by show(p.cps++#[10]).size=p.cps.size+1;rw[Array.size_append];rfl
     omega
   ·refine .inl ⟨A++[B++[Str.ofString ""]],⟨by simp,λps hp=>?_⟩,?_,by rw[e1,v_bar gB.1]⟩
    ·rcases List.mem_append.mp hp with hp|hp
     ·exact hg.2 ps (by rw[e1];exact mem_append_left _ hp)
     ·rw[List.mem_singleton.mp hp]
      refine⟨by simp,λs hs=>?_⟩;rcases List.mem_append.mp hs with hs|hs
      ·exact gB.2 s hs
      ·rw[List.mem_singleton.mp hs];exact ZNf
    ·have w1:wtT ps2=wtT A+(wtR B+1+0):=by rw[e1,ZDb];rfl
     have w2:wtT (A++[B++[Str.ofString ""]])=wtT A+(wtR B+1+1+0):=by rw[ZDb];show wtT A+(wtR (B++[Str.ofString ""])+1+0)=_;rw[ZES];rfl
     omega
   ·exact .inr (.inl rfl)
   ·exact .inl ⟨[[Str.ofString ""],[Str.ofString ""]],⟨by simp,λps hp=>by
     simp only[mem_cons,not_mem_nil,or_false] at hp;rcases hp with rfl|rfl <;> exact ZGv⟩,by decide,congrArg PyData.str (by decide +kernel)⟩
   ·exact .inr (.inr rfl)
   ·exact .inr (.inr rfl)
   ·exact .inr (.inr rfl)
   ·obtain⟨h1,h2⟩:=ZHl hg
    exact .inl ⟨_,h1,by omega,by rw[v_rep hg]⟩
 symm;have atp:=WA.at_ i;obtain⟨ps,hps⟩:∃ps,pss[i]? = some ps:=⟨pss[i],getElem?_eq_getElem hi⟩;have cel:=WA.at_ i ps hps;have rA:=WA.rf;rw[hpl] at rA;have hp4:ps.length=4:=hF ps (mem_of_getElem? hps);have gps:ZCb ps:=hG.2 ps (mem_of_getElem? hps);have hat:atI ((List.range L.length).map λj=>W.ref (g.length+j)) (i:Int)=some (.ref (g.length+i)):=ZBp (by rw[getElem?_map,List.getElem?_range (by omega)];rfl);have hw0:wtT pss<=420:=by omega
 have hgl:g.length+i<g5.length:=(List.getElem?_eq_some_iff.mp cel).1;have done:∀(ps':List Str) (z6 z7 z9:Option W),ZCb ps'->wtR ps'<=wtR ps+50->EvS ((ZR (Zo 10 (dMt ZBZ (dC (.str " ")) (ZA (ZB2 1 [] (.nm 0) (iRl (ZB 2)) Zs (dMt ZBZ (dC (.str "/")) (ZA (ZB 0) ZE))) ZE))) (ZR (ZAM (dB (dOp ZIb (ZB 8) (dC (.int 7)))) (ZQ (ZB 10)) dNx) (ZQ (dOp Za (dF ZDy (ZA (dOp ZT (ZB 10) (dC (.str " "))) (ZA (dOp ZT (dC (.str " ")) (ZB 10)) (ZA (dOp ZT (ZB 10) (dC (.str "\n"))) (ZA (dOp ZT (ZB 10) (dC (.str "/"))) (ZCi (dC (.str "")) (ZA (dC (.str " ")) (ZA (dC .none) (ZA (dC (.int 5)) (ZA (dF ZDy (ZA (ZB 10) ZE)) (ZA (ZF2 " " "  " (ZB 10)) ZE))))))))))) (dF ZH (ZA (ZB 0) (ZA (dC (.int 10)) ZE))))))) [some (.ref b),some (.dat (.tuple (L.map doN))),some (.ref (g.length+L.length)),some (.dat (.int (i:Int))),some (.dat (.int (j:Int))),some (.dat (.int (k:Int))),z6,z7,some (.dat (.int wy)),z9,none] (g5.set (g.length+i) (.pl (ps'.map .str)))) (runP P):=λps' z6 z7 z9 hg' hw'=>by
  have:=ZOu (x:=ps') hps;exact fin (pss.set i ps') z6 z7 z9 _ (WA.put hi) (by rw[length_set];exact hpl) (DA.put hbl (by omega)) (ZKc hG hg') (by omega)
 have hss:∀X Y:Cell,(g5.set (g.length+i) X).set (g.length+i) Y=g5.set (g.length+i) Y:=λX Y=>by rw[set_set]
 refine⟨λz=>?_,λz=>?_⟩
 ·symm
  refine ZAT rA hat ?_;symm;refine⟨_,cel,j,ZIx (by rw[length_map];omega),.nx ?_⟩;rw[show(ps.map PyData.str).set j (.str o)=(ps.set j o).map .str by rw[map_set]];have:=ZEN (x:=o) (getElem?_eq_getElem (show j<ps.length by omega));exact done (ps.set j o) _ _ _ (ZBe gps go) (by omega)
 symm;rw[ZAW];refine⟨λz3=>?_,λz3=>?_⟩
 ·symm
  refine ZR2 ?_;symm;refine ZAT rA hat ?_;symm;refine⟨_,cel,by rw[length_map];omega,by rw[length_map];omega,λy hy=>.nx ?_⟩;rw[ZFZ];refine done (ps.eraseIdx j) _ _ _ ⟨λz=>?_,λp hp=>gps.2 p (List.mem_of_mem_eraseIdx hp)⟩ (le_trans ZNE (by omega));have:=congrArg List.length z;rw[List.length_eraseIdx_of_lt (by omega)] at this
  rw[hp4] at this
  cases this
 symm;rw[ZAW];refine⟨λz4=>?_,λz4=>?_⟩
 ·symm
  refine ZAT rA hat ?_;symm;refine⟨_,cel,⟨⟨by omega,by rw[length_map];omega⟩,by rw[length_map];omega⟩,.nx ?_⟩;rw[toNat_natCast,show(ps.map PyData.str).take j++.str o::(ps.map PyData.str).drop j=(ps.take j++o::ps.drop j).map .str by rw[map_append,map_cons,List.map_take,List.map_drop]];refine done (ps.take j++o::ps.drop j) _ _ _ ⟨by simp,λp hp=>?_⟩ (by rw[ZQW];omega);rcases List.mem_append.mp hp with hp|hp
  ·exact gps.2 p (List.mem_of_mem_take hp)
  ·rcases List.mem_cons.mp hp with rfl|hp
   ·exact go
   ·exact gps.2 p (List.mem_of_mem_drop hp)
 symm;rw[ZAW];refine⟨λz5=>?_,λz5=>?_⟩
 ·obtain⟨a,ea⟩:∃a,ps[j]? = some a:=⟨ps[j],getElem?_eq_getElem (by omega)⟩
  obtain⟨c,ec⟩:∃a,ps[k]? = some a:=⟨ps[k],getElem?_eq_getElem (by omega)⟩;have ga:=gps.2 a (mem_of_getElem? ea);have gc:=gps.2 c (mem_of_getElem? ec);have i1:atI (ps.map PyData.str) (j:Int)=some (.str a):=ZBp (by rw[getElem?_map,ea];rfl);have i2:atI (ps.map PyData.str) (k:Int)=some (.str c):=ZBp (by rw[getElem?_map,ec];rfl);symm;refine ZAT rA hat ?_;symm;refine ZB9 cel i1 ?_;symm;refine ZAT rA hat ?_;symm;refine ZB9 cel i2 ?_;symm;refine⟨_,_,rfl,?_⟩;symm;refine ZMz ?_;symm;refine⟨_,_,rfl,ZJ1 ?_⟩;symm;refine ZAT rA hat ?_;symm;refine⟨_,cel,by rw[length_map];omega,ZJ1 ?_⟩;rw[show(ps.map PyData.str).set j (.str c)=(ps.set j c).map .str by rw[map_set]];have WB:=WA.put (ps':=ps.set j c) hi;have rB:=WB.rf;rw[length_set,hpl] at rB;have cB:=WB.at_ i (ps.set j c) (getElem?_set_self hi);symm;refine ZAT rB hat ?_;symm;refine⟨_,cB,by rw[length_map,length_set];omega,.nx ?_⟩;rw[hss,show((ps.set j c).map PyData.str).set k (.str a)=((ps.set j c).set k a).map .str from List.map_set.symm];have h1:=ZEN (x:=c) ea;have hx:(ps.set j c)[k]? = some c:=by
   by_cases e:k=j
   ·subst e;exact getElem?_set_self (by omega)
   ·rw[getElem?_set_ne (Ne.symm e)];exact ec
  have h2:=ZEN (x:=a) hx;exact done ((ps.set j c).set k a) _ _ _ (ZBe (ZBe gps gc) ga) (by omega)
 symm;rw[ZAW];refine⟨λz6=>?_,λz6=>?_⟩
 ·obtain⟨jj,ej,j3⟩:∃jj:Nat,(1+(j:Int) % 3)=(jj:Int)/\jj<4:=⟨1+j % 3,by omega,by omega⟩
  obtain⟨kk,ek,k3⟩:∃kk:Nat,(1+(k:Int) % 3)=(kk:Int)/\kk<4:=⟨1+k % 3,by omega,by omega⟩;have gA:GoodP (Str.ofString "2.4"):=ZEA (by decide +kernel);have gB:GoodP (Str.ofString "4.5"):=ZEA (by decide +kernel);have lA:(Str.ofString "2.4").length=3:=rfl;have lB:(Str.ofString "4.5").length=3:=rfl;refine ZMz ?_;symm
  generalize Str.ofString "2.4" = sA at gA lA ⊢
  generalize Str.ofString "4.5" = sB at gB lB ⊢
  refine⟨_,_,rfl,ZHJ (jj:=jj) ?_⟩;symm;refine ZAT rA hat ?_;symm;refine⟨congrArg (λz=>W.dat (.int z)) ej,_,cel,by rw[length_map];omega,ZHJ (jj:=kk) ?_⟩;rw[show(ps.map PyData.str).set jj (.str sA)=(ps.set jj sA).map .str by rw[map_set]];have WB:=WA.put (ps':=ps.set jj sA) hi;have rB:=WB.rf;rw[length_set,hpl] at rB;have cB:=WB.at_ i (ps.set jj sA) (getElem?_set_self hi);symm;refine ZAT rB hat ?_;symm;refine⟨congrArg (λz=>W.dat (.int z)) ek,_,cB,by rw[length_map,length_set];omega,.nx ?_⟩;rw[hss,show((ps.set jj sA).map PyData.str).set kk (.str sB)=((ps.set jj sA).set kk sB).map .str from List.map_set.symm];obtain⟨a,ea⟩:∃a,ps[jj]? = some a:=⟨ps[jj],getElem?_eq_getElem (by omega)⟩;obtain⟨c,ec⟩:∃a,(ps.set jj sA)[kk]? = some a:=⟨(ps.set jj sA)[kk]'(by rw[length_set];omega),getElem?_eq_getElem (by rw[length_set];omega)⟩;have h1:=ZEN (x:=sA) ea;have h2:=ZEN (x:=sB) ec;exact done ((ps.set jj sA).set kk sB) _ _ _ (ZBe (ZBe gps gA) gB) (by omega)
 exact⟨_,rfl,.nx (fin pss _ _ _ g5 WA hpl DA hG (by omega))⟩
theorem ZRk{d:PyData}{g:G}{P:W->G->Prop}(h:Spo d)(q:∀l,P (.dat (.bool true)) (g++l)):EvP (ZP [.dat d] g) P:=by
 rcases h with ⟨pss,h1,h2,rfl⟩|rfl|h
 ·exact ZKF h1 h2 λc=>q [c]
 ·refine ZCJ ⟨by decide,ZAc _⟩ (by decide) (λw hw p hp=>?_) λc=>q [c]
  rw[show Txt.split (Str.ofString "") sp=[Str.ofString ""] by decide +kernel] at hw;rw[List.mem_singleton.mp hw,show Txt.split (Str.ofString "") sl=[Str.ofString ""] by decide +kernel] at hp;rw[List.mem_singleton.mp hp];exact ZNf.few
 ·refine ZMR h ?_
  have:=q [];rw[append_nil] at this
  exact this
noncomputable def fewB(t:Str):Bool:=(Txt.split t sp).all λw=>(Txt.split w sl).all λp=>decide ((Txt.split p dot).length<=17)
theorem ZIR{t:Str}(h:fewB t=true):ZLW t:=λw hw p hp=>of_decide_eq_true (List.all_eq_true.mp (List.all_eq_true.mp h w hw) p hp)
theorem ZQs{ns:List Int}(hns:ns.length<=63):∃g',ZER [.inp ns] []=some (.dat (.bool true),g'):=by
 suffices h:EvP (ZER [.inp ns] []) λx _=>x=.dat (.bool true) by
  obtain⟨x,g',e,rfl⟩:=h;exact⟨g',e⟩
 refine ZRw ?_;symm;refine ZFE (j:=0) (g1:=[]) ?_;symm;have hm : 0<=(1:Int)+(if (ns.length:Int)<16 then (ns.length:Int) else 16)/\(1:Int)+(if (ns.length:Int)<16 then (ns.length:Int) else 16)<=64:=by split <;> omega
 generalize (1:Int)+(if (ns.length:Int)<16 then (ns.length:Int) else 16)=len at *
 refine⟨by omega,?_⟩;refine ZDH (λn sd gx=>∃z1 z2 z3 z4,sd=[some (.inp ns),z1,z2,z3,z4]) ⟨_,_,_,_,rfl⟩ ?_ ?_
 ·rintro n x sd g0 hx ⟨z1,z2,z3,z4,rfl⟩
  have hn:n<64:=by
   have:=(List.getElem?_eq_some_iff.mp hx).1;rw[ZBw] at this
   omega
  rw[ZJv,getElem?_map] at hx;obtain⟨k,hk,rfl⟩:=mp hx;obtain⟨hk1,hk2⟩:=List.getElem?_eq_some_iff.mp hk;rw[List.getElem_range] at hk2;subst hk2;refine⟨_,rfl,?_⟩;symm
  generalize hb:List.length g0=b
  refine ZQq (by omega) λg1 hl1 hg1 B1=>?_
  rw[hb] at B1;rw[hb];symm;refine ZFE (j:=0) (g1:=[]) ?_;symm;refine ZAB B1 (by decide) (by decide) λd2 g3 l2 u2 D3=>?_
  symm;refine⟨by omega,by rw[ZBw];omega,?_⟩;refine ZLa (λgx=>Bx gx b) (λi acc=>∃L:Rw3,acc=L.map doN/\L.length=i/\∀p∈L,Row5 p) D3.bx ⟨[],rfl,rfl,λp hp=>by cases hp⟩ ?_ ?_
  ·rintro i x gx acc hx Dx ⟨L,rfl,rfl,hL⟩
   refine⟨_,rfl,true,gx,rfl,λ_=>?_,(λz=>by cases z)⟩;symm;refine ZKJ Dx λp g4 R D4=>?_
   symm;refine⟨trivial,D4.bx,L++[p],by rw[map_append];rfl,by rw[length_append];rfl,λp' hp=>?_⟩;rcases List.mem_append.mp hp with hp|hp
   ·exact hL p' hp
   ·rw[List.mem_singleton.mp hp];exact R
  rintro acc g4 B4 ⟨L,rfl,hLl,hL⟩
  rw[ZBw] at hLl;have hL0:L≠[]:=λz=>by
   rw[z] at hLl;have hLl : 0=_:=hLl;omega
  have hL4:L.length<=4:=by rw[hLl];omega
  symm;refine ZDH (λj sd gy=>Bx gy b/\∃z4,sd=[some (.inp ns),some (.dat (.int (n:Int))),some (.ref b),some (.dat (.tuple (L.map doN))),z4]) ⟨B4,_,rfl⟩ ?_ ?_
  ·rintro j y sd gy hy ⟨By,z4,rfl⟩
   refine⟨_,by rw[ZW],?_⟩;symm;refine ZK1 By hL0 hL4 hL λd g5 hO D5=>?_
   symm;refine ZRk hO λl=>?_
   symm;refine⟨λz=>(by cases z),λ_=>?_⟩;symm;exact⟨trivial,(Dr.apps D5 l).bx,_,rfl⟩
  ·rintro sd gy ⟨_,z4,rfl⟩
   exact⟨trivial,_,_,_,_,rfl⟩
 ·rintro sd gx ⟨z1,z2,z3,z4,rfl⟩
  symm;refine ZCJ ⟨by decide,ZAc _⟩ (by decide) (ZIR (by decide +kernel)) λc1=>?_
  symm;refine bT ?_;symm;refine ZCJ ⟨by decide,ZAc _⟩ (by decide) (ZIR (by decide +kernel)) λc2=>?_
  symm;refine bT ?_;symm;refine ZCJ ⟨by decide,ZAc _⟩ (by decide) (ZIR (by decide +kernel)) λc3=>?_
  symm;rfl
local macro_rules
 | `(tactic| left) => `(tactic| (intro _ _ _ _ _ _ _; cases ‹Txt _ _ _›; repeat' (first | ((with_reducible show JE _ _ _); first | (with_reducible refine ZQL ?_) | ((with_reducible show JE _ (.Name _ _) _); first | refine ZJ _ | exact ZKA rfl ‹_› | exact ZFd rfl ‹_› | refine ZL5 rfl ‹_› (by first | exact boot_int | exact boot_bool | exact boot_tuple | exact boot_str | exact boot_list | exact boot_dict)) | ((with_reducible show JE _ (.Constant _ _ _) _); first | exact ZJo | exact ZAV | exact ZLM | exact ZC5) | ((with_reducible show JE _ (.Subscript _ _ _) _); first | refine ZIS oIx ?_ ?_ (λ _ _ => rfl) | refine ZIS oIxD ?_ ?_ (λ _ _ => rfl) | refine ZIS oIxT ?_ ?_ (λ _ _ => rfl) | refine ZQx ?_ ?_ ?_) | ((with_reducible show JE _ (.BinOp _ _ _ _) _); first | refine ZL7 ?_ ?_ ?_ | exact ZPS ⟨by decide, by decide, by decide⟩ (by decide +kernel)) | ((with_reducible show JE _ (.Compare _ _ _ _) _); first | refine ZGX ?_ ?_ ?_ (by first | exact ZCB _ | with_unfolding_all rfl)) | ((with_reducible show JE _ (.Call (.Name _ _) _ _ _) _); first | ((with_reducible show JE _ _ (dF (f1 _) _)); first | refine ZEp (by first | exact ZSR | exact ZPZ | exact cStr | exact ZPI | exact cLis) rfl ‹_› (by first | exact boot_int | exact boot_str | exact boot_tuple | exact boot_list | exact boot_dict) ?_ | refine ZAR (by first | exact ZRG | exact cLenS | exact cAbs | exact ZSN rfl | exact cAny2 rfl | exact cSrtD rfl | exact ZLj (Room.units ‹_›) (Room.gd ‹_›)) rfl ‹_› (by first | exact boot_len | exact boot_abs | exact boot_all | exact boot_any | exact boot_sorted | exact boot_repr | exact boot_sum | exact boot_min) ?_) | refine ZBd ‹_› ‹_› (by exact Room.mono ‹_› (by decide)) ?_ (by repeat constructor) | refine ZAR (by first | exact cMin rfl | exact ZSL) rfl ‹_› (by first | exact boot_min | exact boot_max | exact boot_isinstance) ?_ | refine ZQf rfl rfl ‹_› rfl ‹_› ?_) | ((with_reducible show JE _ (.Tuple _ _ _) _); first | refine ZEC ?_ | refine ZMV ?_) | ((with_reducible show JE _ (.BoolOp _ _ _) _); first | refine ZJm ?_ ?_ | refine ZQt ?_ ?_ | refine ZJY ?_) | ((with_reducible show JE _ (.List _ _) _); first | refine ZOX ?_ | refine ZL1 ?_ | refine ZKu ?_) | ((with_reducible show JE _ (.ListComp _ _ _ _) _); first | ((with_reducible first | show JE _ (.ListComp _ _ ⟨_, _ :: (_, .cell) :: _, _, _, _⟩ _) _ | show JE _ (.ListComp _ _ ⟨_, _ :: _ :: (_, .cell) :: _, _, _, _⟩ _) _ | show JE _ (.ListComp _ _ ⟨_, _ :: _ :: _ :: (_, .cell) :: _, _, _, _⟩ _) _); refine jde_compK rfl ?_ ?_ (by kernel_rfl) rfl) | refine ZKb rfl ?_ ?_ (by kernel_rfl) rfl | refine ZIT rfl ?_ ?_ (by kernel_rfl) rfl | refine ZIU rfl ?_ ?_ (by kernel_rfl) rfl) | refine ZJW ?_ | refine ZO9 ?_ | refine ZQA ?_ ?_ ?_ | exact ZNB | refine ZPH ?_ ?_ | refine ZPC ?_ ?_ ?_ | refine ZL3 ?_ ?_ | refine ZLX ?_ ?_ | refine ZMA ?_ ?_ | refine ZCO ?_ ?_) | ((with_reducible show JA _ _ _); first | ((with_reducible show JA _ _ (ZCi _ _)); refine ZK4 ?_) | refine ZI ?_ ?_ | exact ZL) | ((with_reducible show JAT _ _ _); first | (refine ZLV ?_ ?_ (by decide) (by decide)) | refine ZNj ?_ ?_ | exact ZPA) | ((with_reducible show OpR _ _ _); first | exact ZSK | exact oEq (Room.units ‹_›) | exact oMul | exact oMod | exact oFdiv | exact oNe (Room.units ‹_›) | exact oLt (Room.units ‹_›) | exact oLe | exact oGt (Room.units ‹_›) | exact oGe (Room.units ‹_›) | exact oIn (Room.units ‹_›) | exact oInT (Room.units ‹_›) | exact ZLA (Room.units ‹_›) | exact ZOe (Room.units ‹_›) | exact ZSO | exact ZJJ | exact ZSZ) | ((with_reducible show JT _ _ _); first | refine ZBl ?_ | refine ZCy ?_ ?_ ?_ (by first | exact ZCB _ | with_unfolding_all rfl) | refine JW.pt (ZGA ?_ ?_) | refine JW.pt (ZIE ?_ ?_) | refine ZKZ ?_ ?_ ?_ ?_ ?_ | refine ZBC ?_) | ((with_reducible show JSs _ _ _); first | refine ZAs ?_ ?_ | refine ZBf ?_ | exact ZC0) | ((with_reducible show JS _ _ _); first | ((with_reducible show JS _ _ (Zo _ _)); first | refine ZEG (by first | assumption | exact of_decide_eq_true (by kernel_rfl)) rfl (by first | exact Or.inl rfl | exact Or.inr rfl) ?_ | ((with_reducible first | show JS _ (.Assign _ (.ListComp _ _ ⟨_, _ :: (_, .cell) :: _, _, _, _⟩ _) _) _ | show JS _ (.Assign _ (.ListComp _ _ ⟨_, _ :: _ :: (_, .cell) :: _, _, _, _⟩ _) _) _ | show JS _ (.Assign _ (.ListComp _ _ ⟨_, _ :: _ :: _ :: (_, .cell) :: _, _, _, _⟩ _) _) _); refine' jds_setCK ?nd rfl ?lo rfl ?_ ?_ (by kernel_rfl) rfl; (case nd => first | assumption | exact of_decide_eq_true (by kernel_rfl)); (case lo => first | exact Or.inl rfl | exact Or.inr rfl)) | refine ZKB (by first | assumption | exact of_decide_eq_true (by kernel_rfl)) rfl (by first | exact Or.inl rfl | exact Or.inr rfl) rfl ?_ ?_ (by kernel_rfl) rfl | refine ZH4 (by first | assumption | exact of_decide_eq_true (by kernel_rfl)) rfl (by first | exact Or.inl rfl | exact Or.inr rfl) rfl ?_ ?_ (by kernel_rfl) rfl) | ((with_reducible show JS _ _ (ZH6 _ _)); first | refine ZEI ?_ ?_ | refine ZEI (hs := by kernel_rfl) (hw := by kernel_rfl) ?_ ?_) | refine ZBz ?_ | refine ZGl ?_ ?_ ?_ | refine ZNI ?_ | refine ZNy PassesOwn.never rfl ?_ ?_ ?_ | refine ZOw ?_ ?_ ?_ | refine ZLL ?_ ?_ ?_ | refine ZOT rfl ‹_› rfl rfl (by decide) rfl rfl ?_ (by kernel_rfl) (by kernel_rfl) | refine ZLu rfl ‹_› rfl rfl rfl rfl rfl rfl ?_ (by kernel_rfl) (by kernel_rfl) | ((with_reducible show JS _ _ (ZFl _ _ _ _ _)); refine ZNC rfl ?_ ?_ ?_ ?_ ?_)) | refine ZA3 (by first | assumption | exact of_decide_eq_true (by kernel_rfl)) rfl (by first | exact Or.inl rfl | exact Or.inr rfl) | refine ZIs rfl ?_ | refine ZA1 ?_ ?_ | exact ZGu | refine ZGA ?_ ?_ | refine ZIE ?_ ?_ | refine ZHR ?_ | refine ZJf ?_ | exact ZHP | exact ZLJ | refine ZMn ?_ | refine ZIp rfl ‹_› ?_ (hn := (by repeat constructor)) | refine ZOV rfl ‹_› ?_ (hn := (by repeat constructor)) | refine ZP7 ?_ | refine ZO8 ?_ | refine ZDA ?_ | (intro _ _ _ _ _; refine ⟨?_, ?_, ?_⟩))))
local macro_rules
 | `(tactic| right) => `(tactic| first | exact ⟨rfl, rfl, rfl, by decide +kernel, rfl, by decide +kernel, by decide +kernel⟩ | exact (λ _ _ _ _ _ _ => ZSY (by intros; rfl)) | exact (λ _ _ _ _ _ _ => len3 (by intros; rfl)) | exact (λ _ _ _ _ _ _ => len4 (by intros; rfl)) | exact (λ _ _ _ _ _ _ => len5 (by intros; rfl)) | exact (λ _ _ _ _ _ _ => ZSQ (by intros; rfl)) | exact (λ _ _ _ _ _ _ => len6 (by intros; rfl)) | exact (λ _ _ _ _ _ _ => len7 (by intros; rfl)) | exact (λ _ _ _ _ _ _ us e => by cases us with | nil => rfl | cons _ _ => cases e))
section
variable{P:Program}{w:World}{K:PySem.W.Frag}{mg:Str->Option Value}{base:Heap}{A:Adr}
theorem ZE2:FnScope ["thing"] ZBs (ZF (top 1)):=by right
theorem ZEM:FnScope ["thing"] ZBo (ZF (top 2)):=by right
theorem ZJb:FnScope ["things"] ZEB (ZF (top 3)):=by right
theorem ZDL:FnScope ["thing"] ZAl (ZF (top 5)):=by right
theorem ZDm:FnScope ["some","others"] ZBB (ZF (top 6)):=by right
theorem ZDn:FnScope ["text"] ZBK (ZF (top 20)):=by right
theorem ZFH:FnScope ["text"] ZAA (ZF (top 19)):=by right
theorem ZEz:FnScope ["text","between"] Zz (ZF (top 18)):=by right
theorem Zg:FnScope ["word","parts","doings","lost","falls","leaves","comes"] Z9 (ZF (top 17)):=by right
theorem ZIt:FnScope ["text"] ZA0 (ZF (top 16)):=by right
theorem ZEd:FnScope ["_law_script","_law_k","_law_cell","_law_great"] ZB1 (ZF (top 22)):=by right
theorem ZDh:FnScope ["_law_box_here","_law_many","_law_digit"] ZBI (ZF (top 23)):=by right
theorem ZCZ:FnScope ["_law_box_here","_law_most","_law_many","_law_found","_law_turn"] ZAa (ZF (top 24)):=by right
theorem ZCf:FnScope ["_law_box_here","_law_lost","_law_lots","_law_house","_law_way"] ZAU (ZF (top 25)):=by right
theorem ZBa:FnScope ["_law_numbers"] Z1 (ZF (top 26)):=by right
theorem ZCa:FnScope ["_law_word","_law_number_here"] ZAX (ZF (top 27)):=by right
theorem ZDu:FnScope ["_law_word","_law_numbers"] ZBE (ZF (top 28)):=by right
theorem ZEO:FnScope ["_law_text","_law_row","_law_word","_law_parts","_law_houses"] ZBm (ZF (top 29)):=by right
theorem ZCW:FnScope ["_law_box_here","_law_row","_law_words","_law_at","_law_place","_law_other","_law_odd","_law_one","_law_way","_law_two","_law_text"] ZAZ (ZF (top 30)):=by right
theorem Zn:FnScope ["_law_text","_law_due_here","_law_caught","_law_found","e"] ZAm (ZF (top 31)):=by right
theorem ZPu:FnScope ["_law_script","_law_k","_law_box_here","_law_row","_law_turn"] ["_law_script"] (ZF (top 32)):=by right
section
variable(T:Txt K mg A)
include T
theorem ZGR:FnOk P w K mg base CX0 1 A.fx0 A.fy0 ZBs (spD K 1 ZAH):=by
 have nd:=ZE2.nd;refine Zd (d:=ZCo) (r:=ZAH) (n:=1) (by unfold ZAH;rfl) rfl rfl T.fz0.fn ZE2 ?_;left
theorem ZGZ:FnOk P w K mg base CX0 2 A.fx1 A.fy1 ZBo (spD K 1 ZAF):=by
 have:=@ZGR P w K mg base A T;have nd:=ZEM.nd;refine Zd (d:=ZCp) (r:=ZAF) (n:=1) (by unfold ZAF;rfl) rfl rfl T.fz1.fn ZEM ?_;left
theorem ZKW:FnOk P w K mg base CX0 1 A.fx2 A.fy2 ZEB (spD K 1 ZBu):=by
 have nd:=ZJb.nd;refine Zd (d:=ZGq) (r:=ZBu) (n:=1) (by unfold ZBu;rfl) rfl rfl T.fz2.fn ZJb ?_;left
theorem ZFB:FnOk P w K mg base CX0 3 A.fx3 A.fy3 ZAl (spD K 1 Zm):=by
 have:=@ZKW P w K mg base A T;have:=@ZGZ P w K mg base A T;have nd:=ZDL.nd;refine Zd (d:=ZBt) (r:=Zm) (n:=1) (by unfold Zm;rfl) rfl rfl T.fz3.fn ZDL ?_;left
theorem ZFN:FnOk P w K mg base CX0 1 A.fx4 A.fy4 ZBB (spD K 2 Zk):=by
 have nd:=ZDm.nd;refine Zd (d:=ZCK) (r:=Zk) (n:=2) (by unfold Zk;rfl) rfl rfl T.fz4.fn ZDm ?_;left
theorem ZFL:FnOk P w K mg base CX0 1 A.fx9 A.fy9 ZBK (spD K 1 Zx):=by
 have nd:=ZDn.nd;refine Zd (d:=ZB7) (r:=Zx) (n:=1) (by unfold Zx;rfl) rfl rfl T.fz9.fn ZDn ?_;left
theorem ZBD:FnOk P w K mg base (CXR P w) 2 A.fx8 A.fy8 ZAA (spE K 1 ZY):=by
 have Gis_number:=ZFL (P:=P) (w:=w) (base:=base) T;exact ZN8 (d:=ZA2) (r:=ZY) (n:=1) (by unfold ZY;rfl) rfl rfl T.fz8.fn ZFH λcdv A outer s H E hr=>(
(ZAK (ZH0 (ZBl (ZBC (ZBd T.fz9 Gis_number (hr.mono (by decide)) (ZI (ZJ 0) ZL) (.cons .nil)))) (ZAp (ZBb T.xn rfl ZLq rfl (ZI ZAV ZL))) ZC2) (ZAp (ZHj (ZBz (ZEp ZPZ rfl T.z_int boot_int (ZI (ZJ 0) ZL)))))))
theorem ZD2:FnOk P w K mg base CX0 2 A.fx8 A.fy8 ZAA (spD K 1 ZCc):=by
 unfold ZCc;exact ZGG (ZBD T)
theorem ZAt:FnOk P w K mg base (CXR P w) 3 A.fx7 A.fy7 Zz (spE K 2 ZV):=by
 have Gread_number:=ZD2 (P:=P) (w:=w) (base:=base) T;have Gxread_number:=ZBD (P:=P) (w:=w) (base:=base) T;exact ZN8 (d:=ZAj) (r:=ZV) (n:=2) (by unfold ZV;rfl) rfl rfl T.fz7.fn ZEz λcdv A outer s H E hr=>(
(ZAp (ZJQ (ZG1 ZPI rfl T.z_tuple boot_tuple (ZE3 (sc:=ZF (top 18)) (NX:=["text","between"]) (N:=["part"]) (own:=1) (cap:=[]) ZRX rfl rfl rfl (ZDA (ZCO (ZJ 0) (ZI (ZJ 1) ZL))) rfl rfl (λcl C s0 H0 fp=>⟨(ZA3 (i:=0) (by show(["part"]:List Str).Nodup;decide +kernel) rfl (Or.inl rfl)),(ZFA T.fz8 Gxread_number (hr.mono (by decide)) (ZI (ZJ 0) ZL) (.cons .nil))⟩) (by decide +kernel) rfl)))))
theorem ZDT:FnOk P w K mg base CX0 3 A.fx7 A.fy7 Zz (spD K 2 ZCG):=by
 unfold ZCG;exact ZGG (ZAt T)
theorem ZBA:FnOk P w K mg base (CXR P w) 4 A.fx6 A.fy6 Z9 (spE K 1 ZX):=by
 have Gare_apart:=ZFN (P:=P) (w:=w) (base:=base) T;have Gread_numbers:=ZDT (P:=P) (w:=w) (base:=base) T;have Gxread_numbers:=ZAt (P:=P) (w:=w) (base:=base) T;have Gare_rising:=ZFB (P:=P) (w:=w) (base:=base) T;exact ZN8 (d:=ZAz) (r:=ZX) (n:=7) (by unfold ZX;rfl) rfl rfl T.fz6.fn Zg λcdv A outer s H E hr=>(
(ZAK (ZHj (ZEG (i:=1) Zg.nd rfl (Or.inl rfl) (ZCO (ZJ 0) (ZI ZAV ZL)))) (ZAK (ZH0 (ZCy (oNe hr.units) (ZAR ZRG rfl T.z_len boot_len (ZI (ZJ 1) ZL)) ZJo (ZCB _)) (ZAp (ZBb T.xn rfl ZLq rfl (ZI ZAV ZL))) ZC2) (ZAK (ZOh (i:=2) Zg.nd rfl (Or.inl rfl) (ZG1 ZPI rfl T.z_tuple boot_tuple (ZE3 (sc:=ZF (top 17)) (NX:=["word","parts","doings","lost","falls","leaves","comes"]) (N:=["part"]) (own:=1) (cap:=[]) ZRX rfl rfl rfl (ZDA (ZJ 1)) rfl rfl (λcl C s0 H0 fp=>⟨(ZA3 (i:=0) (by show(["part"]:List Str).Nodup;decide +kernel) rfl (Or.inl rfl)),(ZQY (ZCy (oEq hr.units) (ZJ 0) (ZFd rfl T.g_NONE) (ZCB _)) (ZRE (ZEC ZL)) (ZFA T.fz7 Gxread_numbers (hr.mono (by decide)) (ZI (ZJ 0) (ZI ZAV ZL)) (.cons (.cons .nil))))⟩) (by decide +kernel) rfl))) (ZAK (ZHj (ZEI (ZJ 2) (ZIs rfl (ZA1 (ZA3 (i:=3) Zg.nd rfl (Or.inl rfl)) (ZA1 (ZA3 (i:=4) Zg.nd rfl (Or.inl rfl)) (ZA1 (ZA3 (i:=5) Zg.nd rfl (Or.inl rfl)) (ZA1 (ZA3 (i:=6) Zg.nd rfl (Or.inl rfl)) ZGu))))))) (ZAK (ZH0 (ZBl (ZBC (ZAR (ZSN rfl) rfl T.z_all boot_all (ZI (ZHm (sc:=ZF (top 17)) (NX:=["word","parts","doings","lost","falls","leaves","comes"]) (N:=["numbers"]) (own:=1) (cap:=[]) rfl (ZDA (ZJ 2)) rfl rfl (λcl C s0 H0 fp=>⟨(ZA3 (i:=0) (by show(["numbers"]:List Str).Nodup;decide +kernel) rfl (Or.inl rfl)),ZHP,(ZBd T.fz3 Gare_rising (hr.mono (by decide)) (ZI (ZJ 0) ZL) (.cons .nil))⟩) (by decide +kernel) rfl) ZL)))) (ZAp (ZBb T.xn rfl ZLq rfl (ZI ZAV ZL))) ZC2) (ZAK (ZH0 (ZBl (JW.pt (ZGA (ZBC (ZBd T.fz4 Gare_apart (hr.mono (by decide)) (ZI (ZJ 4) (ZI (ZJ 5) ZL)) (.cons (.cons .nil)))) (ZHR (ZBC (ZBd T.fz4 Gare_apart (hr.mono (by decide)) (ZI (ZL7 ZSK (ZJ 4) (ZJ 5)) (ZI (ZJ 6) ZL)) (.cons (.cons .nil)))))))) (ZAp (ZBb T.xn rfl ZLq rfl (ZI ZAV ZL))) ZC2) (ZAp (ZHj (ZBz (ZJ 2)))))))))))
theorem ZD4:FnOk P w K mg base CX0 4 A.fx6 A.fy6 Z9 (spD K 1 ZCd):=by
 unfold ZCd;exact ZGG (ZBA T)
theorem ZB6:FnOk P w K mg base (CXR P w) 5 A.fx5 A.fy5 ZA0 (spE K 1 Zw):=by
 have Gread_doings:=ZD4 (P:=P) (w:=w) (base:=base) T;have Gxread_doings:=ZBA (P:=P) (w:=w) (base:=base) T;exact ZN8 (d:=ZB5) (r:=Zw) (n:=1) (by unfold Zw;rfl) rfl rfl T.fz5.fn ZIt λcdv A outer s H E hr=>(
(ZAK (ZH0 (ZBl (ZBC (ZAR ZSL rfl T.z_isinstance boot_isinstance (ZI (ZJ 0) (ZI (ZL5 (n:="str") rfl T.z_str boot_str) ZL))))) (ZAp (ZBb T.xn rfl ZLq rfl (ZI ZAV ZL))) ZC2) (ZAK (ZHj (ZGl (ZCy (oEq hr.units) (ZJ 0) ZAV (ZCB _))
(ZBf (ZBz (ZEC ZL)))
ZC0)) (ZAp (ZJQ (ZG1 ZPI rfl T.z_tuple boot_tuple (ZE3 (sc:=ZF (top 16)) (NX:=["text"]) (N:=["word"]) (own:=1) (cap:=[]) ZRX rfl rfl rfl (ZDA (ZCO (ZJ 0) (ZI ZAV ZL))) rfl rfl (λcl C s0 H0 fp=>⟨(ZA3 (i:=0) (by show(["word"]:List Str).Nodup;decide +kernel) rfl (Or.inl rfl)),(ZFA T.fz6 Gxread_doings (hr.mono (by decide)) (ZI (ZJ 0) ZL) (.cons .nil))⟩) (by decide +kernel) rfl)))))))
theorem ZGi:FnOk P w K mg base CX0 5 A.fx5 A.fy5 ZA0 (spD K 1 ZEw):=by
 unfold ZEw;exact ZGG (ZB6 T)
theorem ZGB:FnOk P w K mg base CX0 1 A.fx10 A.fy10 ZB1 (spD K 2 ZAE):=by
 have nd:=ZEd.nd;refine Zd (d:=ZCv) (r:=ZAE) (n:=4) (by unfold ZAE;rfl) rfl rfl T.fz10.fn ZEd ?_;left
theorem ZAY:FnOk P w K mg base CX0 1 A.fx11 A.fy11 ZBI (spD K 2 ZH):=by
 have nd:=ZDh.nd;refine Zd (d:=ZCH) (r:=ZH) (n:=3) (by unfold ZH;rfl) rfl rfl T.fz11.fn ZDh ?_;left
theorem ZD3:FnOk P w K mg base CX0 2 A.fx12 A.fy12 ZAa (spD K 3 Zi):=by
 have:=@ZAY P w K mg base A T;have nd:=ZCZ.nd;refine Zd (d:=ZBO) (r:=Zi) (n:=5) (by unfold Zi;rfl) rfl rfl T.fz12.fn ZCZ ?_;left
theorem ZD1:FnOk P w K mg base CX0 3 A.fx13 A.fy13 ZAU (spD K 1 Ze):=by
 have:=@ZD3 P w K mg base A T;have:=@ZAY P w K mg base A T;have nd:=ZCf.nd;refine Zd (d:=ZBV) (r:=Ze) (n:=5) (by unfold Ze;rfl) rfl rfl T.fz13.fn ZCf ?_;left
theorem ZCn:FnOk P w K mg base CX0 1 A.fx14 A.fy14 Z1 (spD K 1 ZO):=by
 have nd:=ZBa.nd;refine Zd (d:=ZAP) (r:=ZO) (n:=1) (by unfold ZO;rfl) rfl rfl T.fz14.fn ZBa ?_;left
theorem ZD6:FnOk P w K mg base CX0 1 A.fx15 A.fy15 ZAX (spD K 1 Zh):=by
 have nd:=ZCa.nd;refine Zd (d:=ZBP) (r:=Zh) (n:=2) (by unfold Zh;rfl) rfl rfl T.fz15.fn ZCa ?_;left
theorem ZFO:FnOk P w K mg base CX0 2 A.fx16 A.fy16 ZBE (spD K 1 Zl):=by
 have:=@ZD6 P w K mg base A T;have nd:=ZDu.nd;refine Zd (d:=ZCA) (r:=Zl) (n:=2) (by unfold Zl;rfl) rfl rfl T.fz16.fn ZDu ?_;left
theorem ZGd:FnOk P w K mg base CX0 3 A.fx17 A.fy17 ZBm (spD K 1 ZAC):=by
 have:=@ZFO P w K mg base A T;have nd:=ZEO.nd;refine Zd (d:=ZCh) (r:=ZAC) (n:=5) (by unfold ZAC;rfl) rfl rfl T.fz17.fn ZEO ?_;left
theorem ZDx:FnOk P w K mg base CX0 2 A.fx18 A.fy18 ZAZ (spD K 2 Zf):=by
 have:=@ZAY P w K mg base A T;have:=@ZCn P w K mg base A T;have nd:=ZCW.nd;refine Zd (d:=ZBR) (r:=Zf) (n:=11) (by unfold Zf;rfl) rfl rfl T.fz18.fn ZCW ?_;left
theorem ZE7:FnOk P w K mg base CX0 6 A.fx19 A.fy19 ZAm (spD K 1 ZP):=by
 have G_law_due:=ZGd (P:=P) (w:=w) (base:=base) T;have Gread_row:=ZGi (P:=P) (w:=w) (base:=base) T;have Gxread_row:=ZB6 (P:=P) (w:=w) (base:=base) T;exact Zd (d:=ZBy) (r:=ZP) (n:=5) (by unfold ZP;rfl) rfl rfl T.fz19.fn Zn λcdv A outer s H E hr=>(
(ZAs (ZEG (i:=1) Zn.nd rfl (Or.inl rfl) (ZBd T.fz17 G_law_due (hr.mono (by decide)) (ZI (ZJ 0) ZL) (.cons .nil)))
(ZAs (ZEI (ZEC (ZI ZC5 (ZI ZC5 ZL))) (ZIs rfl (ZA1 (ZA3 (i:=2) Zn.nd rfl (Or.inl rfl)) (ZA1 (ZA3 (i:=3) Zn.nd rfl (Or.inl rfl)) ZGu))))
(ZAs (ZPE (i:=4) (nm:="NoText") Zn.nd rfl rfl (λ_ _ h=>h) rfl rfl rfl T.xm T.xe T.xn.b T.xs (ZOB (ZNp (i:=3) Zn.nd rfl rfl (λ_ _ h=>h) T.fz5 Gxread_row (hr.mono (by decide)) (ZI (ZJ 0) ZL) (.cons .nil))) λ_=>(ZBf (ZEG (i:=2) Zn.nd rfl (Or.inl rfl) (ZJ 4))))
(ZAs (ZGl (ZCy ZJJ (ZJ 1) ZC5 (ZCB _))
(ZBf (ZBz (ZJm (ZGX ZSO (ZJ 2) ZC5 (ZCB _)) (ZJY (ZGX ZSZ (ZAR (ZLj hr.units hr.gd) rfl T.z_repr boot_repr (ZI (ZJ 3) ZL)) (ZAR (ZLj hr.units hr.gd) rfl T.z_repr boot_repr (ZI (ZJ 1) ZL)) (ZCB _))))))
ZC0)
(ZAs (ZGl (JW.pt (ZIE (ZBl (ZBC (ZMp T.xn.b T.xn.b.mg_ T.x1 T.x4 T.z_isinstance (ZJ 2)))) (ZJf (ZBl (ZBC (ZMY T.xn.b T.z_ValueError rfl T.x2 T.z_isinstance (ZJ 2)))))))
(ZBf (ZBz ZLM))
ZC0)
(ZBf (ZBz (ZJW (ZLw T.xn.b T.xd T.xl T.x3 T.z_isinstance (ZJ 2)))))))))))
theorem ZOA{f:Addr}{fd:FuncData}(F:Fun K "law" "law" (top 32) f fd):FnOk P w K mg base CX0 7 f fd ["_law_script"] (spD K 1 ZER):=by
 have:=@ZGB P w K mg base A T;have:=@ZE7 P w K mg base A T;have:=@ZD1 P w K mg base A T;have:=@ZDx P w K mg base A T;have:=@ZAY P w K mg base A T;have nd:=ZPu.nd;refine Zd (d:=ZLm) (r:=ZER) (n:=5) (by unfold ZER;rfl) rfl rfl F ZPu ?_;left
end
noncomputable def ZJe(K:PySem.W.Frag):Sp:=λvs H Q _=>∃(a:Addr) (ns:List Int),vs=[.ref a]/\SqL K H a (ns.map V.int)/\ns.length<=63/\∀H',Q (.bl true) H'
theorem ZRS(T:Txt K mg A){f:Addr}{fd:FuncData}(F:Fun K "law" "law" (top 32) f fd):FnOk P w K mg base CX0 7 f fd ["_law_script"] (ZJe K):=ZQX (ZOA T F) λns hl=>ZQs hl
end
theorem all_mk{l:PySem.W.OpenLaw}{w:World}{K:PySem.W.Frag}{h:Heap}{mg:Str->Option Value}{fa:Addr}(X:K.In h)(G:h.Ns mainGlobals mg)(hfa:mg "law" = some (.ref fa))
  {ct cb cx cl:Addr}(xa4:PySem.W.nsIn K mainGlobals "NoText" = some (some (.ref ct)))(xa2:PySem.W.nsIn K mainGlobals "HearsayError" = some (some (.ref cb)))(xk1:ZDN K cb=true)(xk2:ZDN K ct=true)(xc1:PySem.W.keepIn K (.ref ct)=true)(xc2:PySem.W.findIn K (.ref ct) "__init__" = some (some (.builtin "ValueError.__init__")))(xc5:PySem.W.findIn K (.ref ct) "__getattribute__" = some (some (.builtin "BaseException.__getattribute__")))(xc6:PySem.W.findIn K (.ref ct) "__getattr__" = some none)(xc8:PySem.W.findIn K (.ref ct) "__class__" = some (some (.builtin "object.__class__")))(xc9:PySem.W.specialIn K (.builtin "object.__class__") "__get__" = some (some (.builtin "getset_descriptor.__get__")))(xcA:PySem.W.takesIn K (.builtin "object.__class__")=some true)(xs1:PySem.W.mroIn K ct (.ref cb)=some true)(xk3:PySem.W.kitOne K (.ref ct) (.ref ct)=some true)(xk6:PySem.W.kitOne K (.type "NoneType") (.ref ct)=some false)(xa1:PySem.W.nsIn K mainGlobals "BadDoings" = some (some (.ref cx)))(xa3:PySem.W.nsIn K mainGlobals "NoLine" = some (some (.ref cl)))(xk4:PySem.W.kitOne K (.ref ct) (.type "ValueError")=some true)(xk5:PySem.W.kitAny K (.ref ct) [.ref cx,.ref cl]=some false)
  {f0:Addr}
  (a0:PySem.W.nsIn K mainGlobals "is_whole" = some (some (.ref f0)))
  (h0:ZBS K "is_whole" "is_whole" (top 1) f0)
  {f1:Addr}
  (a1:PySem.W.nsIn K mainGlobals "is_count" = some (some (.ref f1)))
  (h1:ZBS K "is_count" "is_count" (top 2) f1)
  {f2:Addr}
  (a2:PySem.W.nsIn K mainGlobals "rises" = some (some (.ref f2)))
  (h2:ZBS K "rises" "rises" (top 3) f2)
  {f3:Addr}
  (a3:PySem.W.nsIn K mainGlobals "are_rising" = some (some (.ref f3)))
  (h3:ZBS K "are_rising" "are_rising" (top 5) f3)
  {f4:Addr}
  (a4:PySem.W.nsIn K mainGlobals "are_apart" = some (some (.ref f4)))
  (h4:ZBS K "are_apart" "are_apart" (top 6) f4)
  {f5:Addr}
  (a5:PySem.W.nsIn K mainGlobals "read_row" = some (some (.ref f5)))
  (h5:ZBS K "read_row" "read_row" (top 16) f5)
  {f6:Addr}
  (a6:PySem.W.nsIn K mainGlobals "read_doings" = some (some (.ref f6)))
  (h6:ZBS K "read_doings" "read_doings" (top 17) f6)
  {f7:Addr}
  (a7:PySem.W.nsIn K mainGlobals "read_numbers" = some (some (.ref f7)))
  (h7:ZBS K "read_numbers" "read_numbers" (top 18) f7)
  {f8:Addr}
  (a8:PySem.W.nsIn K mainGlobals "read_number" = some (some (.ref f8)))
  (h8:ZBS K "read_number" "read_number" (top 19) f8)
  {f9:Addr}
  (a9:PySem.W.nsIn K mainGlobals "is_number" = some (some (.ref f9)))
  (h9:ZBS K "is_number" "is_number" (top 20) f9)
  {f10:Addr}
  (a10:PySem.W.nsIn K mainGlobals "_law_box" = some (some (.ref f10)))
  (h10:ZBS K "_law_box" "_law_box" (top 22) f10)
  {f11:Addr}
  (a11:PySem.W.nsIn K mainGlobals "_law_take" = some (some (.ref f11)))
  (h11:ZBS K "_law_take" "_law_take" (top 23) f11)
  {f12:Addr}
  (a12:PySem.W.nsIn K mainGlobals "_law_rising" = some (some (.ref f12)))
  (h12:ZBS K "_law_rising" "_law_rising" (top 24) f12)
  {f13:Addr}
  (a13:PySem.W.nsIn K mainGlobals "_law_doings" = some (some (.ref f13)))
  (h13:ZBS K "_law_doings" "_law_doings" (top 25) f13)
  {f14:Addr}
  (a14:PySem.W.nsIn K mainGlobals "_law_part_text" = some (some (.ref f14)))
  (h14:ZBS K "_law_part_text" "_law_part_text" (top 26) f14)
  {f15:Addr}
  (a15:PySem.W.nsIn K mainGlobals "_law_number" = some (some (.ref f15)))
  (h15:ZBS K "_law_number" "_law_number" (top 27) f15)
  {f16:Addr}
  (a16:PySem.W.nsIn K mainGlobals "_law_part" = some (some (.ref f16)))
  (h16:ZBS K "_law_part" "_law_part" (top 28) f16)
  {f17:Addr}
  (a17:PySem.W.nsIn K mainGlobals "_law_due" = some (some (.ref f17)))
  (h17:ZBS K "_law_due" "_law_due" (top 29) f17)
  {f18:Addr}
  (a18:PySem.W.nsIn K mainGlobals "_law_spoilt" = some (some (.ref f18)))
  (h18:ZBS K "_law_spoilt" "_law_spoilt" (top 30) f18)
  {f19:Addr}
  (a19:PySem.W.nsIn K mainGlobals "_law_right" = some (some (.ref f19)))
  (h19:ZBS K "_law_right" "_law_right" (top 31) f19)
  {f20:Addr}{od20 an20:Option Addr}{sl20:Array (Option Value)}{oc20 kV20 dc20 pm20 cd20 ct20:Value}
  (a20:PySem.W.nsIn K mainGlobals "law" = some (some (.ref f20)))
  (l20:K.lookup f20=some ⟨oc20,od20,.func (PySem.W.fnOf "law" "law" (ZBr (top 32)) (ZAJ (top 32)) (ZF (top 32)) .none kV20 dc20 pm20 an20 cd20 ct20),sl20⟩)(c20:PySem.W.codeIn K cd20 "law" = true)(k20:PySem.W.keepIn K (.ref f20)=true)
  {gt0:Tok}(glob0:PySem.W.nsIn K mainGlobals "FIGURES" = some (some (.str "0123456789" gt0)))
  {gt1:Tok}(glob1:PySem.W.nsIn K mainGlobals "MOST_FIGURES" = some (some (.int 9 gt1)))
  {gt2:Tok}(glob2:PySem.W.nsIn K mainGlobals "NONE" = some (some (.str "-" gt2)))
  (z0:PySem.W.nsIn K mainGlobals "ValueError" = some none)
  (z1:PySem.W.nsIn K mainGlobals "abs" = some none)
  (z2:PySem.W.nsIn K mainGlobals "all" = some none)
  (z3:PySem.W.nsIn K mainGlobals "any" = some none)
  (z4:PySem.W.nsIn K mainGlobals "bool" = some none)
  (z5:PySem.W.nsIn K mainGlobals "int" = some none)
  (z6:PySem.W.nsIn K mainGlobals "isinstance" = some none)
  (z7:PySem.W.nsIn K mainGlobals "len" = some none)
  (z8:PySem.W.nsIn K mainGlobals "list" = some none)
  (z9:PySem.W.nsIn K mainGlobals "min" = some none)
  (z10:PySem.W.nsIn K mainGlobals "range" = some none)
  (z11:PySem.W.nsIn K mainGlobals "repr" = some none)
  (z12:PySem.W.nsIn K mainGlobals "set" = some none)
  (z13:PySem.W.nsIn K mainGlobals "sorted" = some none)
  (z14:PySem.W.nsIn K mainGlobals "str" = some none)
  (z15:PySem.W.nsIn K mainGlobals "tuple" = some none)
  (z16:PySem.W.nsIn K mainGlobals "zip" = some none)
  : ∃fd:FuncData,(∀(s:Shared) (v:Value),BindsTo s fd ⟨[v],[]⟩ [("_law_script",v)])/\∀base:Heap,K.In base->base.Ns mainGlobals mg->FnOk l.prog w K mg base CX0 7 fa fd ["_law_script"] (ZJe K):=by
 have e:=hfa.symm.trans (PySem.W.mg_of X G a20);cases e;obtain⟨_,F0⟩:=h0;have D0:Def K mg _ _ ZBs f0 _:=⟨PySem.W.mg_of X G a0,F0,F0.binds (by right)⟩;obtain⟨_,F1⟩:=h1;have D1:Def K mg _ _ ZBo f1 _:=⟨PySem.W.mg_of X G a1,F1,F1.binds (by right)⟩;obtain⟨_,F2⟩:=h2;have D2:Def K mg _ _ ZEB f2 _:=⟨PySem.W.mg_of X G a2,F2,F2.binds (by right)⟩;obtain⟨_,F3⟩:=h3;have D3:Def K mg _ _ ZAl f3 _:=⟨PySem.W.mg_of X G a3,F3,F3.binds (by right)⟩;obtain⟨_,F4⟩:=h4;have D4:Def K mg _ _ ZBB f4 _:=⟨PySem.W.mg_of X G a4,F4,F4.binds (by right)⟩;obtain⟨_,F5⟩:=h5;have D5:Def K mg _ _ ZA0 f5 _:=⟨PySem.W.mg_of X G a5,F5,F5.binds (by right)⟩;obtain⟨_,F6⟩:=h6;have D6:Def K mg _ _ Z9 f6 _:=⟨PySem.W.mg_of X G a6,F6,F6.binds (by right)⟩;obtain⟨_,F7⟩:=h7;have D7:Def K mg _ _ Zz f7 _:=⟨PySem.W.mg_of X G a7,F7,F7.binds (by right)⟩;obtain⟨_,F8⟩:=h8;have D8:Def K mg _ _ ZAA f8 _:=⟨PySem.W.mg_of X G a8,F8,F8.binds (by right)⟩;obtain⟨_,F9⟩:=h9;have D9:Def K mg _ _ ZBK f9 _:=⟨PySem.W.mg_of X G a9,F9,F9.binds (by right)⟩;obtain⟨_,F10⟩:=h10;have D10:Def K mg _ _ ZB1 f10 _:=⟨PySem.W.mg_of X G a10,F10,F10.binds (by right)⟩;obtain⟨_,F11⟩:=h11;have D11:Def K mg _ _ ZBI f11 _:=⟨PySem.W.mg_of X G a11,F11,F11.binds (by right)⟩;obtain⟨_,F12⟩:=h12;have D12:Def K mg _ _ ZAa f12 _:=⟨PySem.W.mg_of X G a12,F12,F12.binds (by right)⟩;obtain⟨_,F13⟩:=h13;have D13:Def K mg _ _ ZAU f13 _:=⟨PySem.W.mg_of X G a13,F13,F13.binds (by right)⟩;obtain⟨_,F14⟩:=h14;have D14:Def K mg _ _ Z1 f14 _:=⟨PySem.W.mg_of X G a14,F14,F14.binds (by right)⟩;obtain⟨_,F15⟩:=h15;have D15:Def K mg _ _ ZAX f15 _:=⟨PySem.W.mg_of X G a15,F15,F15.binds (by right)⟩;obtain⟨_,F16⟩:=h16;have D16:Def K mg _ _ ZBE f16 _:=⟨PySem.W.mg_of X G a16,F16,F16.binds (by right)⟩;obtain⟨_,F17⟩:=h17;have D17:Def K mg _ _ ZBm f17 _:=⟨PySem.W.mg_of X G a17,F17,F17.binds (by right)⟩;obtain⟨_,F18⟩:=h18;have D18:Def K mg _ _ ZAZ f18 _:=⟨PySem.W.mg_of X G a18,F18,F18.binds (by right)⟩;obtain⟨_,F19⟩:=h19;have D19:Def K mg _ _ ZAm f19 _:=⟨PySem.W.mg_of X G a19,F19,F19.binds (by right)⟩;have F20:=ZMH (st:=(top 32)) l20 c20 k20;have T:Txt K mg ⟨ct,cb,cx,cl,f0,f1,f2,f3,f4,f5,f6,f7,f8,f9,f10,f11,f12,f13,f14,f15,f16,f17,f18,f19,_,_,_,_,_,_,_,_,_,_,_,_,_,_,_,_,_,_,_,_⟩:=⟨PySem.W.mg_none_of X G z0,PySem.W.mg_none_of X G z1,PySem.W.mg_none_of X G z2,PySem.W.mg_none_of X G z3,PySem.W.mg_none_of X G z4,PySem.W.mg_none_of X G z5,PySem.W.mg_none_of X G z6,PySem.W.mg_none_of X G z7,PySem.W.mg_none_of X G z8,PySem.W.mg_none_of X G z9,PySem.W.mg_none_of X G z10,PySem.W.mg_none_of X G z11,PySem.W.mg_none_of X G z12,PySem.W.mg_none_of X G z13,PySem.W.mg_none_of X G z14,PySem.W.mg_none_of X G z15,PySem.W.mg_none_of X G z16,⟨_,PySem.W.mg_of X G glob0⟩,⟨_,PySem.W.mg_of X G glob1⟩,⟨_,PySem.W.mg_of X G glob2⟩,⟨⟨xa4,PySem.W.mg_of X G xa4,xk2,xc5,xc6,xc8,xc9,xcA⟩,xc1,xc2⟩,PySem.W.mg_of X G xa2,xk1,xs1,xk3,xk6,xk4,PySem.W.mg_of X G xa3,PySem.W.mg_of X G xa1,xk5,D0,D1,D2,D3,D4,D5,D6,D7,D8,D9,D10,D11,D12,D13,D14,D15,D16,D17,D18,D19⟩;exact⟨PySem.W.fnOf "law" "law" (ZBr (top 32)) (ZAJ (top 32)) (ZF (top 32)) .none kV20 dc20 pm20 an20 cd20 ct20,λs v=>.of_eq rfl,λbase _ _=>ZRS T F20⟩
theorem walk{l:PySem.W.OpenLaw}{q:Program}{loose:List Str}{XP:(Str->Option Value)->Heap->Prop}{YP:World->Heap->Prop}{d:DefRec}{K:Params->PySem.W.Frag}(hn:l.most=some 63)(hdf:d.params.defaults=[])
  (hY:∀(w:World) (h:Heap),YP w h->(K w.params).In h)
  (F:∀ (w:World) (mg:Str->Option Value) (fa:Addr) (h:Heap),(K w.params).In h->h.Ns mainGlobals mg->mg d.name=some (.ref fa) ->
   ∃fd:FuncData,(∀(s:Shared) (u:Value),BindsTo s fd ⟨[u],[]⟩ [("_law_script",u)])/\∀base:Heap,(K w.params).In base->base.Ns mainGlobals mg->FnOk l.prog w (K w.params) mg base CX0 7 fa fd ["_law_script"] (ZJe (K w.params))) :
  PySem.W.WalkO q loose XP YP l.row.toRowW d [] (λf vs=>PySem.call f vs) :=
 L2.walk_of (n:=63) (k:=7) (x:="_law_script") (CX:=λ_=>CX0) (sp:=λw=>ZJe (K w.params)) hn (by decide) hdf ⟨rfl,by decide,by decide,rfl⟩ hY F (λ_ _ a ns hl _ hS=>⟨a,ns,rfl,hS,hl,λ_=>rfl⟩) λ_ _ _ _ _ z=>z
end K75
end
open PySem PySem.W PyProof.Rows
local macro_rules
 | `(tactic| and_intros) => `(tactic| (refine' L2.fnAt_mk ?l ?c ?k; (case l => k_is); (case c => k_is); (case k => k_is)))
set_option genInjectivity false in
set_option genSizeOf false in
structure PySem.W.Fast where
 (tw560212266360272933
 tw8495981769031624229
 tw8644710892587122417
 tw5699647418234823731
 tw5475938343909208118
 tw5876534162489527195
 tw4359840201459441965
 tw5062863768611390341
 tw5922169369079595079
 tw6329947469676286056
 tw4246939397928204458
 tw11220673629670466705
 tw3173970095628091229
 tw4441393536066736920
 tw4149562422871324268
 tw1598312712290261442
 tw17318888202124383076
 tw9345011874152501382
 tw9404960026475903124
 tw15503825536025131618
 tw8343599901384379710
 tw10896105066118669390
 tw10985871100134698684
 tw12836244874227616716
 tw2432711940074322131
 tw6104905345651500040
 tw14636685881518021879
 tw6391037219296249422
 tw19823492553004756
 tw10167811355536483261
 tw1377699130800771504
 tw2577683809961372333
 tw11233889178276119547
 tw13218788103287707418
 tw16500668458526534029
 tw18380775221900307183
 tw11685796493828208182
 tw9361931399476317369
 tw11617169027370252640
 tw139594692479229820
 tw11203229602152342317
 tw7450294793010902692
 tw16199997472318464768
 tw12278206194666846457
 tw7290508576535162123
 tw6676268474329211696
 tw18350315437518885243
 tw7791040649444073277
 tw4927108557769487377
 tw5320413174468178695
 tw4680914031789266745
 tw3641182290449444414
 tw10484531602342423222
 tw8552619535349789277
 tw14101317290184208385
 tw17854370281036702177
 tw5978750185105734567
 tw17444674518833690147
 tw2724431270654743056
 tw5071094110098537766
 tw7190621334939811901
 tw12838328781977601910
 tw10911119429553240902
 tw5096465625845004575
 tw11092175973190812186
 tw280675901991519613
 tw16379490676724049531
 tw10366421670145978677
 tw4763545798111449713
 tw5980611090639820009
 tw1437304524496213517
 tw18017094803488294226
 tw18147616630818392555
 tw13409164756753759200
 tw2744107636754168787
 tw11292226009807675
 tw16910750956013059318
 tw6662790408685315929
 tw6319807626235574496
 tw5913265088660370686
 tw13369268436325415222
 tw16455590691665854562
 tw7752360605957906959
 tw7375793533485376303
 tw16921358710402678405
 tw4395008983636923945
 tw893954384321622259
 tw4698821154378381899
 tw1291116237192881205
 tw9582997917871649307
 tw13530777582798626286
 tw16137204471651442698
 tw11645049248465582064
 tw15079651400194903989
 tw10998510904727207845
 tw10420098601271939466
 tw4084860033672027226
 tw3953423780957429366
 tw9096716267619135379
 tw6397677099511920098
 tw6240432080761743151
 tw16283180943954064755
 tw5210197324662052378
 tw15206401657637485244
 tw12418685328286647672
 tw5118373237147447125
 tw13350604760138540425
 tw6766871717061272617
 tw1355715004640283775
 tw5890429730846032892
 tw4316273762587005148
 tw9797437073990394396
 tw2755636926696657403
 tw7851648441690937560
 tw17678016115955045454
 tw7461145780657868096
 tw10921474169065029408
 tw5454637377606315085
 tw6958079847897055944
 tw9913390202044590856
 tw17172147580755975383
 tw18280869468547792212
 tw6125588136802075167
 tw6632715328771747931
 tw7987757104302846739
 tw7151487793551989033
 tw12119066877290978605
 tw11402110487189955759
 tw14044732929120396236
 tw11676038963916274690
 tw13255544620549874112
 tw10921370973821960219
 tw5475497692192116731
 tw6319268981447953380
 tw14303461963057350001
 tw11332265745618860553
 tw7661817492475897868
 tw2074674659867346406
 tw17272038184099241127
 tw763763880511909342
 tw13405500226530681061
 tw5301801791942916496
 tw12225528966949127074
 tw15143743136937128314
 tw143006388470487112
 tw1323282259487363931
 tw9471309557114155630
 tw18018310525820450899
 tw6403574257915273030
 tw13165103474935160801
 tw16948207246113983166
 tw9446586699707695068
 tw7803906095318478269
 tw14310130781601497631
 tw5054059104366252968
 tw17016486234756425047
 tw18245705468389683750
 tw16338315222529543509
 tw8740779648955073151
 tw5426220111074624729
 tw8013725198879774741
 tw2768560719191447098
 tw492561981021037536
 tw12921581515773302647
 tw9320362050558822381
 tw8950910374005531440
 tw11449228812779753169
 tw13615484910633005154
 tw16722927607276915487
 tw4151406245502907627
 tw9077936456469170707
 tw13639951945767064979
 tw15697849328912579974
 tw338289507846813115
 tw14091864503590560757
 tw3639458994412819638
 tw5262214463135899361
 tw11059395657523153616
 tw11462272249024798705
 tw8739925680704937946 : Nat)
set_option maxRecDepth 100000 in
set_option maxHeartbeats 0 in
theorem PySem.Challenge.cw_hearsaybook_k75_no_rows_holds : PySem.Challenge.rw_hearsaybook_k75_no_rows.Holds := by
 w_on; o_law; k_head; (case hw=>w_witness2)
 k_fill
 refine K75.walk (l:=PySem.Challenge.rw_hearsaybook_k75_no_rows) rfl rfl (λ w h Y=>PySem.W.kIn_of Y) ?F
 case F =>
  intro w mg fa h KX G hmg;refine' K75.all_mk KX G hmg ?xa4 ?xa2 ?xk1 ?xk2 ?xc1 ?xc2 ?xc5 ?xc6 ?xc8 ?xc9 ?xcA ?xs1 ?xk3 ?xk6 ?xa1 ?xa3 ?xk4 ?xk5 ?a0 ?h0 ?a1 ?h1 ?a2 ?h2 ?a3 ?h3 ?a4 ?h4 ?a5 ?h5 ?a6 ?h6 ?a7 ?h7 ?a8 ?h8 ?a9 ?h9 ?a10 ?h10 ?a11 ?h11 ?a12 ?h12 ?a13 ?h13 ?a14 ?h14 ?a15 ?h15 ?a16 ?h16 ?a17 ?h17 ?a18 ?h18 ?a19 ?h19 ?a20 ?l20 ?c20 ?k20 ?glob0 ?glob1 ?glob2 ?z0 ?z1 ?z2 ?z3 ?z4 ?z5 ?z6 ?z7 ?z8 ?z9 ?z10 ?z11 ?z12 ?z13 ?z14 ?z15 ?z16
  (case xa4=>k_is)
  (case xa2=>k_is)
  (case xk1=>kernel_rfl)
  (case xk2=>kernel_rfl)
  (case xc1=>k_is)
  (case xc2=>k_is)
  (case xc5=>k_is)
  (case xc6=>k_is)
  (case xc8=>k_is)
  (case xc9=>k_is)
  (case xcA=>k_is)
  (case xs1=>k_is)
  (case xk3=>kernel_rfl)
  (case xk6=>kernel_rfl)
  (case xa1=>k_is)
  (case xa3=>k_is)
  (case xk4=>kernel_rfl)
  (case xk5=>kernel_rfl)
  (case a0=>k_is)
  (case h0=>and_intros)
  (case a1=>k_is)
  (case h1=>and_intros)
  (case a2=>k_is)
  (case h2=>and_intros)
  (case a3=>k_is)
  (case h3=>and_intros)
  (case a4=>k_is)
  (case h4=>and_intros)
  (case a5=>k_is)
  (case h5=>and_intros)
  (case a6=>k_is)
  (case h6=>and_intros)
  (case a7=>k_is)
  (case h7=>and_intros)
  (case a8=>k_is)
  (case h8=>and_intros)
  (case a9=>k_is)
  (case h9=>and_intros)
  (case a10=>k_is)
  (case h10=>and_intros)
  (case a11=>k_is)
  (case h11=>and_intros)
  (case a12=>k_is)
  (case h12=>and_intros)
  (case a13=>k_is)
  (case h13=>and_intros)
  (case a14=>k_is)
  (case h14=>and_intros)
  (case a15=>k_is)
  (case h15=>and_intros)
  (case a16=>k_is)
  (case h16=>and_intros)
  (case a17=>k_is)
  (case h17=>and_intros)
  (case a18=>k_is)
  (case h18=>and_intros)
  (case a19=>k_is)
  (case h19=>and_intros)
  (case a20=>k_is)
  (case l20=>k_is)
  (case c20=>k_is)
  (case k20=>k_is)
  (case glob0=>k_is)
  (case glob1=>k_is)
  (case glob2=>k_is)
  (case z0=>k_is)
  (case z1=>k_is)
  (case z2=>k_is)
  (case z3=>k_is)
  (case z4=>k_is)
  (case z5=>k_is)
  (case z6=>k_is)
  (case z7=>k_is)
  (case z8=>k_is)
  (case z9=>k_is)
  (case z10=>k_is)
  (case z11=>k_is)
  (case z12=>k_is)
  (case z13=>k_is)
  (case z14=>k_is)
  (case z15=>k_is)
  (case z16=>k_is)
