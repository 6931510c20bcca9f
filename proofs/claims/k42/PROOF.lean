import PyProof.Rows.All
import Wide.All
import OpenK.AllK
import Wide.FinOn
import Lean
import PyProof.EqAt
import PyProof.EqKinds
import PyProof.TupleCall
import PyProof.NeKinds
import PyProof.IsiPairs
import PyProof.EnumMake
import PyProof.Draws
import PyProof.CompFree
import PyProof.CompUse
import PyProof.ConsumeWalk
import PyProof.NeData
import PyProof.P3In
import PyProof.Rows.ReprR
import PyProof.ZipIter
import PyProof.MinMaxWalk
import PyProof.Rows.TupAdd
import PyProof.ListMulRoad
import PyProof.FactsAll.tuple_2
import PyProof.Rows.FStr
import PyProof.StrCalls2
import PyProof.Rows.StrWeight2
import PyProof.Rows.StrSplitJoin
import PyProof.Rows.TupIter
import PyProof.Rows.SortStr
import KE.KSortTup
import PyProof.Rows.SortWalkRead
import PyProof.AttrMissSeq
import KE.KDictOf
import KE.KDictList
import KE.KDictSum
import PyProof.DictRoads
import PyProof.DictStraight
import PyProof.TupleOfSeq
import PyProof.DictTable
import PyProof.StrWalks
import PyProof.ListRange
import PyProof.TupleOfGen
import KE.KRevIter
import PyProof.FactsAll.dict_1
import PyProof.FactsAll.subtypes_3
import PyProof.FitsReplace
import PyProof.StrLawsOcc
import KE.KIntText
import PyProof.StrLawsTight
import PyProof.StrLawsChain
import PyProof.Rows.StrLawsPart
import PyProof.Rows.StrFit
import PyProof.SetKind
import PyProof.Rows.SetFrom
import PyProof.SetRoads
import PyProof.StrCalls6
import PyProof.ToksMono
import PyProof.TupleKey
import PyProof.IsRules
import PyProof.DictWalks
import PyProof.MeetsDictList
import PySem.Challenge.RW_hearsaybook_k42_still_behind_turns
set_option bootstrap.genMatcherCode false
set_option compiler.extract_closed false
set_option Elab.async false
set_option bootstrap.genMatcherCode false
set_option linter.all false
set_option maxRecDepth 100000
set_option maxHeartbeats 4000000
local macro_rules
 |`(tactic|omega)=>`(tactic|first|lia|omega +splitDisjunctions)
local macro_rules
 |`(⋯)=>`(by omega)
local macro_rules
 |`($s⁻¹)=>`(($s).heap.objs.size)
open PySem.W (Frag nsIn findIn mg_none_of fnOf keepIn emptyDict instObj mg_of codeIn plainGet isFn lookIn hasDictIn methodObj plainGet_of plainOver takerIn makesIn callWith_K handedIn cellsFrom_some)
noncomputable section
abbrev Qv:=PySem.Value->PySem.Shared->Prop
abbrev Qi:=List (Int×Int)
abbrev Qd:=List PySem.PyData
theorem Xm{α:Type _}{β:Type _}{f:α->β}{l:List α}:(l.map f).length=l.length:=List.length_map ..
theorem Xc{α:Type _}{a:α}{l:List α}:(a::l).length=l.length+1:=List.length_cons ..
theorem Xa{α:Type _}{a b:List α}:(a++b).length=a.length+b.length:=List.length_append ..
theorem Xo{α:Type _}(y:α){a:α}{l:List α}(h:a∈l):a∈y::l:=List.mem_cons_of_mem _ h
theorem Xf:false≠true:=Bool.false_ne_true
theorem Xd{p:Prop}[i:Decidable p](h:decide p=true):p:=of_decide_eq_true h
theorem Xg{p:Prop}[i:Decidable p](h:decide p=false):¬p:=of_decide_eq_false h
theorem Xe{p:Prop}[i:Decidable p](h:p):decide p=true:=decide_eq_true h
theorem Xn{c:Prop}{h:Decidable c}(n:¬c){α:Sort _}{t e:α}:ite c t e=e:=if_neg n
theorem Xp{c:Prop}{h:Decidable c}(n:c){α:Sort _}{t e:α}:ite c t e=t:=if_pos n
theorem Xs{α:Type _}{a:α}{l:List α}:a∈a::l:=List.mem_cons_self ..
open PySem in
theorem Xb{α β:Type}{M:Model}{A:Around}{E:Qv}{s:Shared}{m:Sem α}{f:α->Sem β}{Q:β->Shared->Prop}(h:wpAny M A m (λa s'=>wpAny M A (f a) Q E s') E s):wpAny M A (m>>=f) Q E s:=wpAny_bind h
open PySem in
theorem Xu{α:Type}{M:Model}{A:Around}{E:Qv}{s:Shared}{a:α}{Q:α->Shared->Prop}(h:Q a s):wpAny M A (pure a) Q E s:=wpAny_pure h
theorem Xq{α:Type _}{l:List α}{i:Nat}{a:α}:l.getD i a=l[i]?.getD a:=List.getD_eq_getElem?_getD ..
section
open List (mem_cons_of_mem length_map mem_cons_self getD_eq_getElem?_getD length_append foldl_cons length_cons length_set getElem?_eq_getElem getElem?_set_ne getElem?_map map_cons size_toArray getElem?_append_left length_range not_mem_nil mem_cons mem_append_right getElem?_replicate length_replicate map_append mem_of_getElem? lookup_cons getElem?_append_right replicate_succ mem_append_left append_nil getElem?_set_self map_map map_set getElem?_range length_singleton length_take getElem_mem foldl_nil flatten_cons append_assoc foldl_append take_of_length_le sum_cons mergeSort_perm map_replicate length_drop all_eq_true take_length map_congr_left any_cons length_nil forIn_cons mem_singleton getElem_range drop_length range_succ append_of_mem take_add_one pairwise_map nodup_append any_eq_true of_mem_zip map_nil nil_append nodup_cons forIn_nil ext_getElem drop_zero all_map)
open Nat (le_refl ne_of_lt le_trans lt_of_lt_of_le zero_add le_of_lt zero_le mul_le_mul_left lt_irrefl mul_le_mul sub_self not_lt_zero lt_succ_of_lt mul_succ add_le_add le_succ lt_succ_self le_add_right ne_of_gt lt_trans blt_eq mod_lt)
open PySem.Heap (get?_push_of_some lt_size get?_push_size get?_update_self size_push get?_push_ne size_update)
open Int (toNat_natCast toNat_of_nonneg emod_nonneg emod_lt_of_pos emod_eq_of_lt add_emod_emod mul_assoc mul_one mul_add mul_pos mul_comm one_mul)
namespace _L
open PySem PySem.Spec PyProof.Rows
abbrev Key:=Sum Int Str
noncomputable def ZEW:Key->Value->Bool
 |.inl k,v=>Value.isInt k v
 |.inr x,v=>Value.isStrOf x v
noncomputable def keyH(w:World):Key->Int
 |.inl k=>hashInt k
 |.inr x=>hashStr w x
theorem Z1:∀{k:Key} {v:Value},ZEW k v=true->(∃i t,k=Sum.inl i/\v=Value.int i t)\/(∃x t,k=Sum.inr x/\v=Value.str x t)
 |.inl i,v,h=>by
  obtain⟨t,e⟩:=Value.isInt_shape (k:=i) (v:=v) h;exact .inl ⟨i,t,rfl,e⟩
 |.inr x,v,h=>by
  obtain⟨t,e⟩:=Value.isStrOf_shape (x:=x) (v:=v) h;exact .inr ⟨x,t,rfl,e⟩
theorem ZNV(i:Int)(t:Tok):ZEW (.inl i) (.int i t)=true:=by simp[ZEW,Value.isInt]
theorem ZNu(x:Str)(t:Tok):ZEW (.inr x) (.str x t)=true:=by simp[ZEW,Value.isStrOf]
theorem ZU3(a b:Int):decide ((Sum.inl a:Key)=Sum.inl b)=(a == b):=by
 by_cases e:a=b
 .subst e;simp
 .have h : ¬(Sum.inl a:Key)=Sum.inl b:=λq=>e (Sum.inl.inj q)
  rw[decide_eq_false h];exact(beq_eq_false_iff_ne.mpr e).symm
theorem ZU9(a b:Str):decide ((Sum.inr a:Key)=Sum.inr b)=decide (a=b):=by
 by_cases e:a=b
 .subst e;simp
 .have h : ¬(Sum.inr a:Key)=Sum.inr b:=λq=>e (Sum.inr.inj q)
  rw[decide_eq_false h,decide_eq_false e]
theorem ZUk(a:Int)(b:Str):decide ((Sum.inl a:Key)=Sum.inr b)=false:=decide_eq_false (λq=>nomatch q)
theorem ZVY(a:Str)(b:Int):decide ((Sum.inr a:Key)=Sum.inl b)=false:=decide_eq_false (λq=>nomatch q)
def ZBE(prog:Program)(w:World):PySem.KeyKind prog w Key where
 is:=ZEW
 hash:=keyH w
 inj:=λv a b ha hb=>by
  rcases Z1 ha with ⟨i,t,rfl,rfl⟩|⟨x,t,rfl,rfl⟩
  .rcases Z1 hb with ⟨j,u,rfl,e⟩|⟨y,u,rfl,e⟩
   .injection e with e1 _;rw[e1]
   .exact nomatch e
  .rcases Z1 hb with ⟨j,u,rfl,e⟩|⟨y,u,rfl,e⟩
   .exact nomatch e
   .injection e with e1 _;rw[e1]
 byValue:=λk v h=>by
  rcases Z1 h with ⟨i,t,rfl,rfl⟩|⟨x,t,rfl,rfl⟩ <;> rfl
 pyHash:=λhv h=>by
  rcases Z1 hv with ⟨i,t,rfl,rfl⟩|⟨x,t,rfl,rfl⟩
  .exact wpAny_pyHash_int h
  .exact wpAny_pyHash_str h
 eqBool:=λhu hv h=>by
  rcases Z1 hu with ⟨i,t,rfl,rfl⟩|⟨x,t,rfl,rfl⟩
  .rcases Z1 hv with ⟨j,u,rfl,rfl⟩|⟨y,u,rfl,rfl⟩
   .rw[ZU3] at h;exact wpAny_eqBool_int h
   .rw[ZUk] at h;exact SeqAt.EqAt.int_str i t y u _ _ _ _ h
  .rcases Z1 hv with ⟨j,u,rfl,rfl⟩|⟨y,u,rfl,rfl⟩
   .rw[ZVY] at h;exact SeqAt.EqAt.str_int x t j u _ _ _ _ h
   .rw[ZU9] at h;exact wpAny_eqBool_str h
 «strs»:=λk x t v h=>by
  rcases Z1 h with ⟨i,u,rfl,e⟩|⟨y,u,rfl,e⟩
  .exact nomatch e
  .injection e with e1 _
   subst e1;cases v <;> rfl
inductive V where
 |non|bl (b:Bool)|int (i:Int)|str (x:Str)|byt (b:Array UInt8)|flt (b:UInt64)|ref (a:Addr)|ty (n:String)
 deriving DecidableEq
def Zq:V->Value->Prop
 |.non,u=>u=Value.none
 |.bl b,u=>u=Value.bool b
 |.int i,u=>∃t,u=Value.int i t
 |.str x,u=>∃t,u=Value.str x t
 |.byt b,u=>∃t,u=Value.bytes b t
 |.flt b,u=>∃t,u=Value.float b t
 |.ref a,u=>u=Value.ref a
 |.ty n,u=>u=Value.type n
abbrev Zb:List V->List Value->Prop:=Paired Zq
theorem Zb.length{xs:List V}{us:List Value}(r:Zb xs us):xs.length=us.length:=Paired.length r
theorem Zb.get:∀{xs:List V} {us:List Value} {i:Nat} {x:V},Zb xs us->xs[i]? = some x->∃u,us[i]? = some u/\Zq x u
 |_,_,_,_,.nil,e=>by simp at e
 |_,_,0,_,.cons r _,e=>by simp at e;subst e;exact⟨_,rfl,r⟩
 |_,_,i+1,x,.cons _ t,e=>by
  obtain⟨u,h1,h2⟩:=Zb.get (i:=i) (x:=x) t (by simpa using e);exact⟨u,by simpa using h1,h2⟩
theorem Zb.set{x:V}{u:Value}(r:Zq x u):∀{xs:List V} {us:List Value} (i:Nat),Zb xs us->Zb (xs.set i x) (us.set i u)
 |_,_,_,.nil=>.nil
 |_,_,0,.cons _ t=>.cons r t
 |_,_,i+1,.cons q t=>.cons q (Zb.set r i t)
theorem Zb.append:∀{xs ys:List V} {us ws:List Value},Zb xs us->Zb ys ws->Zb (xs++ys) (us++ws)
 |_,_,_,_,.nil,s=>s
 |_,_,_,_,.cons r t,s=>.cons r (Zb.append t s)
theorem Zb.take:∀{xs:List V} {us:List Value} (n:Nat),Zb xs us->Zb (xs.take n) (us.take n)
 |_,_,0,_=>.nil
 |_,_,_+1,.nil=>.nil
 |_,_,n+1,.cons r t=>.cons r (Zb.take n t)
theorem Zb.drop:∀{xs:List V} {us:List Value} (n:Nat),Zb xs us->Zb (xs.drop n) (us.drop n)
 |_,_,0,r=>r
 |_,_,_+1,.nil=>.nil
 |_,_,n+1,.cons _ t=>Zb.drop n t
def ZHN:Option V->Option Value->Prop
 |some v,some u=>Zq v u
 |none,none=>True
 |_,_=>False
def KV{κ : Type}:List (κ×V)->List (κ×Value)->Prop:=Paired λ(p : κ×V) (q : κ×Value)=>p.1=q.1/\Zq p.2 q.2
noncomputable def kV:Key->V
 |.inl i=>.int i
 |.inr x=>.str x
inductive HO where
 /-- a list -/
 |lst (xs:List V)
 /-- a tuple (never changes) -/
 |tup (xs:List V)
 /-- a dict whose keys are ints and texts;one whose keys are tuples of ints and texts (the empty one is both) -/
 |dK (kvs:List (Key×V))|dT (kvs:List (List Key×V))
 /-- a set of ints: its members,its size -/
 |set (S:Int->Bool) (n:Nat)
 /-- an instance of the class at C,its dict at dx,its attributes -/
 |ins (C dx:Addr) (fs:List (Str×V))
 /-- the dict of the instance at x -/
 |own (x:Addr)
 /-- the dict of an exception -/
 |xd (fs:List (Str×V))
 /-- a bound method,f of x -/
 |met (f x:Addr)
 /-- a range object lo,lo+1,.. below hi -/
 |rng (lo hi:Int)
 /-- a thing that is known to the object (the script;a dict while a loop walks it): read,never written while it is so -/
 |frz (o:Obj) (u:HO)
 /-- a code object's table -/
 |tbl (ps:Array Value)
 /-- any other thing,by what is true of its one object (a def of one's own: SetO a S n:=HO.ext λh=>..) -/
 |ext (φ : Heap->Prop)
abbrev Hp:=Addr->Option HO
noncomputable def upd(H:Hp)(a:Addr)(o:HO):Hp:=λb=>if b=a then some o else H b
variable{H:Hp}{a:Addr}
theorem Za{o:HO}:upd H a o a=some o:=by unfold upd;rw[Xp rfl]
variable{b:Addr}
theorem ZG{o:HO}(h:b≠a):upd H a o b=H b:=by unfold upd;rw[Xn h]
theorem ZJ{o:HO}(h:H a=some o)(h':H b=none):a≠b:=by
 intro e;subst e;rw[h] at h';cases h'
section
variable(P:Program)(w:World)
def ZBI(H:Hp)(h:Heap)(a:Addr):HO->Prop
 |.lst xs=>xs.length<=sizeLine/\∃(its:List Value) (n:Nat),Zb xs its/\h.get? a=some { cls:=.type "list",data:=.seq its.toArray n }
 |.tup xs=>xs.length<=sizeLine/\∃its:List Value,Zb xs its/\IsTup h a its.toArray
 |.dK kvs=>kvs.length<=sizeLine/\(a == sysModules)=false/\∃vs,KV kvs vs/\h.DictOf (ZBE P w) a vs
 |.dT kvs=>kvs.length<=sizeLine/\(a == sysModules)=false/\∃xs:List (List Key×Addr×Value),
   Paired (λ(p:List Key×V) (q:List Key×Addr×Value)=>p.1=q.1/\H q.2.1=some (.tup (p.1.map kV))/\Zq p.2 q.2.2) kvs xs /\
   ∃o es ep,h.get? a=some o/\o.ExactDict/\o.data=.dict es ep/\es.toList=xs.map (entryOfKey (tupleKind (ZBE P w)))/\(xs.map (·.1)).Nodup
 |.set S n=>h.SetOf (intKind P w) a S n
 |.ins C dx fs=>H dx=some (.own a)/\fs.length<=1000/\dx≠a/\h.get? a=some (instObj C dx) /\
   ∃mA,h.Ns1 dx mA/\(∀f,ZHN (fs.lookup f) (mA f))/\PySem.Within mA (fs.map (·.1))
 |.own _=>∃o,h.get? a=some o
 |.xd fs=>∃mA,h.Ns1 a mA/\∀f,ZHN (fs.lookup f) (mA f)
 |.rng lo hi=>∃t u v,h.get? a=some { cls:=.type "range",data:=.fields #[.int lo t,.int hi u,.int 1 v] }
 |.frz o u=>h.get? a=some o/\ZBI H h a u
 |.tbl ps=>h.get? a=some { cls:=.none,data:=.fields ps }
 |.met f x=>h.get? a=some (methodObj (.ref f) (.ref x))
 |.ext φ=>φ h/\(∃o,h.get? a=some o)/\∀h1 h2:Heap,φ h1->(∀o,h1.get? a=some o->h2.get? a=some o)->φ h2
def HOk(H:Hp)(h:Heap):Prop:=∀a o,H a=some o->ZBI P w H h a o
end
section
variable{P:Program}{w:World}{H H':Hp}{h h':Heap}{a:Addr}{o:HO}
theorem ZBI.lt(x:ZBI P w H h a o):a<h.objs.size:=by
 cases o with
 |lst xs=>obtain⟨_,_,_,_,e⟩:=x;exact lt_size e
 |tup xs=>obtain⟨_,_,_,p⟩:=x;exact p.lt
 |dK kvs=>obtain⟨_,_,_,_,o,_,_,e,_⟩:=x;exact lt_size e
 |dT kvs=>obtain⟨_,_,_,_,o,_,_,e,_⟩:=x;exact lt_size e
 |set S n=>obtain⟨o,_,_,_,e,_⟩:=x;exact lt_size e
 |ins C dx fs=>obtain⟨_,_,_,e,_⟩:=x;exact lt_size e
 |own y=>obtain⟨_,e⟩:=x;exact lt_size e
 |xd fs=>obtain⟨_,⟨_,_,_,e,_⟩,_⟩:=x;exact lt_size e
 |rng lo hi=>obtain⟨_,_,_,e⟩:=x;exact lt_size e
 |frz ob u=>obtain⟨e,_⟩:=x;exact lt_size e
 |tbl ps=>exact lt_size (show h.get? a=some _ from x)
 |met f y=>exact lt_size (show h.get? a=some _ from x)
 |ext φ=>obtain⟨_,⟨_,e⟩,_⟩:=x;exact lt_size e
theorem Paired.mapP{α β:Type}{F G : α->β->Prop}:∀{l₁ : List α} {l₂ : List β},Paired F l₁ l₂->(∀a b,F a b->G a b)->Paired G l₁ l₂
 |_,_,.nil,_=>.nil
 |_,_,.cons r t,f=>.cons (f _ _ r) (Paired.mapP t f)
theorem ZBI.stay(x:ZBI P w H h a o)(k:∀b u,(b=a\/H b=some (.own a))->h.get? b=some u->h'.get? b=some u)
  (ho:∀b,H b=some (.own a)->H' b=some (.own a))(ht:∀b xs,H b=some (.tup xs)->H' b=some (.tup xs)):ZBI P w H' h' a o:=by
 induction o with
 |lst xs=>obtain⟨z,its,n,r,e⟩:=x;exact⟨z,its,n,r,k _ _ (.inl rfl) e⟩
 |tup xs=>obtain⟨z,its,r,ob,e,c⟩:=x;exact⟨z,its,r,ob,k _ _ (.inl rfl) e,c⟩
 |dK kvs=>obtain⟨z,y,vs,r,ob,es,ep,e,c⟩:=x;exact⟨z,y,vs,r,ob,es,ep,k _ _ (.inl rfl) e,c⟩
 |dT kvs =>
  obtain⟨z,y,xs,r,ob,es,ep,e,c⟩:=x;exact⟨z,y,xs,Paired.mapP r λp q z=>⟨z.1,ht _ _ z.2.1,z.2.2⟩,ob,es,ep,k _ _ (.inl rfl) e,c⟩
 |set S n=>obtain⟨ob,es,ep,t,e,c⟩:=x;exact⟨ob,es,ep,t,k _ _ (.inl rfl) e,c⟩
 |ins C dx fs =>
  obtain⟨d,z,ne,e,mA,⟨od,es,ep,e2,c⟩,r⟩:=x;exact⟨ho _ d,z,ne,k _ _ (.inl rfl) e,mA,⟨od,es,ep,k _ _ (.inr d) e2,c⟩,r⟩
 |own y=>obtain⟨ob,e⟩:=x;exact⟨ob,k _ _ (.inl rfl) e⟩
 |xd fs=>obtain⟨mA,⟨od,es,ep,e,c⟩,r⟩:=x;exact⟨mA,⟨od,es,ep,k _ _ (.inl rfl) e,c⟩,r⟩
 |rng lo hi=>obtain⟨t,u,v,e⟩:=x;exact⟨t,u,v,k _ _ (.inl rfl) e⟩
 |frz ob u ih=>obtain⟨e,q⟩:=x;exact⟨k _ _ (.inl rfl) e,ih q⟩
 |tbl ps =>
  have e:h.get? a=some { cls:=.none,data:=.fields ps }:=x;show h'.get? a=some { cls:=.none,data:=.fields ps };exact k a _ (.inl rfl) e
 |met f y =>
  have e:h.get? a=some (methodObj (.ref f) (.ref y)):=x;show h'.get? a=some (methodObj (.ref f) (.ref y));exact k a _ (.inl rfl) e
 |ext φ=>obtain⟨p,⟨o,e⟩,st⟩:=x;exact⟨st _ _ p λo q=>k _ _ (.inl rfl) q,⟨o,k _ _ (.inl rfl) e⟩,st⟩
theorem HOk.lt(x:HOk P w H h)(e:H a=some o):a<h.objs.size:=(x a o e).lt
theorem HOk.fresh(x:HOk P w H h)(e:h.objs.size<=a):H a=none:=by
 cases q:H a with
 |none=>rfl
 |some u=>exact absurd (lt_of_lt_of_le (x.lt q) e) (lt_irrefl _)
theorem HOk.kept(x:HOk P w H h)(k:∀b u,h.get? b=some u->h'.get? b=some u):HOk P w H h':=λa o e =>
 (x a o e).stay (λb u _ q=>k b u q) (λ_ q=>q) λ_ _ q=>q
theorem HOk.laid(x:HOk P w H h)(k:∀b u,h.get? b=some u->h'.get? b=some u)(hp:h.objs.size<=a)(new:ZBI P w (upd H a o) h' a o):HOk P w (upd H a o) h':=λb u e=>by
 have hn:=x.fresh hp
 by_cases hb:b=a
 .subst hb;rw[Za] at e;cases e;exact new
 .rw[ZG hb] at e
  exact(x b u e).stay (λc v _ q=>k c v q) (λc q=>by rw[ZG (ZJ q hn)];exact q) λc xs q=>by rw[ZG (ZJ q hn)];exact q
end
def Rd(H:Hp)(a:Addr)(u:HO):Prop:=H a=some u\/∃o,H a=some (.frz o u)
variable{P:Program}{w:World}{h:Heap}
theorem Rd.ok{u:HO}(r:Rd H a u)(x:HOk P w H h):ZBI P w H h a u:=by
 rcases r with r|⟨o,r⟩
 .exact x a u r
 .obtain⟨_,q⟩:=x a _ r
  exact q
def Mut:Option HO->Prop
 |some (.lst _)=>True
 |some (.dK _)=>True
 |some (.dT _)=>True
 |some (.set _ _)=>True
 |some (.ins _ _ _)=>True
 |some (.ext _)=>True
 |_=>False
section
variable{P:Program}{w:World}{H:Hp}{h h':Heap}{x e:Addr}{o':HO}
theorem HOk.write(ok:HOk P w H h)(mu:Mut (H x))(he:e=x\/H e=some (.own x))(k:∀b u,b≠e->h.get? b=some u->h'.get? b=some u)(heo:∃u,h'.get? e=some u)
  (new:ZBI P w (upd H x o') h' x o'):HOk P w (upd H x o') h':=λb u q=>by
 have nown:∀c y,H c=some (.own y)->c≠x:=λc y r z=>by subst z;rw[r] at mu;exact mu
 have ntup:∀c xs,H c=some (.tup xs)->c≠x:=λc xs r z=>by subst z;rw[r] at mu;exact mu
 by_cases hb:b=x
 .subst hb;rw[Za] at q;cases q;exact new
 .rw[ZG hb] at q
  by_cases hbe:b=e
  .have q':H b=some (.own x):=by
    rcases he with z|z
    .exact absurd (hbe.trans z) hb
    .rw[hbe];exact z
   rw[q] at q';cases q';obtain⟨v,hv⟩:=heo;exact⟨v,by rw[hbe];exact hv⟩
  .refine(ok b u q).stay (λc v hc r=>k c v ?_ r) (λc r=>by rw[ZG (nown c b r)];exact r) λc xs r=>by rw[ZG (ntup c xs r)];exact r
   rcases hc with rfl|hc
   .exact hbe
   .rintro rfl
    rcases he with z|z
    .exact nown c b hc z
    .rw[hc] at z;cases z;exact hb rfl
end
structure Un (fs ex:List Addr) (H H':Hp) (h h':Heap):Prop where
 keep:∀b o,h.get? b=some o->H b=none->b∉fs->b∉ex->h'.get? b=some o
 slot:∀b o,h.get? b=some o->H b=none->b∈fs->b∉ex->∃sl,h'.get? b=some { o with slots:=sl }
 free:∀b o,h.get? b=some o->H b=none->b∉ex->H' b=none
 there:∀b o,h.get? b=some o->b∉ex->∃o',h'.get? b=some o'
 tups:∀b xs,H b=some (.tup xs)->H' b=some (.tup xs)
 frzs:∀b o u,H b=some (.frz o u)->H' b=some (.frz o u)
 tbls:∀b ps,H b=some (.tbl ps)->∃more,H' b=some (.tbl (ps++more))
section
variable{fs fs' ex ex':List Addr}{H H1 H2:Hp}{h h1 h2 h':Heap}{a x e:Addr}{o:HO}
theorem Un.any(u:Un fs ex H H1 h h1){ob:Obj}(q:h.get? b=some ob)(n:H b=none)(hx:b∉ex):∃sl,h1.get? b=some { ob with slots:=sl }:=by
 by_cases hb:b∈fs
 .exact u.slot b ob q n hb hx
 .exact⟨ob.slots,u.keep b ob q n hb hx⟩
theorem Un.kept(k:∀b u,h.get? b=some u->h'.get? b=some u):Un fs ex H H h h' :=
 ⟨λb ob q _ _ _=>k b ob q,λb ob q _ _ _=>⟨ob.slots,k b ob q⟩,λ_ _ _ n _=>n,λb ob q _=>⟨ob,k b ob q⟩,λ_ _ q=>q,λ_ _ _ q=>q,λ_ ps q=>⟨#[],by rw[q];simp⟩⟩
theorem Un.refl:Un fs ex H H h h:=Un.kept λ_ _ q=>q
theorem Un.laid(k:∀b u,h.get? b=some u->h'.get? b=some u)(hp:h.objs.size<=a)(hn:H a=none):Un fs ex H (upd H a o) h h' where
 keep:=λb u q _ _ _=>k b u q
 slot:=λb u q _ _ _=>⟨u.slots,k b u q⟩
 free:=λb u q n _=>by rw[ZG (ne_of_lt (lt_of_lt_of_le (lt_size q) hp))];exact n
 there:=λb u q _=>⟨u,k b u q⟩
 tups:=λb xs q=>by rw[ZG (ZJ q hn)];exact q
 frzs:=λb u xs q=>by rw[ZG (ZJ q hn)];exact q
 tbls:=λb ps q=>⟨#[],by rw[ZG (ZJ q hn),q];simp⟩
theorem Un.write(mu:Mut (H x))(he:e=x\/H e=some (.own x))(k:∀b u,b≠e->h.get? b=some u->h'.get? b=some u)(heo:∃u,h'.get? e=some u):Un fs ex H (upd H x o) h h':=by
 have hx:∀b,H b=none->b≠x:=λb n z=>by subst z;rw[n] at mu;exact mu
 have hb:∀b,H b=none->b≠e:=λb n z=>by
  subst z;rcases he with r|r
  .exact hx b n r
  .rw[n] at r;cases r
 have hm:∀b u,H b=some u->¬Mut (some u)->b≠x:=λb u q nm z=>by subst z;rw[q] at mu;exact nm mu
 refine⟨λb u q n _ _=>k b u (hb b n) q,λb u q n _ _=>⟨u.slots,k b u (hb b n) q⟩,λb u q n _=>by rw[ZG (hx b n)];exact n,λb u q _=>?_,
  λb xs q=>by rw[ZG (hm b _ q λz=>z)];exact q,λb u xs q=>by rw[ZG (hm b _ q λz=>z)];exact q,λb ps q=>⟨#[],by rw[ZG (hm b _ q λz=>z),q];simp⟩⟩
 by_cases hbe:b=e
 .subst hbe;exact heo
 .exact⟨u,k b u hbe q⟩
end
noncomputable def trk(h:Heap)(H:Hp):List Addr:=(List.range h.objs.size).filter λa=>(H a).isSome
def ZIy(h:Heap)(H:Hp):Heap:=PySem.W.hideAll h (trk h H)
theorem ZOD(h:Heap)(H:Hp):(ZIy h H).objs.size=h.objs.size:=PySem.W.hideAll_size _ _
variable{o:Obj}
theorem ZQI(e:h.get? b=some o)(n:H b=none):(ZIy h H).get? b=some o :=
 PySem.W.hideAll_get _ e λhm=>by
  have q:(H b).isSome=true:=(List.mem_filter.mp hm).2;rw[n] at q;simp at q
theorem ZRB(e:(ZIy h H).get? b=some o):h.get? b=some o/\H b=none:=by
 have e':h.get? b=some o:=PySem.W.of_hideAll (trk h H) e;refine⟨e',?_⟩;cases q:H b with
 |none=>rfl
 |some x =>
  have hm:b∈trk h H:=List.mem_filter.mpr ⟨List.mem_range.mpr (lt_size e'),by simp[q]⟩;have z:(ZIy h H).get? b=none:=PySem.W.hideAll_none (trk h H) hm;rw[z] at e;cases e
structure Mod (K:Frag) (mg:Str->Option Value) (base:Heap):Prop where
 kin:K.In base
 glob:base.Ns mainGlobals mg
 blt:∃mb,base.Ns builtinsNs mb/\∀x:Str,x≠"__name__"->mb x=bootBuiltins x
 nolimit:base.NoLimit
structure Cx where
 prog:Program
 w:World
 K:Frag
 mg:Str->Option Value
 base:Heap
 A:Around
 N:List Str
 s₀ : Shared
 H₀ : Hp
 env:Env
 outer:List Env
 stack:List Env
 ex:List Addr
 fn:Str->Bool
 calm:Bool
 pn:List (Addr×Obj)
 xe:Value->Shared->Prop
noncomputable def frs(l:List Env):List Addr:=l.filterMap (·.frame)
abbrev Cx.fs(X:Cx):List Addr:=frs X.outer
abbrev _root_.Yk{α:Type}(X:Cx)(m:Sem α)(Q:α->Shared->Prop)(E:Value->Shared->Prop)(s:Shared):Prop:=wpAny (model X.prog X.w) X.A m Q E s
abbrev _root_.Yl{α:Type}(P:Program)(w:World)(A:Around)(m:Sem α)(Q:α->Shared->Prop)(E:Value->Shared->Prop)(s:Shared):Prop:=wpAny (model P w) A m Q E s
abbrev _root_.Yh:=List (Addr×Obj)
abbrev _root_.Yi:=Value->Shared->Prop
abbrev _root_.Yj:=Str->Option Value
abbrev _root_.Ya(X:Cx)(e:Expr)(es:List Expr):Prop:=starEach (e::es) X.env=(false,eval e X.env)::starEach es X.env
abbrev _root_.Yb(X:Cx)(p:Pos)(es:List Expr):Prop:=(backTo p (starEach es X.env)).any (·.1)=false
abbrev _root_.Yc(X:Cx)(a b:Expr):Prop:=starEach [a,b] X.env=[(false,eval a X.env),(false,eval b X.env)]
abbrev _root_.Yd(X:Cx)(a:Expr):Prop:=starEach [a] X.env=[(false,eval a X.env)]
abbrev _root_.Ye(X:Cx)(x:Str):Prop:=X.fn x=true\/X.env.scope.names.lookup x=some .local
abbrev _root_.Yf(x:Str):Prop:=(x == ("__debug__" : Str))=false
abbrev _root_.Yg(X:Cx)(x:Str):Prop:=X.env.scope.names.lookup x=some .local
def Vis(sc:Scope)(x:Str):Prop:=sc.names.lookup x=some .local\/sc.names.lookup x=some .cell\/sc.names.lookup x=some .free
def Loc(sc:Scope)(x:Str):Prop:=sc.names.lookup x=some .local\/sc.names.lookup x=some .cell
def Look(env:Env)(h:Heap)(m:Yj)(x:Str)(u:Value):Prop :=
 (env.kindOf x=some .local/\m x=some u)\/((env.kindOf x=some .cell\/env.kindOf x=some .free)/\∃c,env.cells.lookup x=some c/\h.IsCell c (some u))
structure Cx.Ok (X:Cx):Prop where
 mod:Mod X.K X.mg X.base
 kind:X.env.scope.kind=.function
 glob:X.env.globals=mainGlobals
 blt:X.env.builtins=builtinsNs
 above:X.s₀.heap.objs.size<=X.env.locals
 inj:∀x y c,X.env.cells.lookup x=some c->X.env.cells.lookup y=some c->x=y
 has:∀x,(X.env.kindOf x=some .cell\/X.env.kindOf x=some .free)->∃c,X.env.cells.lookup x=some c
 cab:∀x c,X.fn x=true->X.env.cells.lookup x=some c->X.s₀.heap.objs.size<=c
 hd:X.calm=true->X.A.handled=none
 frames:X.A.frames=some X.stack
 stk:X.stack=X.outer\/(X.stack=X.env::X.outer/\X.env.frame=some X.env.locals)
 exf:∀b∈X.ex,b≠X.env.locals/\∀x c,X.env.cells.lookup x=some c->c≠b
 bs:∀b o,X.base.get? b=some o->X.s₀.heap.get? b=some o/\X.H₀ b=none
 bsz:X.base.objs.size<=X.s₀.heap.objs.size
 noex:∀b o,X.base.get? b=some o->b∉X.ex
 exfs:∀b∈X.ex,b∉X.fs
 funs:X.s₀.heap.FunFrames X.base X.outer
 frf:∀b∈X.fs,X.H₀ b=none
structure Inv (X:Cx) (pq:Yh) (σ : List (Option V)) (H:Hp) (s:Shared):Prop where
 ok:X.Ok
 os:s.os=X.s₀.os
 bare:AllBare s.gens
 base:Un X.fs X.ex X.H₀ H X.s₀.heap s.heap
 loc:∃m,s.heap.Ns X.env.locals m/\∀(i:Nat) (x:Str) (v:V),X.N[i]? = some x->σ[i]? = some (some v)->Vis X.env.scope x->∃u,Zq v u/\Look X.env s.heap m x u
 cell:∀x c,X.env.cells.lookup x=some c->∃v,s.heap.IsCell c v
 free:H X.env.locals=none
 freeC:∀x c,X.env.cells.lookup x=some c->H c=none
 pin:∀p∈X.pn++pq,s.heap.get? p.1=some p.2/\H p.1=none/\p.1≠X.env.locals/\p.1∉X.fs/\∀v,p.2.data≠.cell v
 hok:HOk X.prog X.w H s.heap
 len : σ.length=X.N.length
variable{g':Array GenState}{t' i j:Nat}{d':Drawn}{ch:List Addr}{it:Addr}{N:List Str}{x:Str}{M:Model}{A:Around}{E:Yi}{v:V}{u:Value}{Q:Unit->Shared->Prop}
section
variable{X:Cx}{pq:Yh}{σ:List (Option V)}{H H':Hp}{s:Shared}{h':Heap}
theorem Cx.Ok.nofr(ok:X.Ok)(e:X.base.get? b=some o):b∉X.fs:=λhb=>by
 have:=(ok.funs.mem hb).1;rw[e] at this;cases this
theorem Inv.bs(I:Inv X pq σ H s):∀b o,X.base.get? b=some o->s.heap.get? b=some o/\H b=none:=λb o e =>
 ⟨I.base.keep b o (I.ok.bs b o e).1 (I.ok.bs b o e).2 (I.ok.nofr e) (I.ok.noex b o e),I.base.free b o (I.ok.bs b o e).1 (I.ok.bs b o e).2 (I.ok.noex b o e)⟩
theorem Inv.bk(I:Inv X pq σ H s):∀b o,X.base.get? b=some o->s.heap.get? b=some o:=λb o e=>(I.bs b o e).1
theorem Inv.mod(I:Inv X pq σ H s):Mod X.K X.mg X.base:=I.ok.mod
theorem Inv.kIn(I:Inv X pq σ H s):X.K.In s.heap:=I.ok.mod.kin.keeps I.bk
theorem Inv.lt(I:Inv X pq σ H s):X.env.locals<s⁻¹:=let ⟨_,hn,_⟩:=I.loc;hn.lt
theorem Inv.sz(I:Inv X pq σ H s):X.s₀.heap.objs.size<=s⁻¹:=le_trans I.ok.above (le_of_lt I.lt)
theorem Inv.nofs(I:Inv X pq σ H s)(h:s⁻¹<=a):a∉X.fs:=λhb=>by
 obtain⟨_,o,ho,_⟩:=I.ok.funs.mem hb;exact absurd (lt_of_lt_of_le (lt_size ho) (le_trans I.sz h)) (lt_irrefl _)
theorem Inv.cne(I:Inv X pq σ H s):∀x c,X.env.cells.lookup x=some c->c≠X.env.locals:=λx c e z=>by
 obtain⟨v,o,ho,hd⟩:=I.cell x c e;obtain⟨m,⟨o',es,ep,ho',hd',_⟩,_⟩:=I.loc;rw[z,ho'] at ho;cases ho;rw[hd'] at hd;cases hd
theorem Inv.funs(I:Inv X pq σ H s):s.heap.FunFrames X.base X.outer:=by
 have all:∀(l:List Env),(∀b∈frs l,b∈X.fs)->X.s₀.heap.FunFrames X.base l->s.heap.FunFrames X.base l:=by
  intro l
  induction l with
  |nil=>intro _ _;trivial
  |cons env r ih =>
   intro hs hl;obtain⟨hk,⟨L,o,hf,hn,ho,hd⟩,hr⟩:=hl;have hL:L∈X.fs:=hs L (by unfold frs;rw[List.filterMap_cons,hf];exact Xs);obtain⟨sl,e⟩:=I.base.slot L o ho (I.ok.frf L hL) hL λz=>I.ok.exfs L z hL
   exact⟨hk,⟨L,_,hf,hn,e,hd⟩,ih (λb hb=>hs b (by unfold frs;rw[List.filterMap_cons,hf];exact Xo _ hb)) hr⟩
 exact all X.outer (λ_ hb=>hb) I.ok.funs
theorem Inv.stack(I:Inv X pq σ H s):s.heap.FunFrames X.base X.stack:=by
 rcases I.ok.stk with e|⟨e,hf⟩
 .rw[e];exact I.funs
 .rw[e]
  obtain⟨m,hn,_⟩:=I.loc;refine .cons (by rw[I.ok.kind];decide) hf hn ?_ I.funs;exact Heap.get?_none_of_le (le_trans I.ok.bsz I.ok.above)
theorem Inv.stkSub(I:Inv X pq σ H s):∀b∈frs X.stack,b∈X.env.locals::X.fs:=λb hb=>by
 rcases I.ok.stk with e|⟨e,hf⟩
 .rw[e] at hb;exact Xo _ hb
 .rw[e] at hb
  unfold frs at hb;rw[List.filterMap_cons,hf] at hb;exact hb
theorem Inv.stkFree(I:Inv X pq σ H s):∀b∈frs X.stack,H b=none:=λb hb=>by
 rcases List.mem_cons.mp (I.stkSub b hb) with e|hb
 .rw[e];exact I.free
 .obtain⟨_,o,ho,_⟩:=I.ok.funs.mem hb
  exact I.base.free b o ho (I.ok.frf b hb) λz=>I.ok.exfs b z hb
theorem Inv.step(I:Inv X pq σ H s)
  (hch:∀b∈ch,(b∈X.ex\/X.s₀.heap.objs.size<=b)/\b≠X.env.locals/\(∀x c,X.env.cells.lookup x=some c->c≠b)/\∀p∈X.pn++pq,p.1≠b)
  (keep:∀b o,b≠X.env.locals->b∉X.fs->b∉ch->s.heap.get? b=some o->H b=none->h'.get? b=some o)
  (slot:∀b o,b≠X.env.locals->b∈X.fs->b∉ch->s.heap.get? b=some o->H b=none->∃sl,h'.get? b=some { o with slots:=sl })(free:∀b o,b∉ch->s.heap.get? b=some o->H b=none->H' b=none)
  (there:∀b o,b∉ch->s.heap.get? b=some o->∃o',h'.get? b=some o')
  (tups:∀b xs,H b=some (.tup xs)->H' b=some (.tup xs))(frzs:∀b o u,H b=some (.frz o u)->H' b=some (.frz o u))(tbls:∀b ps,H b=some (.tbl ps)->∃more,H' b=some (.tbl (ps++more)))
  (ns:∀m,s.heap.Ns X.env.locals m->h'.Ns X.env.locals m)(hok:HOk X.prog X.w H' h')(hg:AllBare g') :
  Inv X pq σ H' { s with heap:=h',gens:=g',drawn:=d',toks:=t' }:=by
 have neL:∀b o,X.s₀.heap.get? b=some o->b≠X.env.locals:=λb o e=>ne_of_lt (lt_of_lt_of_le (lt_size e) I.ok.above)
 have neC:∀b o,X.s₀.heap.get? b=some o->b∉X.ex->b∉ch:=λb o e hx hb=>by
  rcases(hch b hb).1 with z|z
  .exact hx z
  .exact absurd (lt_of_lt_of_le (lt_size e) z) (lt_irrefl _)
 have cellK:∀x c,X.env.cells.lookup x=some c->∀v,s.heap.IsCell c v->h'.IsCell c v:=λx c e v ⟨o,ho,hd⟩=>by
  have nch:c∉ch:=λz=>(hch c z).2.2.1 x c e rfl
  by_cases hc:c∈X.fs
  .obtain⟨sl,q⟩:=slot c o (I.cne x c e) hc nch ho (I.freeC x c e)
   exact⟨_,q,hd⟩
  .exact⟨o,keep c o (I.cne x c e) hc nch ho (I.freeC x c e),hd⟩
 refine⟨I.ok,I.os,hg,⟨λb o e n hb hx=>?_,λb o e n hb hx=>?_,λb o e n hx=>?_,λb o e hx=>?_,λb xs e=>tups b xs (I.base.tups b xs e),λb o xs e=>frzs b o xs (I.base.frzs b o xs e),λb ps e=>?_⟩,?_,λx c e=>?_,?_,λx c e=>?_,λp hp=>?_,hok,I.len⟩
 .exact keep b o (neL b o e) hb (neC b o e hx) (I.base.keep b o e n hb hx) (I.base.free b o e n hx)
 .obtain⟨sl,e1⟩:=I.base.slot b o e n hb hx
  obtain⟨sl',e2⟩:=slot b _ (neL b o e) hb (neC b o e hx) e1 (I.base.free b o e n hx);exact⟨sl',e2⟩
 .obtain⟨o',e1⟩:=I.base.there b o e hx
  exact free b o' (neC b o e hx) e1 (I.base.free b o e n hx)
 .obtain⟨o',e1⟩:=I.base.there b o e hx
  exact there b o' (neC b o e hx) e1
 .obtain⟨m1,e1⟩:=I.base.tbls b ps e
  obtain⟨m2,e2⟩:=tbls b _ e1;exact⟨m1++m2,by rw[e2,Array.append_assoc]⟩
 .obtain⟨m,hn,hl⟩:=I.loc
  refine⟨m,ns m hn,λi x v e1 e2 e3=>?_⟩;obtain⟨u,r,l⟩:=hl i x v e1 e2 e3;refine⟨u,r,?_⟩;rcases l with l|⟨k,c,e,z⟩
  .exact .inl l
  .exact .inr ⟨k,c,e,cellK x c e _ z⟩
 .obtain⟨v,z⟩:=I.cell x c e
  exact⟨v,cellK x c e v z⟩
 .obtain⟨m,⟨o,_,_,ho,_⟩,_⟩:=I.loc
  exact free _ o (λz=>(hch _ z).2.1 rfl) ho I.free
 .obtain⟨v,o,ho,hd⟩:=I.cell x c e
  exact free c o (λz=>(hch c z).2.2.1 x c e rfl) ho (I.freeC x c e)
 .obtain⟨e,n,ne,nf,d⟩:=I.pin p hp
  have nch:p.1∉ch:=λz=>(hch p.1 z).2.2.2 p hp rfl
  exact⟨keep p.1 p.2 ne nf nch e n,free p.1 p.2 nch e n,ne,nf,d⟩
theorem Inv.un(I:Inv X pq σ H s)(u:Un X.fs [] H H' s.heap h')(hok:HOk X.prog X.w H' h'):Inv X pq σ H' { s with heap:=h',toks:=t' }:=by
 obtain ⟨m,⟨o,es,ep,ho,r⟩,_⟩:=id I.loc;obtain ⟨sl,hL⟩:=u.any ho I.free (by simp);exact I.step (g':=s.gens) (d':=s.drawn) (ch:=[]) (λ _ z=>nomatch z) (λ b o _ hb _ e n=>u.keep b o e n hb (by simp)) (λ b o _ hb _ e n=>u.slot b o e n hb (by simp)) (λ b o _ e n=>u.free b o e n (by simp)) (λ b o _ e=>u.there b o e (by simp)) u.tups u.frzs u.tbls (λ m' hm=>by
  obtain⟨o',es',ep',ho',r'⟩:=hm;rw[ho] at ho';cases ho';exact⟨_,es',ep',hL,r'⟩) hok I.bare
theorem Inv.call(I:Inv X pq σ H s)(u:Un (frs X.stack) ch H H' s.heap h')(hok:HOk X.prog X.w H' h')(hg:AllBare g')
  (hch:∀b∈ch,(b∈X.ex\/X.s₀.heap.objs.size<=b)/\b≠X.env.locals/\(∀x c,X.env.cells.lookup x=some c->c≠b)/\∀p∈X.pn++pq,p.1≠b) :
  Inv X pq σ H' { s with heap:=h',gens:=g',drawn:=d',toks:=t' }:=by
 obtain⟨m,⟨o,es,ep,ho,r⟩,_⟩:=id I.loc;obtain⟨sl,hL⟩:=u.any ho I.free λz=>(hch _ z).2.1 rfl
 exact I.step (ch:=ch) hch (λ b o hL hb hc e n=>u.keep b o e n (λ z=>(List.mem_cons.mp (I.stkSub b z)).elim hL hb) hc) (λ b o _ _ hc e n=>u.any e n hc) (λ b o hc e n=>u.free b o e n hc) (λ b o hc e=>u.there b o e hc) u.tups u.frzs u.tbls (λ m' hm=>by
  obtain⟨o',es',ep',ho',r'⟩:=hm;rw[ho] at ho';cases ho';exact⟨_,es',ep',hL,r'⟩) hok hg
theorem Inv.turned(I:Inv X pq σ H s)(k:∀b o,b≠it->s.heap.get? b=some o->h'.get? b=some o)(hn:H it=none)(hL:it≠X.env.locals)
  (h1:it∈X.ex\/X.s₀.heap.objs.size<=it)(h2:∀x c,X.env.cells.lookup x=some c->c≠it)(h3:∀p∈X.pn++pq,p.1≠it):Inv X pq σ H { s with heap:=h',toks:=t' }:=by
 have nit:∀b u,H b=some u->b≠it:=λb u e z=>by rw[z,hn] at e;cases e
 refine I.step (g':=s.gens) (d':=s.drawn) (ch:=[it]) (λb hb=>?_) (λb o _ _ hc e _=>k b o (λz=>hc (by simp[z])) e) (λb o _ _ hc e _=>⟨o.slots,k b o (λz=>hc (by simp[z])) e⟩) (λ_ _ _ _ n=>n)
  (λb o hc e=>⟨o,k b o (λz=>hc (by simp[z])) e⟩) (λ_ _ e=>e) (λ_ _ _ e=>e) (λb ps e=>⟨#[],by rw[e];simp⟩) (λm hm=>?_) (λb u e=>?_) I.bare
 .have e:b=it:=by simpa using hb
  subst e;exact⟨h1,hL,h2,h3⟩
 .obtain⟨o,es,ep,ho,r⟩:=hm
  exact⟨o,es,ep,k _ o (Ne.symm hL) ho,r⟩
 .refine(I.hok b u e).stay (λc v hc q=>k c v ?_ q) (λ_ q=>q) λ_ _ q=>q
  rcases hc with z|z
  .rw[z];exact nit b u e
  .exact nit c _ z
theorem Inv.tok(I:Inv X pq σ H s)(t:Nat):Inv X pq σ H { s with toks:=t }:=I.un (h':=s.heap) (t':=t) Un.refl I.hok
theorem Inv.kept{t':Nat}(I:Inv X pq σ H s)(k:∀b u,s.heap.get? b=some u->h'.get? b=some u):Inv X pq σ H { s with heap:=h',toks:=t' }:=I.un (Un.kept k) (I.hok.kept k)
theorem Inv.laid{a:Addr}{o:HO}{t':Nat}(I:Inv X pq σ H s)(k:∀b u,s.heap.get? b=some u->h'.get? b=some u)(hp:s⁻¹<=a)(new:ZBI X.prog X.w (upd H a o) h' a o) :
  Inv X pq σ (upd H a o) { s with heap:=h',toks:=t' }:=I.un (Un.laid k hp (I.hok.fresh hp)) (I.hok.laid k hp new)
theorem Inv.write{x e:Addr}{o:HO}{t':Nat}(I:Inv X pq σ H s)(mu:Mut (H x))(he:e=x\/H e=some (.own x))(k:∀b u,b≠e->s.heap.get? b=some u->h'.get? b=some u)(heo:∃u,h'.get? e=some u)
  (new:ZBI X.prog X.w (upd H x o) h' x o):Inv X pq σ (upd H x o) { s with heap:=h',toks:=t' }:=I.un (Un.write mu he k heo) (I.hok.write mu he k heo new)
theorem Inv.weak{σ':List (Option V)}(I:Inv X pq σ H s)(hl : σ'.length = σ.length)(w:∀(i:Nat) v,σ'[i]? = some (some v)->σ[i]? = some (some v)):Inv X pq σ' H s :=
 ⟨I.ok,I.os,I.bare,I.base,let ⟨m,hn,hl'⟩:=I.loc;⟨m,hn,λi x v e1 e2 e3=>hl' i x v e1 (w i v e2) e3⟩,I.cell,I.free,I.freeC,I.pin,I.hok,hl.trans I.len⟩
theorem Inv.pins_of{pq':Yh}(I:Inv X pq σ H s)(h:∀p∈pq',s.heap.get? p.1=some p.2/\H p.1=none/\p.1≠X.env.locals/\p.1∉X.fs/\∀v,p.2.data≠.cell v):Inv X pq' σ H s :=
 ⟨I.ok,I.os,I.bare,I.base,I.loc,I.cell,I.free,I.freeC,λp hp=>(List.mem_append.mp hp).elim (λz=>I.pin p (mem_append_left _ z)) (h p),I.hok,I.len⟩
theorem ZKN(hN:N.Nodup)(a:N[i]? = some x)(b:N[j]? = some x):i=j:=by
 obtain⟨h1,e1⟩:=List.getElem?_eq_some_iff.mp a;obtain⟨h2,e2⟩:=List.getElem?_eq_some_iff.mp b;exact(List.getElem_inj hN).mp (e1.trans e2.symm)
theorem ZHT(I:Inv X pq σ H s)(hN:X.N.Nodup)(hi:X.N[i]? = some x)(hx:Loc X.env.scope x)(r:Zq v u)
  (h:∀s',Inv X pq (σ.set i (some v)) H s'->(∃a,Heap.SameBut a s.heap s'.heap/\(a=X.env.locals\/X.env.cells.lookup x=some a))->Q () s')(hf:Ye X x:=by first|exact .inl rfl|exact .inr rfl|assumption):wpAny M A (storeName X.env x u) Q E s:=by
 obtain⟨m,hn,hl⟩:=id I.loc;have hcls:(X.env.scope.kind == .class || (X.env.scope.kind == .module && X.env.locals != X.env.globals))=false:=by rw[I.ok.kind];rfl
 have hiσ : i<σ.length:=by rw[I.len];exact(List.getElem?_eq_some_iff.mp hi).1
 have cne:=I.cne;have tracked:∀{a:Addr} {h':Heap},(∃o,s.heap.get? a=some o/\H a=none)->Heap.SameBut a s.heap h'->HOk X.prog X.w H h':=λ{a h'} ha hs b ob e=>by
  obtain⟨_,_,hfree⟩:=ha;refine(I.hok b ob e).stay (λc w' hc q=>(hs.2 c ?_).trans q) (λ_ q=>q) λ_ _ q=>q
  rintro rfl
  rcases hc with rfl|hc
  .rw[hfree] at e;cases e
  .rw[hfree] at hc;cases hc
 rcases hx with hk|hk
 .refine wpAny_storeName_local hk hn (λh' hn' hs=>?_) hcls
  obtain⟨oL,_,_,hoL,_⟩:=id hn;refine h _ ⟨I.ok,I.os,I.bare,⟨λb o e n hb hx=>?_,λb o e n hb hx=>?_,I.base.free,λb o e hx=>?_,I.base.tups,I.base.frzs,I.base.tbls⟩,⟨_,hn',λj y v' e1 e2 e3=>?_⟩,λy c e=>?_,I.free,I.freeC,λp hp=>?_,tracked ⟨oL,hoL,I.free⟩ hs,by simpa using I.len⟩ ⟨_,hs,.inl rfl⟩
  .exact(hs.2 b (ne_of_lt (lt_of_lt_of_le (lt_size e) I.ok.above))).trans (I.base.keep b o e n hb hx)
  .obtain⟨sl,e1⟩:=I.base.slot b o e n hb hx
   exact⟨sl,(hs.2 b (ne_of_lt (lt_of_lt_of_le (lt_size e) I.ok.above))).trans e1⟩
  .obtain⟨o',e1⟩:=I.base.there b o e hx
   exact⟨o',(hs.2 b (ne_of_lt (lt_of_lt_of_le (lt_size e) I.ok.above))).trans e1⟩
  .by_cases hj:j=i
   .subst hj
    rw[hi] at e1;cases e1;rw[getElem?_set_self hiσ] at e2;cases e2;exact⟨u,r,.inl ⟨hk,by simp⟩⟩
   .rw[getElem?_set_ne (Ne.symm hj)] at e2
    obtain⟨u',r',q⟩:=hl j y v' e1 e2 e3;refine⟨u',r',?_⟩;rcases q with ⟨k,e⟩|⟨k,c,e,z⟩
    .refine .inl ⟨k,?_⟩
     have:y≠x:=λe=>hj (ZKN hN e1 (e ▸ hi))
     simp[this,e]
    .exact .inr ⟨k,c,e,z.sameBut hs (cne y c e)⟩
  .obtain⟨w',z⟩:=I.cell y c e
   exact⟨w',z.sameBut hs (cne y c e)⟩
  .obtain⟨e,n,ne,nf,d⟩:=I.pin p hp
   exact⟨(hs.2 p.1 ne).trans e,n,ne,nf,d⟩
 .have hfn:X.fn x=true:=by
   rcases hf with z|z
   .exact z
   .rw[z] at hk;cases hk
  obtain⟨c,hc⟩:=I.ok.has x (.inl hk);obtain⟨w',z⟩:=I.cell x c hc;refine wpAny_storeName_cell I.ok.kind hk hc z (λh' hc' hs=>?_);obtain⟨oc,hoc,hocd⟩:=id z;refine h { s with heap:=h' } ⟨I.ok,I.os,I.bare,⟨λb o e n hb hx=>?_,λb o e n hb hx=>?_,I.base.free,λb o e hx=>?_,I.base.tups,I.base.frzs,I.base.tbls⟩,⟨m,hn.sameBut hs (Ne.symm (cne x c hc)),λj y v' e1 e2 e3=>?_⟩,λy c' e=>?_,I.free,I.freeC,λp hp=>?_,tracked ⟨oc,hoc,I.freeC x c hc⟩ hs,by simpa using I.len⟩ ⟨c,hs,.inr hc⟩
  .exact(hs.2 b (ne_of_lt (lt_of_lt_of_le (lt_size e) (I.ok.cab x c hfn hc)))).trans (I.base.keep b o e n hb hx)
  .obtain⟨sl,e1⟩:=I.base.slot b o e n hb hx
   exact⟨sl,(hs.2 b (ne_of_lt (lt_of_lt_of_le (lt_size e) (I.ok.cab x c hfn hc)))).trans e1⟩
  .obtain⟨o',e1⟩:=I.base.there b o e hx
   exact⟨o',(hs.2 b (ne_of_lt (lt_of_lt_of_le (lt_size e) (I.ok.cab x c hfn hc)))).trans e1⟩
  .by_cases hj:j=i
   .subst hj
    rw[hi] at e1;cases e1;rw[getElem?_set_self hiσ] at e2;cases e2;exact⟨u,r,.inr ⟨.inl hk,c,hc,hc'⟩⟩
   .rw[getElem?_set_ne (Ne.symm hj)] at e2
    obtain⟨u',r',q⟩:=hl j y v' e1 e2 e3;refine⟨u',r',?_⟩;rcases q with q|⟨k,c',e,z'⟩
    .exact .inl q
    .refine .inr ⟨k,c',e,z'.sameBut hs ?_⟩
     rintro rfl
     exact hj (ZKN hN e1 (I.ok.inj _ _ _ e hc ▸ hi))
  .by_cases hcc:c'=c
   .subst hcc;exact⟨_,hc'⟩
   .obtain⟨w2,z2⟩:=I.cell y c' e
    exact⟨w2,z2.sameBut hs hcc⟩
  .obtain⟨e,n,ne,nf,d⟩:=I.pin p hp
   refine⟨(hs.2 p.1 ?_).trans e,n,ne,nf,d⟩;intro q;rw[q,hoc] at e;have q':oc=p.2:=Option.some.inj e;exact d w' (by rw[<-q'];exact hocd)
theorem ZBK(I:Inv X pq σ H s)(hN:X.N.Nodup)(hi:X.N[i]? = some x)(hx:Loc X.env.scope x)(r:Zq v u)
  (h:∀s',Inv X pq (σ.set i (some v)) H s'->Q () s')(hf:Ye X x:=by first|exact .inl rfl|exact .inr rfl|assumption):wpAny M A (storeName X.env x u) Q E s :=
 ZHT I hN hi hx r (λs' I' _=>h s' I') hf
theorem Inv.call'{s':Shared}(I:Inv X pq σ H s)(ho:s'.os=s.os)(u:Un (frs X.stack) ch H H' s.heap s'.heap)(hok:HOk X.prog X.w H' s'.heap)(hg:AllBare s'.gens)
  (hch:∀b∈ch,(b∈X.ex\/X.s₀.heap.objs.size<=b)/\b≠X.env.locals/\(∀x c,X.env.cells.lookup x=some c->c≠b)/\∀p∈X.pn++pq,p.1≠b):Inv X pq σ H' s':=by
 obtain⟨h',g',d',t',o'⟩:=s';have e:o'=s.os:=ho;subst e;exact I.call (g':=g') (t':=t') (d':=d') u hok hg hch
end
abbrev XK:=Value->Option Addr->Hp->Prop
abbrev St:=List (Option V)
abbrev VK:=V->Hp->Prop
abbrev TE:=St->Hp->VK->Prop
abbrev TT:=St->Hp->(Bool->Hp->Prop)->Prop
abbrev TA:=St->Hp->(List V->Hp->Prop)->Prop
structure Ends where
 nx:St->Hp->Prop
 rt:VK
 bk:St->Hp->Prop:=λ_ _=>False
 ct:St->Hp->Prop:=λ_ _=>False
abbrev TS:=Ends->St->Hp->Prop
def EP(X:Cx)(pq:Yh)(σ : St)(Q:VK)(u:Value)(s':Shared):Prop:=∃v H',Inv X pq σ H' s'/\Zq v u/\Q v H'
def TP(X:Cx)(pq:Yh)(σ : St)(Q:Bool->Hp->Prop)(b:Bool)(s':Shared):Prop:=∃H',Inv X pq σ H' s'/\Q b H'
def AP(X:Cx)(pq:Yh)(σ : St)(Q:List V->Hp->Prop)(us:List Value)(s':Shared):Prop:=∃vs H',Inv X pq σ H' s'/\Zb vs us/\Q vs H'
def SP(X:Cx)(pq:Yh)(D:Ends)(f:Flow)(s':Shared):Prop :=
 match f with
 |.next=>∃σ' H',Inv X pq σ' H' s'/\D.nx σ' H'
 |.brk=>∃σ' H',Inv X pq σ' H' s'/\D.bk σ' H'
 |.cont=>∃σ' H',Inv X pq σ' H' s'/\D.ct σ' H'
 |.ret u=>∃v σ' H',Inv X pq σ' H' s'/\Zq v u/\D.rt v H'
def PE(X:Cx)(e:Expr)(t:TE):Prop :=
 ∀(pq:Yh) (s:Shared) (σ : St) (H:Hp) (Q:VK),Inv X pq σ H s->t σ H Q->Yk X (eval e X.env) (EP X pq σ Q) X.xe s
def PT(X:Cx)(e:Expr)(t:TT):Prop :=
 ∀(pq:Yh) (s:Shared) (σ : St) (H:Hp) (Q:Bool->Hp->Prop),Inv X pq σ H s->t σ H Q->Yk X (isTrue e X.env (eval e X.env)) (TP X pq σ Q) X.xe s
def PW(X:Cx)(e:Expr)(t:TT):Prop :=
 ∀(whole:Sem Value) (pq:Yh) (s:Shared) (σ : St) (H:Hp) (Q:Bool->Hp->Prop),Inv X pq σ H s->t σ H Q->Yk X (isTrue e X.env whole) (TP X pq σ Q) X.xe s
variable{X:Cx}{e:Expr}
theorem PW.pt{t:TT}(h:PW X e t):PT X e t:=h _
def PA(X:Cx)(es:List Expr)(t:TA):Prop :=
 ∀(pos:Pos) (pq:Yh) (s:Shared) (σ : St) (H:Hp) (Q:List V->Hp->Prop),Inv X pq σ H s->t σ H Q->Yk X (spliced (backTo pos (starEach es X.env))) (AP X pq σ Q) X.xe s
def PS(X:Cx)(st:Stmt)(t:TS):Prop :=
 ∀(pq:Yh) (s:Shared) (σ : St) (H:Hp) (D:Ends),Inv X pq σ H s->t D σ H->Yk X (exec st X.env) (SP X pq D) X.xe s
def PSs(X:Cx)(st:List Stmt)(t:TS):Prop :=
 ∀(pq:Yh) (s:Shared) (σ : St) (H:Hp) (D:Ends),Inv X pq σ H s->t D σ H->Yk X (execs st X.env) (SP X pq D) X.xe s
theorem thn{α:Type}{t:Sem α}{Q Q':α->Shared->Prop}{s:Shared}(h:wpAny M A t Q E s)(hQ:∀a s,Q a s->Q' a s):wpAny M A t Q' E s:=wpAny_mono h hQ λ_ _ x=>x
variable{pos:Pos}{pq:Yh}{s:Shared}{σ:St}{t:TE}
section
variable{X:Cx}
def tVar(i:Nat):TE:=λσ H Q=>∃v,σ[i]? = some (some v)/\Q v H
def tC(v:V):TE:=λ_ H Q=>Q v H
theorem ZVf(hN:X.N[i]? = some x)(hv:Vis X.env.scope x)(hd:Yf x:=by decide)(hcd:(x == ("__classdict__" : Str))=false:=by decide):PE X (.Name x pos) (tVar i):=by
 intro pq s σ H Q I h;obtain⟨v,e,h⟩:=h;obtain⟨m,hn,hl⟩:=I.loc;obtain⟨u,r,l⟩:=hl i x v hN e hv;have fin:EP X pq σ Q u s:=⟨v,H,I,r,h⟩;rcases l with ⟨hk,hm⟩|⟨hk,c,hc,hcell⟩
 .exact wpAny_Name (wpAny_loadName_local I.ok.kind hk hn hm fin) hd
 .rcases hk with hk|hk
  .exact wpAny_Name (wpAny_loadName_cell I.ok.kind hk hc hcell fin) hd
  .exact wpAny_Name (wpAny_loadName_free I.ok.kind hk hc hcell fin hcd) hd
theorem ZLH{i j pos}:PE X (.Constant (.int i) j pos) (tC (.int i)):=λ_ _ _ H _ I h=>wpAny_Constant_int ⟨.int i,H,I.tok _,⟨_,rfl⟩,h⟩
theorem pe_bl{b j pos}:PE X (.Constant (.bool b) j pos) (tC (.bl b)):=λ_ _ _ H _ I h=>Constant_bool ⟨.bl b,H,I,rfl,h⟩
theorem ZVa{j pos}:PE X (.Constant .none j pos) (tC .non):=λ_ _ _ H _ I h=>Constant_none ⟨.non,H,I,rfl,h⟩
theorem ZUp{x j pos}:PE X (.Constant (.str x) j pos) (tC (.str x)):=λ_ _ _ H _ I h=>Calls.Constant_str ⟨.str x,H,I.tok _,⟨_,rfl⟩,h⟩
def Gl(X:Cx)(x:Str):Prop:=X.env.kindOf x=some .globalImplicit
theorem ZFg{Q:Yi}(I:Inv X pq σ H s)(hg:Gl X x)(hm:X.mg x=some u)(h:Q u s)
  (hd:Yf x:=by decide):Yk X (eval (.Name x pos) X.env) Q E s :=
 Calls.Name_function_global I.ok.kind hg (Calls.loadGlobal_global (by rw[I.ok.glob];exact I.mod.glob.keeps I.bk) hm h) hd
theorem ZDr{Q:Yi}(I:Inv X pq σ H s)(hg:Gl X x)(hm:X.mg x=none)(hv:bootBuiltins x=some u)(h:Q u s)
  (hn:x≠"__name__":=by decide)(hd:Yf x:=by decide):Yk X (eval (.Name x pos) X.env) Q E s:=by
 obtain⟨mb,h1,h2⟩:=I.mod.blt;exact Calls.Name_function_global I.ok.kind hg (Calls.loadGlobal_builtin (by rw[I.ok.glob];exact I.mod.glob.keeps I.bk) hm (by rw[I.ok.blt];exact h1.keeps I.bk) ((h2 x hn).trans hv) h) hd
theorem ZSl(hg:Gl X x)(hm:X.mg x=some u)(r:Zq v u)(hd:Yf x:=by decide):PE X (.Name x pos) (tC v) :=
 λ_ _ _ H _ I h=>ZFg I hg hm ⟨v,H,I,r,h⟩ hd
theorem ZRt(hg:Gl X x)(hm:X.mg x=none)(hv:bootBuiltins x=some u)(r:Zq v u)(hn:x≠"__name__":=by decide)(hd:Yf x:=by decide):PE X (.Name x pos) (tC v) :=
 λ_ _ _ H _ I h=>ZDr I hg hm hv ⟨v,H,I,r,h⟩ hn hd
variable{a b:Expr}{ta tb:TE}{pos:Pos}
def tB(t:TE):TT:=λσ H Q=>t σ H λx H1=>∃c,x=.bl c/\Q c H1
theorem ZVh(h:PE X e t)(he:∀whole,isTrue e X.env whole=(do let v <-whole;standAt e.pos;holding [v] (truthy v)):=by intro _;rfl):PT X e (tB t):=by
 intro pq s σ H Q I hw;refine isTrue_plain (thn (h pq s σ H _ I hw) λv s1 ⟨x,H1,I1,r1,q1⟩=>?_) (he _);obtain⟨d,rfl,q⟩:=q1;cases r1;exact wpAny_truthy_bool ⟨H1,I1,q⟩
variable{tA tB':TT}{rest:List Expr}
def tAnd(t u:TT):TT:=λσ H Q=>t σ H λc H1=>if c=true then u σ H1 Q else Q false H1
def tOr(t u:TT):TT:=λσ H Q=>t σ H λc H1=>if c=true then Q true H1 else u σ H1 Q
def tNot(t:TT):TT:=λσ H Q=>t σ H λc H1=>Q (!c) H1
theorem ZTN(ha:PT X a tA):PW X (.BoolOp .And [a] pos) tA:=by
 intro wh pq s σ H Q I h;refine isTrue_and (thn (ha pq s σ H Q I h) λc s1 e=>?_);cases c with
 |true=>exact isTrue_and_nil e
 |false=>exact e
theorem ZVd(ha:PT X a tA):PW X (.BoolOp .Or [a] pos) tA:=by
 intro wh pq s σ H Q I h;refine isTrue_or (thn (ha pq s σ H Q I h) λc s1 e=>?_);cases c with
 |false=>exact isTrue_or_nil e
 |true=>exact e
theorem ZUj(ha:PT X a tA)(hb:PW X (.BoolOp .And (b::rest) pos) tB'):PW X (.BoolOp .And (a::b::rest) pos) (tAnd tA tB'):=by
 intro wh pq s σ H Q I h;refine isTrue_and (thn (ha pq s σ H _ I h) λc s1 ⟨H1,I1,q1⟩=>?_);cases c with
 |true=>exact hb wh pq s1 σ H1 Q I1 q1
 |false=>exact⟨H1,I1,q1⟩
theorem pw_or(ha:PT X a tA)(hb:PW X (.BoolOp .Or (b::rest) pos) tB'):PW X (.BoolOp .Or (a::b::rest) pos) (tOr tA tB'):=by
 intro wh pq s σ H Q I h;refine isTrue_or (thn (ha pq s σ H _ I h) λc s1 ⟨H1,I1,q1⟩=>?_);cases c with
 |true=>exact⟨H1,I1,q1⟩
 |false=>exact hb wh pq s1 σ H1 Q I1 q1
theorem ZUB(ha:PT X a tA):PT X (.UnaryOp .Not a pos) (tNot tA):=by
 intro pq s σ H Q I h;exact isTrue_not (ha pq s σ H (λc H1=>Q (!c) H1) I h)
def tAndV(ta tb:TE):TE:=λσ H Q=>ta σ H λx H1=>∃c,x=.bl c/\if c=true then tb σ H1 Q else Q (.bl false) H1
def tOrV(ta tb:TE):TE:=λσ H Q=>ta σ H λx H1=>∃c,x=.bl c/\if c=true then Q (.bl true) H1 else tb σ H1 Q
def tNotV(ta:TE):TE:=λσ H Q=>ta σ H λx H1=>∃c,x=.bl c/\Q (.bl (!c)) H1
theorem ZU7{op}(h:PE X a t):PE X (.BoolOp op [a] pos) t:=λpq s σ H Q I hw=>BoolOp_one (h pq s σ H Q I hw)
theorem ZUV(ha:PE X a ta)(hb:PE X (.BoolOp .And (b::rest) pos) tb):PE X (.BoolOp .And (a::b::rest) pos) (tAndV ta tb):=by
 intro pq s σ H Q I h;refine BoolOp_and (thn (ha pq s σ H _ I h) λv s1 ⟨x,H1,I1,r1,q1⟩=>?_);obtain⟨c,rfl,q1⟩:=q1;cases r1;refine wpAny_truthy_bool ?_;cases c with
 |true=>exact hb pq s1 σ H1 Q I1 q1
 |false=>exact⟨.bl false,H1,I1,rfl,q1⟩
theorem pe_or(ha:PE X a ta)(hb:PE X (.BoolOp .Or (b::rest) pos) tb):PE X (.BoolOp .Or (a::b::rest) pos) (tOrV ta tb):=by
 intro pq s σ H Q I h;refine BoolOp_or (thn (ha pq s σ H _ I h) λv s1 ⟨x,H1,I1,r1,q1⟩=>?_);obtain⟨c,rfl,q1⟩:=q1;cases r1;refine wpAny_truthy_bool ?_;cases c with
 |false=>exact hb pq s1 σ H1 Q I1 q1
 |true=>exact⟨.bl true,H1,I1,rfl,q1⟩
theorem ZVE(ha:PE X a ta):PE X (.UnaryOp .Not a pos) (tNotV ta):=by
 intro pq s σ H Q I h;refine UnaryOp_ (thn (ha pq s σ H _ I h) λv s1 ⟨x,H1,I1,r1,q1⟩=>?_);obtain⟨c,rfl,q1⟩:=q1;cases r1;exact not_of (wpAny_truthy_bool ⟨.bl (!c),H1,I1,rfl,q1⟩)
end
def SqL(K:Frag)(H:Hp)(a:Addr)(xs:List V):Prop :=
 Rd H a (.lst xs) \/
  ∃(o:Obj) (its:Array Value) (n:Nat),K.lookup a=some o/\o.cls=.type "list"/\o.dict=none/\o.data=.seq its n/\its.size<=sizeLine/\Zb xs its.toList
def SqT(K:Frag)(H:Hp)(a:Addr)(xs:List V):Prop :=
 Rd H a (.tup xs) \/
  ∃(o:Obj) (its:Array Value) (n:Nat),K.lookup a=some o/\o.cls=.type "tuple"/\o.data=.seq its n/\its.size<=sizeLine/\Zb xs its.toList
noncomputable def absV:Value->Option V
 |.none=>some .non
 |.bool b=>some (.bl b)
 |.int i _=>some (.int i)
 |.str x _=>some (.str x)
 |.bytes b _=>some (.byt b)
 |.float b _=>some (.flt b)
 |.ref a=>some (.ref a)
 |.type n=>some (.ty n)
 |_=>none
theorem Zq.abs{x:V}(r:Zq x u):absV u=some x:=by
 cases x with
 |non=>cases r;rfl
 |bl _=>cases r;rfl
 |int _=>obtain⟨t,rfl⟩:=r;rfl
 |str _=>obtain⟨t,rfl⟩:=r;rfl
 |byt _=>obtain⟨t,rfl⟩:=r;rfl
 |flt _=>obtain⟨t,rfl⟩:=r;rfl
 |ref _=>cases r;rfl
 |ty _=>cases r;rfl
theorem Zq.inj{x y:V}{u:Value}(r:Zq x u)(q:Zq y u):x=y:=Option.some.inj (r.abs.symm.trans q.abs)
theorem Zb.inj:∀{xs ys:List V} {us:List Value},Zb xs us->Zb ys us->xs=ys
 |_,_,_,.nil,.nil=>rfl
 |_,_,_,.cons r t,.cons r' t'=>by rw[r.inj r',Zb.inj t t']
variable{K:Frag}
section
variable{X:Cx}{pq:Yh}{σ:St}{H:Hp}{s:Shared}{a:Addr}{xs ys:List V}
theorem SqL.of(h:H a=some (.lst xs)):SqL K H a xs:=.inl (.inl h)
theorem Inv.list(I:Inv X pq σ H s)(h:SqL X.K H a xs):∃its:List Value,Zb xs its/\PlainL s.heap a its.toArray/\xs.length<=sizeLine:=by
 rcases h with h|⟨o,its,n,hk,hc,hd,hs,hz,r⟩
 .obtain⟨z,its,n,r,e⟩:=h.ok I.hok
  exact⟨its,r,⟨_,n,e,rfl,rfl,rfl⟩,z⟩
 .refine⟨its.toList,r,⟨o,n,I.kIn a o hk,hc,hd,by simpa using hs⟩,?_⟩
  have e:=r.length;simp only[Array.length_toList] at e;omega
theorem Inv.tuple(I:Inv X pq σ H s)(h:SqT X.K H a xs):∃its:List Value,Zb xs its/\IsTup s.heap a its.toArray/\xs.length<=sizeLine:=by
 rcases h with h|⟨o,its,n,hk,hc,hs,hz,r⟩
 .obtain⟨z,its,r,p⟩:=h.ok I.hok
  exact⟨its,r,p,z⟩
 .refine⟨its.toList,r,⟨o,I.kIn a o hk,hc,n,by simpa using hs⟩,?_⟩
  have e:=r.length;simp only[Array.length_toList] at e;omega
theorem Inv.list_inj(I:Inv X pq σ H s)(h:SqL X.K H a xs)(h':SqL X.K H a ys):xs=ys:=by
 obtain⟨its,r,⟨o,n,e,_,_,d⟩,_⟩:=I.list h;obtain⟨its',r',⟨o',n',e',_,_,d'⟩,_⟩:=I.list h';rw[e] at e';cases e';rw[d] at d';injection d' with d1 _
 have:its=its':=by simpa using congrArg Array.toList d1
 subst this
 exact r.inj r'
theorem Inv.tuple_inj(I:Inv X pq σ H s)(h:SqT X.K H a xs)(h':SqT X.K H a ys):xs=ys:=by
 obtain⟨its,r,⟨o,e,_,n,d⟩,_⟩:=I.tuple h;obtain⟨its',r',⟨o',e',_,n',d'⟩,_⟩:=I.tuple h';rw[e] at e';cases e';rw[d] at d';injection d' with d1 _
 have:its=its':=by simpa using congrArg Array.toList d1
 subst this
 exact r.inj r'
end
noncomputable abbrev Cx.wish(X:Cx)(E:Yi):Cx:={ X with xe:=E }
abbrev Cx.nox(X:Cx):Cx:=X.wish λ_ _=>False
theorem Cx.Ok.wish{X:Cx}(ok:X.Ok)(E:Yi):(X.wish E).Ok :=
 ⟨ok.mod,ok.kind,ok.glob,ok.blt,ok.above,ok.inj,ok.has,ok.cab,ok.hd,ok.frames,ok.stk,ok.exf,ok.bs,ok.bsz,ok.noex,ok.exfs,ok.funs,ok.frf⟩
theorem Cx.Ok.unwish(ok:(X.wish E).Ok):X.Ok :=
 ⟨ok.mod,ok.kind,ok.glob,ok.blt,ok.above,ok.inj,ok.has,ok.cab,ok.hd,ok.frames,ok.stk,ok.exf,ok.bs,ok.bsz,ok.noex,ok.exfs,ok.funs,ok.frf⟩
section
variable{X:Cx}{pq:Yh}{σ:St}{H:Hp}{s:Shared}{E:Yi}
theorem Inv.wish(I:Inv X pq σ H s)(E:Yi):Inv (X.wish E) pq σ H s:=⟨I.ok.wish E,I.os,I.bare,I.base,I.loc,I.cell,I.free,I.freeC,I.pin,I.hok,I.len⟩
theorem Inv.unwish(I:Inv (X.wish E) pq σ H s):Inv X pq σ H s:=⟨I.ok.unwish,I.os,I.bare,I.base,I.loc,I.cell,I.free,I.freeC,I.pin,I.hok,I.len⟩
theorem SP.unwish{D:Ends}{f:Flow}{s':Shared}(h:SP (X.wish E) pq D f s'):SP X pq D f s':=by
 cases f with
 |next=>obtain⟨σ',H',I,q⟩:=h;exact⟨σ',H',I.unwish,q⟩
 |brk=>obtain⟨σ',H',I,q⟩:=h;exact⟨σ',H',I.unwish,q⟩
 |cont=>obtain⟨σ',H',I,q⟩:=h;exact⟨σ',H',I.unwish,q⟩
 |ret u=>obtain⟨v,σ',H',I,r,q⟩:=h;exact⟨v,σ',H',I.unwish,r,q⟩
theorem PSs.nox{st:List Stmt}{t:TS}(h:PSs X.nox st t):PSs X st t:=λpq s σ H D I hw =>
 wpAny_mono (h pq s σ H D (I.wish _) hw) (λ_ _ q=>q.unwish) λ_ _ z=>False.elim z
end
variable{tc:TT}
section
variable{X:Cx}{st:Stmt}{rest:List Stmt}{t u:TS}{e:Expr}{te:TE}{pos:Pos}
def tNext:TS:=λD σ H=>D.nx σ H
def tSeq(t u:TS):TS:=λD σ H=>t { D with nx:=u D } σ H
theorem ZRc:PSs X [] tNext:=λ_ _ σ H _ I h=>wpAny_execs_nil ⟨σ,H,I,h⟩
theorem ZPC(h1:PS X st t)(h2:PSs X rest u):PSs X (st::rest) (tSeq t u):=by
 intro pq s σ H D I h;refine wpAny_execs_cons (thn (h1 pq s σ H { D with nx:=u D } I h) λf s1 q=>?_);cases f with
 |next =>
  obtain⟨σ',H',I',q⟩:=q;exact h2 pq s1 σ' H' D I' q
 |ret v=>exact q
 |brk=>exact q
 |cont=>exact q
theorem ZTM(h1:PS X st t):PSs X [st] t:=by
 intro pq s σ H D I h;refine wpAny_execs_cons (thn (h1 pq s σ H D I h) λf s1 q=>?_);cases f with
 |next=>exact wpAny_execs_nil q
 |ret v=>exact q
 |brk=>exact q
 |cont=>exact q
theorem Inv.quiet(I:Inv X pq σ H s):interactive X.env=false:=by simp[interactive,I.ok.kind]
def tDrop(te:TE):TS:=λD σ H=>te σ H λ_ H1=>D.nx σ H1
theorem ZSx(he:PE X e te)(hs:swapsWith e none pos.line X.env=pure false:=by rfl):PS X (.Expr e pos) (tDrop te):=by
 intro pq s σ H D I h;exact wpAny_Expr_any (thn (he pq s σ H _ I h) λv s1 ⟨x,H1,I1,r1,q1⟩=>⟨σ,H1,I1,q1⟩) I.quiet hs
def tRet(te:TE):TS:=λD σ H=>te σ H D.rt
theorem ZVA(he:PE X e te):PS X (.Return (some e) pos) (tRet te):=by
 intro pq s σ H D I h;exact wpAny_Return_some (thn (he pq s σ H _ I h) λv s1 ⟨x,H1,I1,r1,q1⟩=>⟨x,σ,H1,I1,r1,q1⟩)
def tIfS(c:TT)(t u:TS):TS:=λD σ H=>c σ H λb H1=>if b=true then t D σ H1 else u D σ H1
theorem ps_if{c:Expr}{a b:List Stmt}(hc:PT X c tc)(ha:PSs X a t)(hb:PSs X b u):PS X (.If c a b pos) (tIfS tc t u):=by
 intro pq s σ H D I h;refine wpAny_If (thn (hc pq s σ H _ I h) λd s1 ⟨H1,I1,q1⟩=>?_);cases d with
 |true=>exact ha pq s1 σ H1 D I1 q1
 |false=>exact hb pq s1 σ H1 D I1 q1
end
abbrev TG:=V->St->Hp->(St->Hp->Prop)->Prop
abbrev TGs:=List V->St->Hp->(St->Hp->Prop)->Prop
def PG(X:Cx)(target:Expr)(t:TG):Prop :=
 ∀(pq:Yh) (s:Shared) (σ : St) (H:Hp) (v:V) (u:Value) (Q:St->Hp->Prop),Inv X pq σ H s->Zq v u->t v σ H Q ->
  Yk X (assign target X.env u) (λ_ s'=>∃σ' H',Inv X pq σ' H' s'/\Q σ' H') X.xe s
def PGs(X:Cx)(ts:List Expr)(t:TGs):Prop :=
 ∀(pq:Yh) (s:Shared) (σ : St) (H:Hp) (vs:List V) (us:List Value) (Q:St->Hp->Prop),Inv X pq σ H s->Zb vs us->t vs σ H Q ->
  Yk X (assignInOrder ((assignEach ts X.env).map (·.2)) us) (λ_ s'=>∃σ' H',Inv X pq σ' H' s'/\Q σ' H') X.xe s
abbrev ZVg:=V->V->V->Hp->(Hp->Prop)->Prop
def ZV5(X:Cx)(t:ZVg):Prop :=
 ∀(pq:Yh) (s:Shared) (σ : St) (H:Hp) (o i v:V) (ov iv u:Value) (Q:Hp->Prop),Inv X pq σ H s->Zq o ov->Zq i iv->Zq v u->t o i v H Q ->
  Yk X (setItem ov iv u) (λ_ s'=>∃H',Inv X pq σ H' s'/\Q H') X.xe s
abbrev TIp:=V->V->Hp->VK->Prop
def PIp(X:Cx)(op:Operator)(t:TIp):Prop :=
 ∀(pq:Yh) (s:Shared) (σ : St) (H:Hp) (x y:V) (v u:Value) (Q:VK),Inv X pq σ H s->Zq x v->Zq y u->t x y H Q ->
  Yk X (inplaceOp op v u) (EP X pq σ Q) X.xe s
variable{es:List Expr}{k:Nat}{tg:Expr}{te:TE}{pos':Pos}{ta:TA}
section
variable{X:Cx}{pos:Pos}
def ZJU(i:Nat):TG:=λv σ H Q=>Q (σ.set i (some v)) H
theorem ZSH(hN:X.N.Nodup)(hi:X.N[i]? = some x)(hx:Loc X.env.scope x)(hf:Ye X x:=by first|exact .inl rfl|exact .inr rfl|assumption):PG X (.Name x pos) (ZJU i):=by
 intro pq s σ H v u Q I r h;exact wpAny_assign_Name (ZBK I hN hi hx r (λs' I'=>⟨_,H,I',h⟩) hf)
def ZVx:TGs:=λvs σ H Q=>vs=[]/\Q σ H
def ZTZ(t:TG)(u:TGs):TGs:=λvs σ H Q=>∃v r,vs=v::r/\t v σ H λσ' H'=>u r σ' H' Q
theorem ZSP:PGs X [] ZVx:=by
 intro pq s σ H vs us Q I r h;obtain⟨e,h⟩:=h;subst e;cases r;exact assignInOrder_nil ⟨σ,H,I,h⟩
theorem ZPB{t:TG}{u:TGs}(h1:PG X e t)(h2:PGs X es u)
  (hs:(assignEach (e::es) X.env).map (·.2)=assign e X.env::(assignEach es X.env).map (·.2):=by rfl):PGs X (e::es) (ZTZ t u):=by
 intro pq s σ H vs us Q I r h;obtain⟨v,vr,e1,h⟩:=h;subst e1;cases r with
 |cons r rr =>
  rw[hs];refine assignInOrder_cons (thn (h1 pq s σ H _ _ _ I r h) λ_ s1 ⟨σ1,H1,I1,q1⟩=>?_);exact h2 pq s1 σ1 H1 _ _ Q I1 rr q1
def ZWF(K:Frag)(n:Nat)(t:TGs):TG:=λv σ H Q=>∃a xs,v=.ref a/\SqT K H a xs/\xs.length=n/\t xs σ H Q
theorem ZUu{t:TGs}{n:Nat}(hc:X.calm=true)(h:PGs X es t)
  (hn:(assignEach es X.env).length=n:=by rfl)(hst:(assignEach es X.env).findIdx? (·.1)=none:=by rfl):PG X (.Tuple es k pos) (ZWF X.K n t):=by
 intro pq s σ H v u Q I r hw;obtain⟨a,xs,e1,hq,hl,hw⟩:=hw;subst e1;cases r;obtain⟨its,rv,ht,hz⟩:=I.tuple hq;refine assign_Tuple_tuple (I.ok.hd hc) ht (by simp[hn,<-hl,rv.length]) hst λh' hx=>?_
 have I1:Inv X pq σ H { s with heap:=h' }:=I.kept (t':=s.toks) λb o e=>hx b o (ne_of_lt (lt_size e)) e
 exact h pq _ σ H xs _ Q I1 (by simpa using rv) hw
def gSub(to ti:TE)(t:ZVg):TG:=λv σ H Q=>to σ H λo H1=>ti σ H1 λi H2=>t o i v H2 λH3=>Q σ H3
theorem ZUZ{o i:Expr}{to ti:TE}{t:ZVg}(ho:PE X o to)(hi:PE X i ti)(hs:ZV5 X t)
  (ha:∀ v,assign (.Subscript o i pos) X.env v=(do
   let ov <-holding [v] (eval o X.env)
   let iv <-holding [v,ov] (eval i X.env)
   standAt pos
   holding [v,ov,iv] (setItem ov iv v)
   release [v,ov,iv] []):=by intro _;rfl):PG X (.Subscript o i pos) (gSub to ti t):=by
 intro pq s σ H v u Q I r h;rw[ha];refine Xb (wpAny_holding (thn (ho pq s σ H _ I h) λov s1 ⟨x,H1,I1,r1,q1⟩=>?_));refine Xb (wpAny_holding (thn (hi pq s1 σ H1 _ I1 q1) λiv s2 ⟨y,H2,I2,r2,q2⟩=>?_));refine Xb (wpAny_standAt (Xb (wpAny_holding (thn (hs pq s2 σ H2 x y v ov iv u _ I2 r1 r2 r q2) λ_ s3 ⟨H3,I3,q3⟩=>?_))));exact wpAny_release ⟨σ,H3,I3,q3⟩
def ZUJ(te:TE)(g:TG):TS:=λD σ H=>te σ H λx H1=>g x σ H1 D.nx
theorem ZQ7{g:TG}(he:PE X e te)(hg:PG X tg g)(hs:swapsWithSole [tg] e pos.line X.env=pure false:=by rfl)(hw:swappedStores [tg] e X.env=pure none:=by rfl)
  (h1:(assignEach [tg] X.env).map (·.2)=[assign tg X.env]:=by rfl):PS X (.Assign [tg] e pos) (ZUJ te g):=by
 intro pq s σ H D I h;refine wpAny_Assign_stores (thn (he pq s σ H _ I h) λv s1 ⟨x,H1,I1,r1,q1⟩=>?_) hs hw;rw[h1];exact thn (hg pq s1 σ H1 x v _ I1 r1 q1) λ_ s2 q=>q
theorem ZT8(hN:X.N.Nodup)(hi:X.N[i]? = some x)(hx:Loc X.env.scope x)(he:PE X e te)(hs:swapsWith e (some (.Name x pos')) pos.line X.env=pure false:=by rfl)(hf:Ye X x:=by first|exact .inl rfl|exact .inr rfl|assumption) :
  PS X (.Assign [.Name x pos'] e pos) (ZUJ te (ZJU i)):=by
 intro pq s σ H D I h;refine wpAny_Assign_Name (thn (he pq s σ H _ I h) λv s1 ⟨y,H1,I1,r1,q1⟩=>?_) hs;exact ZBK I1 hN hi hx r1 (λs2 I2=>⟨_,H1,I2,q1⟩) hf
def ZVy(i j:Nat)(ta:TA):TS:=λD σ H=>ta σ H λvs H1=>∃v w,vs=[v,w]/\D.nx ((σ.set i (some v)).set j (some w)) H1
theorem ZUf{y:Str}{a b:Expr}{px py pt:Pos}{kt k2 pt2}(hc:X.calm=true)(hN:X.N.Nodup)(hi:X.N[i]? = some x)(hj:X.N[j]? = some y)(hij:i≠j)
  (hx:Yg X x)(hy:Yg X y)(ha:PA X [a,b] ta)
  (hw:swappedStores [.Tuple [.Name x px,.Name y py] kt pt] (.Tuple [a,b] k2 pt2) X.env=pure (some [x,y]))
  (hs:swapsWithSole [.Tuple [.Name x px,.Name y py] kt pt] (.Tuple [a,b] k2 pt2) pos.line X.env=pure false:=by rfl) :
  PS X (.Assign [.Tuple [.Name x px,.Name y py] kt pt] (.Tuple [a,b] k2 pt2) pos) (ZVy i j ta):=by
 intro pq s σ H D I h;rw[exec_Assign_arm];refine Xb (wpAny_standAt ?_);rw[hs];refine Xb (Xu ?_);rw[Xn (by decide)];refine Xb (Tuple_ (thn (ha _ pq s σ H _ I h) λus s1 ⟨vs,H1,I1,r1,q1⟩=>?_));obtain⟨v,w,e1,q1⟩:=q1;subst e1;obtain⟨u1,u2,rfl,rv,rw'⟩:∃u1 u2,us=[u1,u2]/\Zq v u1/\Zq w u2:=by
  cases r1 with
  |cons p q =>
   cases q with
   |cons p' q' =>
    cases q';exact⟨_,_,rfl,p,p'⟩
 refine wpAny_newObj_type ?_ (by show 2<=sizeLine;decide);have I2:Inv X pq σ H1 { s1 with heap:=s1.heap.push { cls:=.type "tuple",data:=.seq [u1,u2].toArray } }:=I1.kept (t':=s1.toks) λb o e=>get?_push_of_some _ e
 rw[hw];refine Xb (Xu ?_);show Yk X (do rule "assign.swapped-stores";let items <-unpackItems (.ref s1⁻¹) 2 none;assignInOrder [λv=>bindName X.env y v,λv=>bindName X.env x v] items.reverse;pure Flow.next) _ _ _;refine Xb (wpAny_rule (Xb (unpackItems_tuple (items:=#[u1,u2]) (I.ok.hd hc) (IsTup.new s1.heap _) λh' hx'=>?_)));have I3:=I2.kept (h':=h') (t':=s1.toks) λb o e=>hx' b o (ne_of_lt (lt_size e)) e
 show wpAny _ _ (assignInOrder [λv=>bindName X.env y v,λv=>bindName X.env x v] [u2,u1] >>= λ_=>pure Flow.next) _ _ _;refine Xb (assignInOrder_cons (wpAny_bindName (ZBK I3 hN hj (.inl hy) rw' (λs2 I4=>?_) (.inr hy))));refine assignInOrder_cons (wpAny_bindName (ZBK I4 hN hi (.inl hx) rv (λs3 I5=>assignInOrder_nil (Xu ?_)) (.inr hx)));rw[List.set_comm _ _ (Ne.symm hij)] at I5;exact⟨_,H1,I5,q1⟩
def tAug(i:Nat)(te:TE)(ti:TIp):TS:=λD σ H=>∃x,σ[i]? = some (some x)/\te σ H λy H1=>ti x y H1 λz H2=>D.nx (σ.set i (some z)) H2
theorem ZPi{op:Operator}{ti:TIp}(hN:X.N.Nodup)(hi:X.N[i]? = some x)(hx:Loc X.env.scope x)(he:PE X e te)(ho:PIp X op ti)(hf:Ye X x:=by first|exact .inl rfl|exact .inr rfl|assumption) :
  PS X (.AugAssign (.Name x pos') op e pos) (tAug i te ti):=by
 intro pq s σ H D I h;obtain⟨v,e1,h⟩:=h;obtain⟨m,hn,hl⟩:=I.loc;have vis:Vis X.env.scope x:=by rcases hx with k|k;exact .inl k;exact .inr (.inl k)
 obtain⟨u,r,l⟩:=hl i x v hi e1 vis;refine wpAny_AugAssign_Name ?_;have go:Yk X (eval e X.env) (λw s₂=>Yk X (inplaceOp op u w) (λr s₃=>Yk X (storeName X.env x r) (λ_=>SP X pq D .next) X.xe s₃) X.xe s₂) X.xe s:=by
  refine thn (he pq s σ H _ I h) λw s1 ⟨y,H1,I1,r1,q1⟩=>?_
  refine thn (ho pq s1 σ H1 v y u w _ I1 r r1 q1) λz s2 ⟨zv,H2,I2,r2,q2⟩=>?_
  exact ZBK I2 hN hi hx r2 (λs3 I3=>⟨_,H2,I3,q2⟩) hf
 rcases l with ⟨hk,hm⟩|⟨hk,c,hc,hcell⟩
 .exact wpAny_loadName_local I.ok.kind hk hn hm go
 .rcases hk with hk|hk
  .exact wpAny_loadName_cell I.ok.kind hk hc hcell go
  .rcases hx with k|k
   .have:X.env.scope.names.lookup x=some .free:=hk
    rw[k] at this;cases this
   .have:X.env.scope.names.lookup x=some .free:=hk
    rw[k] at this;cases this
def ipI(f:Int->Int->Int):TIp:=λx y H Q=>∃i j,x=.int i/\y=.int j/\Q (.int (f i j)) H
theorem ZTn:PIp X .Add (ipI λi j=>i+j):=by
 intro pq s σ H x y v u Q I r1 r2 h;obtain⟨i,j,e1,e2,q⟩:=h;subst e1;subst e2;obtain⟨t,rfl⟩:=r1;obtain⟨t',rfl⟩:=r2;exact iadd_int ⟨.int _,H,I.tok _,⟨_,rfl⟩,q⟩
end
variable{body:List Stmt}{tb:TS}
section
variable{X:Cx}{pos:Pos}
def ZUh(c:TT)(tb:TS):TS:=λD σ H=>∃W:Nat->St->Hp->Prop,(∃m,W m σ H)/\∀m σ H,W m σ H ->
 c σ H λb H1=>if b=true then ∃N:St->Hp->Prop,(∀σ' H',N σ' H'->∃m',m'<m/\W m' σ' H')/\tb { D with nx:=N,ct:=N,bk:=D.nx } σ H1 else D.nx σ H1
theorem ZOv{c:Expr}(hp:PassesOwn (model X.prog X.w) X.A X.env X.xe)(hc:PT X c tc)(hb:PSs X body tb):PS X (.While c body [] pos) (ZUh tc tb):=by
 intro pq s σ H D I h;obtain⟨W,⟨m0,w0⟩,turn⟩:=h;refine wpAny_While (codeAny_whileLoop (λn s'=>∃σ' H',Inv X pq σ' H' s'/\W n σ' H') ?_ m0 ⟨σ,H,I,w0⟩)
 rintro n s1 ⟨σ1,H1,I1,w1⟩
 refine wpAny_passesOwn hp (thn (hc pq s1 σ1 H1 _ I1 (turn n σ1 H1 w1)) λb s2 ⟨H2,I2,q2⟩=>?_);cases b with
 |true =>
  obtain⟨N,hN,q2⟩:=q2;rw[Xp rfl];refine wpAny_passesOwn hp (thn (hb pq s2 σ1 H2 _ I2 q2) λf s3 q3=>?_);cases f with
  |next =>
   obtain⟨σ3,H3,I3,n3⟩:=q3;obtain⟨m',hm,w3⟩:=hN σ3 H3 n3;exact⟨m',hm,σ3,H3,I3,w3⟩
  |cont =>
   obtain⟨σ3,H3,I3,n3⟩:=q3;obtain⟨m',hm,w3⟩:=hN σ3 H3 n3;exact⟨m',hm,σ3,H3,I3,w3⟩
  |brk=>exact q3
  |ret v=>exact q3
 |false =>
  rw[Xn Xf];exact wpAny_execs_nil ⟨σ1,H2,I2,q2⟩
end
structure It where
 go:Nat->Hp->Prop
 yld:Nat->Hp->V->Hp->Prop
 stop:Nat->Hp->Prop
def ZFR(X:Cx)(pq:Yh)(H:Hp)(b:Addr):Prop :=
 H b=none/\b≠X.env.locals/\b∉X.fs/\(b∈X.ex\/X.s₀.heap.objs.size<=b)/\(∀x c,X.env.cells.lookup x=some c->c≠b)/\∀p∈X.pn++pq,p.1≠b
theorem Inv.fpOk{H':Hp}(I:Inv X pq σ H s)(hb:s⁻¹<=b)(hn:H' b=none):ZFR X pq H' b:=by
 refine⟨hn,ne_of_gt (lt_of_lt_of_le I.lt hb),I.nofs hb,.inr (le_trans I.sz hb),λx c e z=>?_,λp hp z=>?_⟩
 .obtain⟨v,q⟩:=I.cell x c e
  exact absurd (lt_of_lt_of_le q.lt (by rw[z];exact hb)) (lt_irrefl _)
 .exact absurd (lt_of_lt_of_le (lt_size (I.pin p hp).1) (by rw[z];exact hb)) (lt_irrefl _)
structure Turn (P:Program) (w:World) (K:Frag) (tg:Expr) (J:It) (fp:List Addr) (it:Addr) (tn:Nat->Heap->Prop):Prop where
  mem:it∈fp
  obj:∀i h,tn i h->∀b∈fp,∃o,h.get? b=some o/\∀v,o.data≠.cell v
  keep:∀i h h',tn i h->(∀b∈fp,∀o,h.get? b=some o->h'.get? b=some o)->tn i h'
  item:∀(X:Cx),X.prog=P->X.w=w->X.K=K->X.calm=true->∀(i:Nat) (pq:Yh) (s:Shared) (σ : St) (H:Hp) (E:Yi),Inv X pq σ H s->(∀b∈fp,ZFR X pq H b)->tn i s.heap->J.go i H ->
    wpAny (model P w) X.A (pyNext (.ref it)) (λ r s1=>∃ u,r=some u /\
      wpAny (model P w) X.A (letOwnedTupleGo tg (.ref it) u) (λ_ s2=>∃x H',Inv X pq σ H' s2/\Zq x u/\J.yld i H x H'/\tn (i+1) s2.heap/\∀b∈fp,H' b=none) E s1) E s
  done:∀(X:Cx),X.prog=P->X.w=w->X.K=K->X.calm=true->∀(i:Nat) (pq:Yh) (s:Shared) (σ : St) (H:Hp) (E:Yi),Inv X pq σ H s->(∀b∈fp,ZFR X pq H b)->tn i s.heap->J.stop i H ->
    wpAny (model P w) X.A (pyNext (.ref it)) (λr s1=>r=none/\Inv X pq σ H s1) E s
  self:∀(A:Around) (i:Nat) (s:Shared) (Q:Yi) (E:Yi),tn i s.heap->Q (.ref it) s->wpAny (model P w) A (pyIter (.ref it)) Q E s
abbrev TI:=St->Hp->(It->Hp->Prop)->Prop
def PIE(X:Cx)(pq:Yh)(σ : St)(tg:Expr)(R:It->Hp->Prop)(itv:Value)(s2:Shared):Prop :=
 ∃(it:Addr) (fp:List Addr) (tn:Nat->Heap->Prop) (J:It) (H':Hp),itv=.ref it/\Inv X pq σ H' s2/\Turn X.prog X.w X.K tg J fp it tn/\tn 0 s2.heap/\(∀b∈fp,ZFR X pq H' b)/\R J H'
def PI(X:Cx)(tg iter:Expr)(wi:TI):Prop :=
 ∀(pq:Yh) (s:Shared) (σ : St) (H:Hp) (R:It->Hp->Prop),Inv X pq σ H s->wi σ H R ->
  Yk X (eval iter X.env) (λv s1=>Yk X (pyIter v) (PIE X pq σ tg R) X.xe s1) X.xe s
theorem ZP0{n:String}{vs:Array Value}(ho:s.heap.get? it=some o)(hc:o.cls=.type n)(hd:o.data=.fields vs)
    (hn:["enumerate","zip","dict_itemiterator","dict_reverseitemiterator","odict_iterator","itertools.zip_longest","itertools.pairwise"].contains n=false)(hQ:Q () s):wpAny M A (letOwnedTupleGo tg (.ref it) u) Q E s:=by
  unfold letOwnedTupleGo;cases tg <;> first
    |exact Xu hQ
    | (cases u <;> first
        |exact Xu hQ
        | (refine Xb (wpAny_load ho ?_)
           rw[hc,hd];show wpAny M A (if (["enumerate","zip","dict_itemiterator","dict_reverseitemiterator","odict_iterator","itertools.zip_longest","itertools.pairwise"].contains n && vs[0]? == some (rawInt _))=true then _ else _) Q E s;rw[Xn (by intro h;rw[hn,Bool.false_and] at h;cases h)];exact Xu hQ))
noncomputable def Itl(K:Frag)(a:Addr):It :=
 ⟨λi H=>∃xs x,SqL K H a xs/\xs[i]? = some x,λi H x H'=>H'=H/\∀xs,SqL K H a xs->xs[i]? = some x,λi H=>∃xs,SqL K H a xs/\xs.length<=i⟩
noncomputable def Itt(K:Frag)(a:Addr):It :=
 ⟨λi H=>∃xs x,SqT K H a xs/\xs[i]? = some x,λi H x H'=>H'=H/\∀xs,SqT K H a xs->xs[i]? = some x,λi H=>∃xs,SqT K H a xs/\xs.length<=i⟩
noncomputable def Itr(lo:Int)(n:Nat):It:=⟨λi _=>i<n,λi H x H'=>H'=H/\x=.int (lo+i),λi _=>n<=i⟩
theorem ZOW(a it:Addr):Turn P w K tg (Itl K a) [it] it (λi h=>h.IsListIter it a i) where
 mem:=by simp
 obj:=λi h st b hb=>by
  have e:b=it:=by simpa using hb
  subst e;obtain⟨o,e,c,d⟩:=st;exact⟨o,e,λv z=>by rw[d] at z;cases z⟩
 keep:=λi h h' st k=>st.at λo e=>k it (by simp) o e
 item:=by
  intro X hP hw hK hc i pq s σ H E I hf st hg;subst hP hw hK;obtain⟨xs,x,hq,hx⟩:=hg;obtain⟨its,rv,p,hz⟩:=I.list hq;obtain⟨u,hu,ru⟩:=rv.get hx;obtain⟨f0,f1,f2,f3,f4,f5⟩:=hf it (by simp);refine wpAny_pyNext_list_item st p.isList (x:=u) (by simpa using hu) λh' st' sb=>?_
  have I1:Inv X pq σ H { s with heap:=h' }:=I.turned (t':=s.toks) (λb o hb e=>(sb.2 b hb).trans e) f0 f1 f3 f4 f5;obtain⟨o,e,c,d⟩:=id st';exact⟨u,rfl,ZP0 (s:={ s with heap:=h' }) e c d (by decide) ⟨x,H,I1,ru,⟨rfl,λys hy=>by rw[I.list_inj hy hq];exact hx⟩,st',λb hb=>(hf b hb).1⟩⟩
 done:=by
  intro X hP hw hK hc i pq s σ H E I hf st hg;subst hP hw hK;obtain⟨xs,hq,hx⟩:=hg;obtain⟨its,rv,p,hz⟩:=I.list hq;obtain⟨f0,f1,f2,f3,f4,f5⟩:=hf it (by simp);have hl:=rv.length;exact wpAny_pyNext_list_end (I.ok.hd hc) st p.isList (by simp;omega) λh' eb=>⟨rfl,I.turned (t':=s.toks) (λb o hb e=>eb b o hb e) f0 f1 f3 f4 f5⟩
 self:=λ_ _ _ _ _ st h=>wpAny_pyIter_listiter st h
theorem ZKs(a it:Addr):Turn P w K tg (Itt K a) [it] it (λi h=>h.IsTupleIter it a i) where
 mem:=by simp
 obj:=λi h st b hb=>by
  have e:b=it:=by simpa using hb
  subst e;obtain⟨o,e,c,d⟩:=st;exact⟨o,e,λv z=>by rw[d] at z;cases z⟩
 keep:=λi h h' st k=>st.at λo e=>k it (by simp) o e
 item:=by
  intro X hP hw hK hc i pq s σ H E I hf st hg;subst hP hw hK;obtain⟨xs,x,hq,hx⟩:=hg;obtain⟨its,rv,p,hz⟩:=I.tuple hq;obtain⟨u,hu,ru⟩:=rv.get hx;obtain⟨f0,f1,f2,f3,f4,f5⟩:=hf it (by simp);refine wpAny_pyNext_tuple_item st (show s.heap.IsTuple a its.toArray from p) (x:=u) (by simpa using hu) λh' st' sb=>?_
  have I1:Inv X pq σ H { s with heap:=h' }:=I.turned (t':=s.toks) (λb o hb e=>(sb.2 b hb).trans e) f0 f1 f3 f4 f5;obtain⟨o,e,c,d⟩:=id st';exact⟨u,rfl,ZP0 (s:={ s with heap:=h' }) e c d (by decide) ⟨x,H,I1,ru,⟨rfl,λys hy=>by rw[I.tuple_inj hy hq];exact hx⟩,st',λb hb=>(hf b hb).1⟩⟩
 done:=by
  intro X hP hw hK hc i pq s σ H E I hf st hg;subst hP hw hK;obtain⟨xs,hq,hx⟩:=hg;obtain⟨its,rv,p,hz⟩:=I.tuple hq;obtain⟨f0,f1,f2,f3,f4,f5⟩:=hf it (by simp);have hl:=rv.length;exact wpAny_pyNext_tuple_end (I.ok.hd hc) st (show s.heap.IsTuple a its.toArray from p) (by simp;omega) λh' eb=>⟨rfl,I.turned (t':=s.toks) (λb o hb e=>eb b o hb e) f0 f1 f3 f4 f5⟩
 self:=λ_ _ _ _ _ st h=>wpAny_pyIter_tupleiter st h
theorem ZKz(it:Addr)(lo:Int)(n:Nat):Turn P w K tg (Itr lo n) [it] it (λi h=>IsRangeIter h it (lo+(i:Nat)*1) ((n:Int)-(i:Nat)) 1) where
 mem:=by simp
 obj:=λi h st b hb=>by
  have e:b=it:=by simpa using hb
  subst e;exact⟨_,st,λv z=>by
   have z':Data.fields _=Data.cell v:=z;cases z'⟩
 keep:=λi h h' st k=>k it (by simp) _ st
 item:=by
  intro X hP hw hK hc i pq s σ H E I hf st hg;subst hP hw hK;obtain⟨f0,f1,f2,f3,f4,f5⟩:=hf it (by simp);have W:=Walks.range (prog:=X.prog) (w:=X.w) (I.ok.hd hc) it lo 1 n;refine W.item i s _ _ hg st λv h' tk hv st' kk=>?_
  obtain⟨t,rfl⟩:=hv;have I1:Inv X pq σ H { s with heap:=h',toks:=tk }:=I.turned (λb o hb e=>kk b o (by simpa using hb) e) f0 f1 f3 f4 f5;refine⟨_,rfl,ZP0 (s:={ s with heap:=h',toks:=tk }) (n:="range_iterator") st' rfl rfl (by decide) ⟨.int (lo+i),H,I1,⟨t,?_⟩,⟨rfl,rfl⟩,st',λb hb=>(hf b hb).1⟩⟩;rw[mul_one]
 done:=by
  intro X hP hw hK hc i pq s σ H E I hf st hg;subst hP hw hK;obtain⟨f0,f1,f2,f3,f4,f5⟩:=hf it (by simp);exact wpAny_pyNext_range_end (I.ok.hd hc) st (by have:n<=i:=hg;omega) λh' eb=>⟨rfl,I.turned (t':=s.toks) (λb o hb e=>eb b o hb e) f0 f1 f3 f4 f5⟩
 self:=λ_ _ _ _ _ st h=>wpAny_pyIter_rangeiter st h
variable{p:Pos}{fp:List Addr}
section
variable{X:Cx}{tg:Expr}
theorem ZJW{R:It->Hp->Prop}{lo hi:Int}{t u v:Tok}{tk:Nat}(I:Inv X pq σ H s)(h1 : -(2 ^ 62)<=lo)(h2:lo<2 ^ 62)(h3 : -(2 ^ 62)<=hi)(h4:hi<2 ^ 62)
  (q:R (Itr lo (hi-lo).toNat) H):Yk X (pyIter (.ref s⁻¹)) (PIE X pq σ tg R) E { s with heap:=s.heap.push { cls:=.type "range",data:=.fields #[.int lo t,.int hi u,.int 1 v] },toks:=tk }:=by
 refine wpAny_pyIter_range (IsRange.new ..) (small_one h1 h2 h3 h4) ?_;have I1:Inv X pq σ H { s with heap:=s.heap.push { cls:=.type "range",data:=.fields #[.int lo t,.int hi u,.int 1 v] },toks:=tk }:=I.kept λb o e=>get?_push_of_some _ e
 refine⟨(s.heap.push { cls:=.type "range",data:=.fields #[.int lo t,.int hi u,.int 1 v] }).objs.size,[(s.heap.push { cls:=.type "range",data:=.fields #[.int lo t,.int hi u,.int 1 v] }).objs.size],_,_,H,rfl,
  I1.kept (t':=tk) λb o e=>get?_push_of_some _ e,ZKz _ lo (hi-lo).toNat,?_,λb hb=>?_,q⟩
 .have e1:lo+((0:Nat):Int)*1=lo:=by simp
  have e2:(((hi-lo).toNat:Nat):Int)-((0:Nat):Int)=Builtin.Range.rangeSize lo hi 1:=by rw[rangeSize_one];split <;> omega
  show IsRangeIter _ _ (lo+((0:Nat):Int)*1) ((((hi-lo).toNat:Nat):Int)-((0:Nat):Int)) 1;rw[e1,e2];exact get?_push_size _ rfl
 .have e:b=(s.heap.push { cls:=.type "range",data:=.fields #[.int lo t,.int hi u,.int 1 v] }).objs.size:=by simpa using hb
  subst e;exact I1.fpOk (le_refl _) (I1.hok.fresh (le_refl _))
def iRng1(ta:TA):TI:=λσ H R=>ta σ H λvs H1=>∃j:Int,vs=[.int j]/\-(2 ^ 62)<=j/\j<2 ^ 62/\R (Itr 0 j.toNat) H1
def iRng2(ta:TA):TI:=λσ H R=>ta σ H λvs H1=>∃i j:Int,vs=[.int i,.int j]/\(-(2 ^ 62)<=i/\i<2 ^ 62/\-(2 ^ 62)<=j/\j<2 ^ 62)/\R (Itr i (j-i).toNat) H1
theorem ZOV{a:Expr}(hg:Gl X "range")(hm:X.mg "range" = none)(ha:PA X [a] ta)(hs:Yd X a:=by rfl):PI X tg (.Call (.Name "range" p) [a] [] pos) (iRng1 ta):=by
 intro pq s σ H R I h;refine Call_ (ZDr I hg hm boot_range (PyProof.Rows.callWith_type1 (thn (ha pos pq s σ H _ I h) λus s1 ⟨vs,H1,I1,r1,q1⟩=>?_) hs rfl));obtain⟨j,e,q1,q2,q⟩:=q1;subst e;cases r1 with
 |cons r rr =>
  cases rr;obtain⟨t,rfl⟩:=r;exact call_range_1 (ZJW I1 ⋯ ⋯ q1 q2 (by simpa using q))
theorem ZOQ{a b:Expr}(hg:Gl X "range")(hm:X.mg "range" = none)(ha:PA X [a,b] ta)(hs:Yc X a b:=by rfl)(hs2:Yd X b:=by rfl) :
  PI X tg (.Call (.Name "range" p) [a,b] [] pos) (iRng2 ta):=by
 intro pq s σ H R I h;refine Call_ (ZDr I hg hm boot_range (PyProof.Rows.callWith_type1 (thn (ha pos pq s σ H _ I h) λus s1 ⟨vs,H1,I1,r1,q1⟩=>?_) (by rw[hs,hs2]) (by rw[hs2];rfl)));obtain⟨i,j,e,⟨q1,q2,q3,q4⟩,q⟩:=q1;subst e;cases r1 with
 |cons r rr =>
  cases rr with
  |cons r' rr =>
   cases rr;obtain⟨t,rfl⟩:=r;obtain⟨t',rfl⟩:=r';exact call_range_2 (ZJW I1 q1 q2 q3 q4 q)
def tFor(wi:TI)(g:TG)(tb:TS):TS:=λD σ H=>wi σ H λJ H1=>∃W:Nat->Nat->St->Hp->Prop,(∃m,W 0 m σ H1)/\∀i m σ H,W i m σ H ->
 (J.stop i H/\D.nx σ H)\/(J.go i H/\∃N:St->Hp->Prop,(∀σ' H',N σ' H'->∃m',m'<m/\W (i+1) m' σ' H')/\∀x H',J.yld i H x H'->g x σ H' λσ2 H2=>tb { D with nx:=N,ct:=N,bk:=D.nx } σ2 H2)
noncomputable def ZEu(fp:List Addr)(h:Heap):List (Addr×Obj):=fp.filterMap λb=>(h.get? b).map λo=>(b,o)
theorem ZCW(hb:b∈fp)(e:h.get? b=some o):(b,o)∈ZEu fp h:=List.mem_filterMap.mpr ⟨b,hb,by rw[e];rfl⟩
theorem ZNt{p:Addr×Obj}(hp:p∈ZEu fp h):p.1∈fp/\h.get? p.1=some p.2:=by
 obtain⟨b,hb,e⟩:=List.mem_filterMap.mp hp;cases q:h.get? b with
 |none=>rw[q] at e;cases e
 |some o =>
  rw[q] at e;have e':(b,o)=p:=Option.some.inj e;subst e';exact⟨hb,q⟩
theorem Inv.pinned{fp:List Addr}(I:Inv X pq σ H s)(hf:∀b∈fp,ZFR X pq H b)(ho:∀b∈fp,∃o,s.heap.get? b=some o/\∀v,o.data≠.cell v):Inv X (pq++ZEu fp s.heap) σ H s :=
 I.pins_of λp hp=>(List.mem_append.mp hp).elim (λz=>I.pin p (mem_append_right _ z)) λz=>by
  obtain⟨hb,e⟩:=ZNt z;obtain⟨f0,f1,f2,_⟩:=hf p.1 hb;obtain⟨o,e',d⟩:=ho p.1 hb;rw[e] at e';cases e';exact⟨e,f0,f1,f2,d⟩
theorem Inv.unpinned{pl:Yh}(I:Inv X (pq++pl) σ H s):Inv X pq σ H s:=I.pins_of λp hp=>I.pin p (mem_append_right _ (mem_append_left _ hp))
theorem ZTq{iter:Expr}{wi:TI}{g:TG}(hp:PassesOwn (model X.prog X.w) X.A X.env X.xe)(hc:X.calm=true)(hi:PI X tg iter wi)(hg:PG X tg g)(hb:PSs X body tb)
  (hs:∀x,foldedSetIterable iter X.env x=pure x:=by intro _;rfl):PS X (.For tg iter body [] pos) (tFor wi g tb):=by
 intro pq s σ H D I h;refine wpAny_For (thn (hi pq s σ H _ I h) λv s1 h1=>thn h1 λitv s2 h2=>?_) hs;obtain⟨it,fp,tn,J,H2,e,I2,T,st2,f2,W,⟨m0,w0⟩,turn⟩:=h2;subst e
 -- what stays true of the iterator's objects through the loop
 have stat:∀{H':Hp},(∀b∈fp,H' b=none)->∀b∈fp,ZFR X pq H' b:=λhn b hb=>⟨hn b hb,(f2 b hb).2⟩
 refine codeAny_forLoop_any (λn s'=>∃i σ' H',Inv X pq σ' H' s'/\tn i s'.heap/\(∀b∈fp,H' b=none)/\W i n σ' H') ?_ m0 ⟨0,σ,H2,I2,st2,λb hb=>(f2 b hb).1,w0⟩
 rintro n s3 ⟨i,σ3,H3,I3,st3,fr3,w3⟩
 rcases turn i n σ3 H3 w3 with ⟨stop,qn⟩|⟨go,N,hN,step⟩
 .refine wpAny_passesOwn hp (thn (T.done X rfl rfl rfl hc i pq s3 σ3 H3 X.xe I3 (stat fr3) st3 stop) λr s4 ⟨hr,I4⟩=>?_)
  subst hr;exact wpAny_execs_nil ⟨σ3,H3,I4,qn⟩
 .refine wpAny_passesOwn hp (thn (T.item X rfl rfl rfl hc i pq s3 σ3 H3 X.xe I3 (stat fr3) st3 go) λr s4 ⟨u,hr,h4⟩=>?_)
  subst hr;refine wpAny_passesOwn hp (thn h4 λ_ s5 ⟨x,H5,I5,r5,y5,st5,fr5⟩=>?_);have I5':=I5.pinned (stat fr5) (T.obj _ _ st5);refine wpAny_passesOwn hp (thn (hg _ s5 σ3 H5 x u _ I5' r5 (step x H5 y5)) λ_ s6 ⟨σ6,H6,I6,q6⟩=>?_);refine wpAny_passesOwn hp (thn (hb _ s6 σ6 H6 _ I6 q6) λf s7 q7=>?_);have again:∀{σ7:St} {H7:Hp},Inv X (pq++ZEu fp s5.heap) σ7 H7 s7->N σ7 H7->∃m,m<n/\∃i σ' H',Inv X pq σ' H' s7/\tn i s7.heap/\(∀b∈fp,H' b=none)/\W i m σ' H':=λ{σ7 H7} I7 n7=>by
   obtain⟨m',hm,w7⟩:=hN σ7 H7 n7;refine⟨m',hm,i+1,σ7,H7,I7.unpinned,T.keep _ _ _ st5 λb hb o e=>(I7.pin (b,o) (mem_append_right _ (mem_append_right _ (ZCW hb e)))).1,λb hb=>?_,w7⟩;obtain⟨o,e,d⟩:=T.obj _ _ st5 b hb;exact(I7.pin (b,o) (mem_append_right _ (mem_append_right _ (ZCW hb e)))).2.1
  cases f with
  |next=>obtain⟨σ7,H7,I7,n7⟩:=q7;exact again I7 n7
  |cont=>obtain⟨σ7,H7,I7,n7⟩:=q7;exact again I7 n7
  |brk=>obtain⟨σ7,H7,I7,q7⟩:=q7;exact⟨σ7,H7,I7.unpinned,q7⟩
  |ret v=>obtain⟨x7,σ7,H7,I7,r7,q7⟩:=q7;exact⟨x7,σ7,H7,I7.unpinned,r7,q7⟩
end
abbrev R2:=V->V->Hp->VK->Prop
def OpR(X:Cx)(f:Value->Value->Sem Value)(r:R2):Prop :=
 ∀(pq:Yh) (s:Shared) (σ : St) (H:Hp) (x y:V) (v u:Value) (Q:VK),Inv X pq σ H s->Zq x v->Zq y u->r x y H Q ->
  Yk X (f v u) (EP X pq σ Q) X.xe s
def UnR(X:Cx)(f:Value->Sem Value)(r:V->Hp->VK->Prop):Prop :=
 ∀(pq:Yh) (s:Shared) (σ : St) (H:Hp) (x:V) (v:Value) (Q:VK),Inv X pq σ H s->Zq x v->r x H Q ->
  Yk X (f v) (EP X pq σ Q) X.xe s
def Zi(X:Cx)(f:Value)(r:List V->Hp->VK->Prop):Prop :=
 ∀(pq:Yh) (s:Shared) (σ : St) (H:Hp) (xs:List V) (us:List Value) (Q:VK),Inv X pq σ H s->Zb xs us->r xs H Q ->
  Yk X (call f us) (EP X pq σ Q) X.xe s
def tOp(r:R2)(ta tb:TE):TE:=λσ H Q=>ta σ H λx H1=>tb σ H1 λy H2=>r x y H2 Q
def tUn(r:V->Hp->VK->Prop)(ta:TE):TE:=λσ H Q=>ta σ H λx H1=>r x H1 Q
def rI(C:Int->Int->Prop)(g:Int->Int->V):R2:=λx y H Q=>∃i j,x=.int i/\y=.int j/\C i j/\Q (g i j) H
def rI0(g:Int->Int->V):R2:=λx y H Q=>∃i j,x=.int i/\y=.int j/\Q (g i j) H
def rU(g:Int->V):V->Hp->VK->Prop:=λx H Q=>∃i,x=.int i/\Q (g i) H
variable{g:Int->Int->Int}{r:R2}
section
variable{X:Cx}{a b c:Expr}{ta tb tc:TE}{pos:Pos}
theorem ZUK(ha:PE X a ta)(hb:PE X b tb){R:V->V->Hp->Prop}(I:Inv X pq σ H s)
  (h:ta σ H λx H1=>tb σ H1 λy H2=>R x y H2){Q:Yi}{f:Value->Value->Sem Value}
  (hf:∀v u s2 x y H2,Inv X pq σ H2 s2->Zq x v->Zq y u->R x y H2->Yk X (f v u) Q X.xe s2) :
  Yk X (eval a X.env) (λv s₁=>Yk X (eval b X.env) (λu s₂=>Yk X (f v u) Q X.xe s₂) X.xe s₁) X.xe s:=by
 refine thn (ha pq s σ H _ I h) λv s1 ⟨x,H1,I1,r1,q1⟩=>?_
 refine thn (hb pq s1 σ H1 _ I1 q1) λu s2 ⟨y,H2,I2,r2,q2⟩=>?_
 exact hf v u s2 x y H2 I2 r1 r2 q2
theorem ZTQ{op:Operator}(ho:OpR X (binaryOp op) r)(ha:PE X a ta)(hb:PE X b tb):PE X (.BinOp a op b pos) (tOp r ta tb):=by
 intro pq s σ H Q I h;exact wpAny_BinOp (ZUK ha hb I h λv u s2 x y H2 I2 rx ry q=>ho pq s2 σ H2 x y v u Q I2 rx ry q)
theorem pe_un{op:UnaryOp}{r:V->Hp->VK->Prop}(ho:UnR X (unaryOp op) r)(ha:PE X a ta):PE X (.UnaryOp op a pos) (tUn r ta):=by
 intro pq s σ H Q I h;exact UnaryOp_ (thn (ha pq s σ H _ I h) λv s1 ⟨x,H1,I1,r1,q1⟩=>ho pq s1 σ H1 x v Q I1 r1 q1)
theorem opI{f:Value->Value->Sem Value}{C:Int->Int->Prop}
  (rule:∀(i j:Int) (t u:Tok) (s:Shared) (Q:Yi) (E:Yi),C i j->Q (.int (g i j) s.toks) { s with toks:=s.toks+1 }->Yk X (f (.int i t) (.int j u)) Q E s) :
  OpR X f (rI C λi j=>.int (g i j)):=by
 intro pq s σ H x y v u Q I rx ry h;obtain⟨i,j,rfl,rfl,hc,q⟩:=h;obtain⟨t,rfl⟩:=rx;obtain⟨t',rfl⟩:=ry;exact rule i j t t' s _ _ hc ⟨.int (g i j),H,I.tok _,⟨_,rfl⟩,q⟩
theorem ZWA{f:Value->Value->Sem Value}
  (rule:∀(i j:Int) (t u:Tok) (s:Shared) (Q:Yi) (E:Yi),Q (.int (g i j) s.toks) { s with toks:=s.toks+1 }->Yk X (f (.int i t) (.int j u)) Q E s) :
  OpR X f (rI0 λi j=>.int (g i j)):=by
 intro pq s σ H x y v u Q I rx ry h;obtain⟨i,j,rfl,rfl,q⟩:=h;obtain⟨t,rfl⟩:=rx;obtain⟨t',rfl⟩:=ry;exact rule i j t t' s _ _ ⟨.int (g i j),H,I.tok _,⟨_,rfl⟩,q⟩
theorem ZSp{f:Value->Value->Sem Value}{g:Int->Int->Bool}
  (rule:∀(i j:Int) (t u:Tok) (s:Shared) (Q:Yi) (E:Yi),Q (.bool (g i j)) s->Yk X (f (.int i t) (.int j u)) Q E s) :
  OpR X f (rI0 λi j=>.bl (g i j)):=by
 intro pq s σ H x y v u Q I rx ry h;obtain⟨i,j,rfl,rfl,q⟩:=h;obtain⟨t,rfl⟩:=rx;obtain⟨t',rfl⟩:=ry;exact rule i j t t' s _ _ ⟨.bl (g i j),H,I,rfl,q⟩
def ZWE(i j:Int):Prop:=0<=j/\j<=1000000/\i.natAbs<2 ^ 64
def ZRp(i j:Int):Prop:=(-(2 ^ 64)<i/\i<2 ^ 64)\/(-(2 ^ 64)<j/\j<2 ^ 64)
theorem ZRp.ok{i j:Int}(h:ZRp i j):IntMulOk i j:=by
 rcases h with ⟨h1,h2⟩|⟨h1,h2⟩
 .exact .of_left (intBits_le_64 h1 h2)
 .exact .of_right (intBits_le_64 h1 h2)
theorem ZUx:OpR X (binaryOp .Add) (rI0 λi j=>.int (i+j)):=ZWA λ_ _ _ _ _ _ _ q=>add_int q
theorem ZUz:OpR X (binaryOp .Sub) (rI0 λi j=>.int (i-j)):=ZWA λ_ _ _ _ _ _ _ q=>sub_int q
theorem ZUW:OpR X (binaryOp .Mult) (rI ZRp λi j=>.int (i*j)):=opI λ_ _ _ _ _ _ _ hc q=>mul_int q hc.ok
theorem ZUl:OpR X (binaryOp .Mod) (rI (λ_ j=>0<j) λi j=>.int (i % j)):=opI λi j _ _ _ _ _ hc q=>by
 have h1:(0:Int)<j:=hc;exact mod_int' ⋯ (by rw[Int.fmod_eq_emod_of_nonneg i ⋯];exact q)
theorem ZUv:OpR X (binaryOp .Pow) (rI ZWE λi j=>.int (i ^ j.toNat)):=opI λ_ _ _ _ _ _ _ hc q=>pow_int_small hc.1 hc.2.1 hc.2.2 q
theorem unI{f:Value->Sem Value}{g:Int->Int}
  (rule:∀(i:Int) (t:Tok) (s:Shared) (Q:Yi) (E:Yi),Q (.int (g i) s.toks) { s with toks:=s.toks+1 }->Yk X (f (.int i t)) Q E s) :
  UnR X f (rU λi=>.int (g i)):=by
 intro pq s σ H x v Q I rx h;obtain⟨i,rfl,q⟩:=h;obtain⟨t,rfl⟩:=rx;exact rule i t s _ _ ⟨.int (g i),H,I.tok _,⟨_,rfl⟩,q⟩
theorem ZU0:UnR X (unaryOp .USub) (rU λi=>.int (-i)):=unI λ_ _ _ _ _ q=>neg_int q
end
variable{op:CmpOp}{us:List Value}
section
variable{X:Cx}{a b c:Expr}{ta tb tc:TE}{pos:Pos}
theorem op_lt:OpR X (compareOp .Lt) (rI0 λi j=>.bl (decide (i<j))):=ZSp λ_ _ _ _ _ _ _ q=>lt_int q
theorem op_le:OpR X (compareOp .LtE) (rI0 λi j=>.bl (decide (i<=j))):=ZSp λ_ _ _ _ _ _ _ q=>le_int q
theorem op_gt:OpR X (compareOp .Gt) (rI0 λi j=>.bl (decide (j<i))):=ZSp λ_ _ _ _ _ _ _ q=>gt_int q
theorem op_ge:OpR X (compareOp .GtE) (rI0 λi j=>.bl (decide (j<=i))):=ZSp λ_ _ _ _ _ _ _ q=>ge_int q
theorem ZDn(b:Expr)(h:op≠.In:=by decide)(h2:op≠.NotIn:=by decide):behindInMarks op b=false:=by
 have e1:(op == CmpOp.In)=false:=by cases op <;> first|rfl|exact absurd rfl h
 have e2:(op == CmpOp.NotIn)=false:=by cases op <;> first|rfl|exact absurd rfl h2
 cases b <;> simp[behindInMarks,e1,e2]
theorem ZRS(ho:OpR X (compareOp op) r)(ha:PE X a ta)(hb:PE X b tb)(hm:behindInMarks op b=false):PE X (.Compare a [op] [b] pos) (tOp r ta tb):=by
 intro pq s σ H Q I h;exact wpAny_Compare1 (ZUK ha hb I h λv u s2 x y H2 I2 rx ry q=>ho pq s2 σ H2 x y v u Q I2 rx ry q) hm
def ZQH(t:TE):TT:=λσ H Q=>t σ H λx H'=>∃k,x=.bl k/\Q k H'
theorem ZTE(ho:OpR X (compareOp op) r)(ha:PE X a ta)(hb:PE X b tb)(hm:behindInMarks op b=false):PT X (.Compare a [op] [b] pos) (ZQH (tOp r ta tb)):=by
 intro pq s σ H Q I h;refine wpAny_isTrue_Compare1 (thn (ha pq s σ H _ I h) λ v s1 ⟨x,H1,I1,r1,q1⟩=>thn (hb pq s1 σ H1 _ I1 q1) λ u s2 ⟨y,H2,I2,r2,q2⟩ =>
  thn (ho pq s2 σ H2 x y v u _ I2 r1 r2 q2) λc s3 ⟨z,H3,I3,r3,k,e,q3⟩=>?_) hm
 subst e;cases r3;exact wpAny_truthy_bool ⟨H3,I3,q3⟩
def ZOw(r r':R2)(ta tb tc:TE):TE:=λσ H Q=>ta σ H λx H1=>tb σ H1 λy H2=>r x y H2 λz H3=>∃k,z=.bl k /\
 (if k=true then tc σ H3 λw' H4=>r' y w' H4 Q else Q (.bl false) H3)
theorem ZPm{op':CmpOp}{r':R2}(ho:OpR X (compareOp op) r)(ho':OpR X (compareOp op') r')(ha:PE X a ta)(hb:PE X b tb)(hc:PE X c tc)
  (hm:lastMarks [op,op'] [b,c]=false:=by with_unfolding_all rfl):PT X (.Compare a [op,op'] [b,c] pos) (ZQH (ZOw r r' ta tb tc)):=by
 intro pq s σ H Q I h;refine isTrue_chain (thn (ha pq s σ H _ I h) λ v s1 ⟨x,H1,I1,r1,q1⟩=>test_link (thn (hb pq s1 σ H1 _ I1 q1) λ u s2 ⟨y,H2,I2,r2,q2⟩ =>
  thn (ho pq s2 σ H2 x y v u _ I2 r1 r2 q2) λd s3 ⟨z,H3,I3,r3,k,e,q3⟩=>?_)) hm
 subst e;cases r3;refine wpAny_truthy_bool ?_;cases k with
 |false =>
  obtain⟨k',e',q'⟩:=q3;cases e';exact ite_ff ⟨H3,I3,q'⟩
 |true =>
  refine ite_tt (test_last (thn (hc pq s3 σ H3 _ I3 q3) λw' s4 ⟨z',H4,I4,r4,q4⟩=>thn (ho' pq s4 σ H4 y z' u w' _ I4 r2 r4 q4) λd' s5 ⟨z2,H5,I5,r5,k2,e2,q5⟩=>?_));subst e2;cases r5;exact wpAny_truthy_bool ⟨H5,I5,q5⟩
theorem ZJG:(sizeLine:Nat)<2 ^ 63:=by rw[sizeLine_eq];decide
theorem ZLt:OpR X (binaryOp .Add) (λx y H Q=>∃i j,x=.str i/\y=.str j/\i.length+j.length<=sizeLine/\Q (.str (i++j)) H):=by
 intro pq s σ H x y v u Q I rx ry h;obtain⟨i,j,rfl,rfl,hz,q⟩:=h;obtain⟨t,rfl⟩:=rx;obtain⟨t',rfl⟩:=ry;exact add_str (λt' tk=>⟨.str (i++j),H,I.tok _,⟨_,rfl⟩,q⟩) hz
theorem ZBt{x:V}(r:Zb [x] us):∃u,us=[u]/\Zq x u:=by
 cases r with
 |cons r1 r2=>cases r2;exact⟨_,rfl,r1⟩
theorem ZPS{x y:V}(r:Zb [x,y] us):∃u w',us=[u,w']/\Zq x u/\Zq y w':=by
 cases r with
 |cons r1 r2 =>
  cases r2 with
  |cons r3 r4=>cases r4;exact⟨_,_,rfl,r1,r3⟩
theorem ZNa(hc:X.calm=true):Zi X (.builtin "max") (λxs H Q=>∃i j,xs=[.int i,.int j]/\Q (.int (if j > i then j else i)) H):=by
 intro pq s σ H xs us Q I r h;obtain⟨i,j,rfl,q⟩:=h;obtain⟨u,w',rfl,⟨t,rfl⟩,⟨t',rfl⟩⟩:=ZPS r;refine max_two_ints (I.ok.hd hc) λh' tk k=>⟨_,H,I.kept k,?_,q⟩
 by_cases hj:j > i
 .rw[Xp hj,Xp hj];exact⟨_,rfl⟩
 .rw[Xn hj,Xn hj];exact⟨_,rfl⟩
theorem ZNi(hc:X.calm=true):Zi X (.builtin "min") (λxs H Q=>∃i j,xs=[.int i,.int j]/\Q (.int (if j<i then j else i)) H):=by
 intro pq s σ H xs us Q I r h;obtain⟨i,j,rfl,q⟩:=h;obtain⟨u,w',rfl,⟨t,rfl⟩,⟨t',rfl⟩⟩:=ZPS r;refine min_two_ints (I.ok.hd hc) λh' tk k=>⟨_,H,I.kept k,?_,q⟩
 by_cases hj:j<i
 .rw[Xp hj,Xp hj];exact⟨_,rfl⟩
 .rw[Xn hj,Xn hj];exact⟨_,rfl⟩
theorem ZNr:Zi X (.type "int") (λxs H Q=>(∃i,xs=[.int i]/\Q (.int i) H)\/∃k,xs=[.bl k]/\Q (.int (if k then 1 else 0)) H):=by
 intro pq s σ H xs us Q I r h;rcases h with ⟨i,rfl,q⟩|⟨k,rfl,q⟩
 .obtain⟨u,rfl,t,rfl⟩:=ZBt r
  exact call_int_int ⟨.int i,H,I,⟨_,rfl⟩,q⟩
 .obtain⟨u,rfl,r1⟩:=ZBt r
  cases r1;exact call_int_bool ⟨.int (if k then 1 else 0),H,I.tok _,⟨_,rfl⟩,q⟩
end
structure ObjM (h:Heap) (x dx C:Addr) (mA:Yj):Prop where
 obj:h.get? x=some (instObj C dx)
 ns:h.Ns1 dx mA
 ne:dx≠x
variable{dx:Addr}{mA:Yj}
theorem ZOT(n:h.Ns1 dx mA):∃od,h.get? dx=some od/\∀name,lookIn name od=some (mA name):=by
 obtain⟨o,es,ep,ho,hd,hk,_,hm⟩:=n;refine⟨o,ho,λname=>?_⟩;have e:=hm name;unfold nsFind findBy at e;rw[<-Array.find?_toList] at e;unfold lookIn;rw[hd];dsimp only
 split
 .rename_i y q
  rw[q] at e;exact congrArg some e
 .rename_i q
  rw[q] at e;have a:es.toList.any (·.refKey)=false:=by
   rw[List.any_eq_false];intro y hy;obtain⟨z,t,hkey⟩:=hk y (Array.mem_toList_iff.mp hy);simp[DictEntry.refKey,hkey]
  have a' : ¬es.toList.any (·.refKey)=true:=by rw[a];exact Xf
  rw[Xn a'];exact congrArg some e
variable{C:Addr}
theorem ObjM.look{x:Addr}(I:ObjM h x dx C mA):∃od,PySem.W.InstAt h x (instObj C dx) C (some od)/\∀name,lookIn name od=some (mA name) :=
 let ⟨od,ho,hl⟩:=ZOT I.ns
 ⟨od,⟨I.obj,rfl,rfl,ho⟩,hl⟩
variable{kw:List (Str×Value)}
section
variable{prog:Program}{w:World}{A:Around}{E:Yi}{s:Shared}{K:Frag}{x dx C f:Addr}{mA:Yj}{name:Str}{v:Value}
theorem ZRC{expr:Bool}{Q:Yi}(X:K.In s.heap)(I:ObjM s.heap x dx C mA)(hg:plainGet K C name=true)(hh:hasDictIn K C=true)
  (ha:findIn K (.ref C) name=some none)(hv:mA name=some v)(hv':handedIn v=true)(h:Q v { s with toks:=s.toks+1 }) :
  Yl prog w A (getAttr (.ref x) name expr) Q E s:=by
 obtain⟨od,J,hl⟩:=I.look;exact PySem.W.get_value X J (plainGet_of hg).1 (PySem.W.findObj_own hh ha rfl (by rw[hl,hv])) hv' h
theorem ZOh{pl:Sem Bool}{Q:Value×List Value->Shared->Prop}(X:K.In s.heap)(I:ObjM s.heap x dx C mA)(hg:plainGet K C name=true)
  (hf:findIn K (.ref C) name=some (some (.ref f)))(ht:isFn K (.ref f)=true)(hv:mA name=none)(h:Q (.ref f,[.ref x]) s) :
  Yl prog w A (getMethod (.ref x) name pl) Q E s:=by
 obtain⟨od,J,hl⟩:=I.look;exact PySem.W.method_fn X J (plainGet_of hg).1 (plainGet_of hg).2 hf (beq_iff_eq.mp ht) (by show(lookIn name od).map (·.isSome)=some false;rw[hl,hv];rfl) h
theorem ZSE{ns:List Str}(X:K.In s.heap)(I:ObjM s.heap x dx C mA)
  (hs:findIn K (.ref C) "__setattr__" = some (some (.builtin "object.__setattr__")))(hp:plainOver K C=true)(ht:takerIn K C name=some none)(hh:hasDictIn K C=true)
  (hw:PySem.Within mA ns)(hsz:ns.length<=sizeLine)
  (h:∀h',ObjM h' x dx C (λy=>if y=name then some v else mA y)->Heap.SameBut dx s.heap h'->Q () { s with heap:=h',toks:=s.toks+2 }) :
  Yl prog w A (setAttr (.ref x) name v) Q E s:=by
 obtain⟨od,J,hl⟩:=I.look;refine PySem.W.set_plain X J hs (PySem.W.osa_open (s:={ s with toks:=s.toks+1 }) (r:=none) X J hp ht λb=>?_);obtain⟨cd,hc,hd'⟩:=PySem.W.any_some hh;have hx:s.heap.get? x=some ⟨.ref C,some dx,.plain,#[]⟩:=I.obj;refine Xb (Xu (Xb (Xb (wpAny_loadPart hx (Xb (PySem.W.Looks.here (s:={ s with toks:=s.toks+1 }) (PySem.W.looks_clsIn X hc) ?_))))));rw[hd'];refine Xu (a:=some dx) (Xb (Xu (Xb ?_)));refine wpAny_nsSet1 (s:={ s with toks:=s.toks+1 }) I.ns λh' hn2 hs2=>?_
 obtain⟨oD,esD,epD,hoD,hdD,hcD⟩:=hn2.count (PySem.Within.cons name v hw);refine Xb (wpAny_lookBehind hoD (by rw[hdD];exact pastItsLine_dict (le_trans hcD (by rw[Xc];omega))) ?_);exact Xu (h _ ⟨(hs2.2 _ (Ne.symm I.ne)).trans I.obj,hn2,I.ne⟩ hs2)
theorem ZQh{R:Result->Shared->Prop}{vs:List Value}(X:K.In s.heap)(hm:makesIn K C=true)
  (hi:findIn K (.ref C) "__init__" = some (some (.ref f)))(hf:PySem.W.typeIn K (.ref f)=some (.type "function"))
  (h:codeAny (model prog w) (A.under (.builtin "type.__call__" ⟨.ref C :: vs,kw⟩)) (.call (.ref f) ⟨.ref (s⁻¹+1) :: vs,kw⟩) (PySem.W.InitBack (s⁻¹+1) R)
   { s with heap:=(s.heap.push emptyDict).push (instObj C s⁻¹) }) :
  codeAny (model prog w) A (.call (.ref C) ⟨vs,kw⟩) R s:=by
 obtain⟨hh,g,d,t,os⟩:=s;exact PySem.W.make_core (PySem.W.makes_of X hm) (PySem.W.looks_findIn X hi) (λself=>PySem.W.bind_fn X self hf) (.inl rfl) h
end
noncomputable def ZCH(f:Str)(v:V):List (Str×V)->List (Str×V)
 |[]=>[(f,v)]
 |(g,x)::r=>if g=f then (g,v)::r else (g,x)::ZCH f v r
theorem ZE7(f g:Str)(v:V):∀fs:List (Str×V),(ZCH f v fs).lookup g=if g=f then some v else fs.lookup g
 |[]=>by
  show List.lookup g [(f,v)]=_
  by_cases h:g=f
  .have hb:(g == f)=true:=beq_iff_eq.mpr h
   simp only[List.lookup,hb,Xp h]
  .have hb:(g == f)=false:=beq_eq_false_iff_ne.mpr h
   simp only[List.lookup,hb,Xn h]
 |(k,x)::r=>by
  have ih:=ZE7 f g v r;rw[show ZCH f v ((k,x)::r)=(if k=f then (k,v)::r else (k,x)::ZCH f v r) from rfl]
  by_cases hk:k=f
  .rw[Xp hk]
   by_cases h:g=k
   .have hb:(g == k)=true:=beq_iff_eq.mpr h
    simp only[List.lookup,hb,Xp (h.trans hk)]
   .have hb:(g == k)=false:=beq_eq_false_iff_ne.mpr h
    simp only[List.lookup,hb,Xn (λe:g=f=>h (e.trans hk.symm))]
  .rw[Xn hk]
   by_cases h:g=k
   .have hb:(g == k)=true:=beq_iff_eq.mpr h
    simp only[List.lookup,hb,Xn (λe:g=f=>hk (h.symm.trans e))]
   .have hb:(g == k)=false:=beq_eq_false_iff_ne.mpr h
    simp only[List.lookup,hb];exact ih
theorem ZEn(f:Str)(v:V):∀fs:List (Str×V),f∈(ZCH f v fs).map (·.1)/\∀g,g∈fs.map (·.1)->g∈(ZCH f v fs).map (·.1)
 |[]=>⟨by simp[ZCH],λg h=>by simp at h⟩
 |(k,x)::r=>by
  obtain⟨i1,i2⟩:=ZEn f v r;rw[show ZCH f v ((k,x)::r)=(if k=f then (k,v)::r else (k,x)::ZCH f v r) from rfl]
  by_cases hk:k=f
  .rw[Xp hk]
   subst hk;exact⟨by simp,λg h=>by simpa using h⟩
  .rw[Xn hk]
   refine⟨?_,λg h=>?_⟩
   .rw[map_cons]
    exact Xo _ i1
   .rw[map_cons] at h ⊢
    rcases List.mem_cons.mp h with e|e
    .exact List.mem_cons.mpr (.inl e)
    .exact Xo _ (i2 g e)
theorem ZFI(f:Str)(v:V):∀fs:List (Str×V),(ZCH f v fs).length<=fs.length+1
 |[]=>by simp[ZCH]
 |(k,x)::r=>by
  have ih:=ZFI f v r;rw[show ZCH f v ((k,x)::r)=(if k=f then (k,v)::r else (k,x)::ZCH f v r) from rfl]
  by_cases hk:k=f
  .rw[Xp hk,Xc,Xc];omega
  .rw[Xn hk,Xc,Xc];omega
theorem ZHN.some_of{o:Option Value}(r:ZHN (some v) o):∃u,o=some u/\Zq v u:=by
 cases o with
 |none=>exact(show False from r).elim
 |some u=>exact⟨u,rfl,r⟩
theorem ZHN.none_of{o:Option Value}(r:ZHN none o):o=none:=by
 cases o with
 |none=>rfl
 |some u=>exact(show False from r).elim
theorem ZNk(r:Zq v u):handedIn u=true:=by
 cases v with
 |non=>cases (show u=Value.none from r);rfl
 |bl b=>cases (show u=Value.bool b from r);rfl
 |int i=>obtain⟨t,e⟩:=(show ∃t,u=Value.int i t from r);cases e;rfl
 |str x=>obtain⟨t,e⟩:=(show ∃t,u=Value.str x t from r);cases e;rfl
 |byt b=>obtain⟨t,e⟩:=(show ∃t,u=Value.bytes b t from r);cases e;rfl
 |flt b=>obtain⟨t,e⟩:=(show ∃t,u=Value.float b t from r);cases e;rfl
 |ref a=>cases (show u=Value.ref a from r);rfl
 |ty n=>cases (show u=Value.type n from r);rfl
section
variable{P:Program}{w:World}{H H':Hp}{h h':Heap}{a C dx:Addr}{fs fs':List (Str×V)}
theorem ZJO(hok:HOk P w H h)(e:H a=some (.ins C dx fs)):∃mA,ObjM h a dx C mA/\(∀f,ZHN (fs.lookup f) (mA f))/\PySem.Within mA (fs.map (·.1))/\fs.length<=1000/\H dx=some (.own a):=by
 obtain⟨d,z,ne,ob,mA,n,r,q⟩:=(show ZBI P w H h a (.ins C dx fs) from hok a _ e);exact⟨mA,⟨ob,n,ne⟩,r,q,z,d⟩
end
structure Cls (K:Frag) (C:Addr):Prop where
 pg:plainGet K C Str.empty=true
 hd:hasDictIn K C=true
 po:plainOver K C=true
 sa:findIn K (.ref C) "__setattr__" = some (some (.builtin "object.__setattr__"))
theorem Cls.get(c:Cls K C)(f:Str):plainGet K C f=true:=c.pg
def ZC1(K:Frag)(C:Addr)(f:Str):Prop:=findIn K (.ref C) f=some none
theorem ZC1.taker{f:Str}(n:ZC1 K C f):takerIn K C f=some none:=by
 unfold takerIn;rw[show findIn K (.ref C) f=some none from n];rfl
structure Meth (K:Frag) (C:Addr) (m:Str) (f:Addr):Prop where
 at_:findIn K (.ref C) m=some (some (.ref f))
 fn:isFn K (.ref f)=true
 kp:keepIn K (.ref f)=true
section
variable{X:Cx}{pq:Yh}{σ:St}{H:Hp}{s:Shared}{a C dx:Addr}{fs:List (Str×V)}{f:Str}{v:V}{A:Around}{E:Yi}
theorem ZLV{b:Bool}{Q:Yi}(I:Inv X pq σ H s)(e:H a=some (.ins C dx fs))(c:Cls X.K C)(n:ZC1 X.K C f)(l:fs.lookup f=some v)
  (h:∀u s',Inv X pq σ H s'->Zq v u->Q u s'):wpAny (model X.prog X.w) A (getAttr (.ref a) f b) Q E s:=by
 obtain⟨mA,O,r,_,_,_⟩:=ZJO I.hok e;obtain⟨u,hu,ru⟩:=ZHN.some_of (v:=v) (o:=mA f) (by rw[<-l];exact r f);exact ZRC I.kIn O (c.get f) c.hd n hu (ZNk ru) (h u _ (I.tok _) ru)
theorem ZLX{m:Str}{g:Addr}{pl:Sem Bool}{Q:Value×List Value->Shared->Prop}(I:Inv X pq σ H s)(e:H a=some (.ins C dx fs))(c:Cls X.K C)(k:Meth X.K C m g)(l:fs.lookup m=none)
  (h:Q (.ref g,[.ref a]) s):wpAny (model X.prog X.w) A (getMethod (.ref a) m pl) Q E s:=by
 obtain⟨mA,O,r,_,_,_⟩:=ZJO I.hok e;have hn:mA m=none:=ZHN.none_of (by rw[<-l];exact r m);exact ZOh I.kIn O (c.get m) k.at_ k.fn hn h
theorem ZK9{y:V}(I:Inv X pq σ H s)(e:H a=some (.ins C dx fs))(c:Cls X.K C)(n:ZC1 X.K C f)(hl:fs.length<1000)(ry:Zq y u)
  (h:∀s',Inv X pq σ (upd H a (.ins C dx (ZCH f y fs))) s'->Q () s'):wpAny (model X.prog X.w) A (setAttr (.ref a) f u) Q E s:=by
 obtain⟨mA,O,r,wi,_,ho⟩:=ZJO I.hok e;have hz:(fs.map (·.1)).length<=sizeLine:=by rw[Xm,sizeLine_eq];omega
 refine ZSE I.kIn O c.sa c.po n.taker c.hd wi hz λh' O' sb=>h _ ?_
 have hd:∃o,h'.get? dx=some o:=let ⟨o,_,_,e',_⟩:=O'.ns;⟨o,e'⟩
 refine I.write (x:=a) (e:=dx) (by rw[e];exact True.intro) (.inr ho) (λb q hb z=>(sb.2 b hb).trans z) hd ?_;refine⟨by rw[ZG O.ne];exact ho,?_,O.ne,O'.obj,_,O'.ns,λg=>?_,λg hg=>?_⟩
 .have:=ZFI f y fs;omega
 .show ZHN ((ZCH f y fs).lookup g) (if g=f then some u else mA g)
  rw[ZE7]
  by_cases q:g=f
  .rw[Xp q,Xp q];exact ry
  .rw[Xn q,Xn q];exact r g
 .by_cases q:g=f
  .rw[q];exact(ZEn f y fs).1
  .refine(ZEn f y fs).2 g (wi g λz=>hg ?_)
   show(if g=f then some u else mA g)=none;rw[Xn q];exact z
theorem Inv.made(I:Inv X pq σ H s):Inv X pq σ (upd (upd H s⁻¹ (.own (s⁻¹+1))) (s⁻¹+1) (.ins C s⁻¹ []))
  { s with heap:=(s.heap.push emptyDict).push (instObj C s⁻¹) }:=by
 have e1:(s.heap.push emptyDict).get? s⁻¹=some emptyDict:=get?_push_size s.heap rfl;have e2:((s.heap.push emptyDict).push (instObj C s⁻¹)).get? (s⁻¹+1)=some (instObj C s⁻¹):=by
  have:=get?_push_size (s.heap.push emptyDict) (o:=instObj C s⁻¹) rfl
  rwa [size_push] at this
 have e3:(s.heap.push emptyDict).Ns s⁻¹ (λ_=>none):=⟨emptyDict,#[],_,e1,rfl,(λe he=>absurd he (by simp)),λ_=>rfl⟩;have I1:=I.laid (a:=s⁻¹) (o:=.own (s⁻¹+1)) (h':=s.heap.push emptyDict) (t':=s.toks) (λb u q=>get?_push_of_some _ q) (le_refl _) ⟨_,e1⟩;refine I1.laid (a:=s⁻¹+1) (o:=.ins C s⁻¹ []) (t':=s.toks) (λb u q=>get?_push_of_some _ q) (Nat.le_of_eq (size_push _ _)) ?_;have ne:s⁻¹≠s⁻¹+1:=ne_of_lt (lt_succ_self _);refine⟨by rw[ZG ne,Za],zero_le _,ne,e2,λ_=>none,(Heap.Ns1.of_empty e3).at λo q=>get?_push_of_some _ q,λ_=>True.intro,λy hy=>absurd rfl hy⟩
theorem ZSc{prog:Program}{env:Env}{f:Str}{Q:Yi}(hb:attributeBase e f env (eval e env)=eval e env)
  (h:Yl prog w A (eval e env) (λo s₁=>Yl prog w A (getAttr o f true) Q E s₁) E s):Yl prog w A (eval (.Attribute e f pos) env) Q E s :=
 Attribute_any_ h (by rw[arm_eval_Attribute,hb])
end
def tFld(K:Frag)(ta:TE)(f:Str):TE:=λσ H Q=>ta σ H λx H1=>∃a C dx fs v,x=.ref a/\H1 a=some (.ins C dx fs)/\Cls K C/\ZC1 K C f/\fs.lookup f=some v/\Q v H1
def sFld(K:Frag)(ta tv:TE)(f:Str):TS:=λD σ H=>tv σ H λy H1=>ta σ H1 λx H2=>∃a C dx fs,x=.ref a/\H2 a=some (.ins C dx fs)/\Cls K C/\ZC1 K C f/\fs.length<1000 /\
 D.nx σ (upd H2 a (.ins C dx (ZCH f y fs)))
section
variable{X:Cx}{o e value:Expr}{f:Str}{pos pos' tpos:Pos}{ta tv:TE}
theorem ZUI(he:PE X e ta)(hb:attributeBase e f X.env (eval e X.env)=eval e X.env):PE X (.Attribute e f pos) (tFld X.K ta f):=by
 intro pq s σ H Q I h;refine ZSc hb (thn (he pq s σ H _ I h) λu s1 ⟨x,H1,I1,rx,a,C,dx,fs,v,ex,ea,c,n,l,q⟩=>?_);subst ex;obtain rfl:u=Value.ref a:=rx;exact ZLV I1 ea c n l λu' s2 I2 ru=>⟨v,H1,I2,ru,q⟩
theorem ZVw(ha:PE X o ta)(hv:PE X value tv)(hs:swapsWith value (some (.Attribute o f pos')) pos.line X.env=pure false):PS X (.Assign [.Attribute o f pos'] value pos) (sFld X.K ta tv f):=by
 intro pq s σ H D I h;refine plainObj_wpAny_Assign_Attribute (thn (hv pq s σ H _ I h) λu s1 ⟨y,H1,I1,ry,q⟩=>thn (ha pq s1 σ H1 _ I1 q) λov s2 ⟨x,H2,I2,rx,a,C,dx,fs,ex,ea,c,n,l,q2⟩=>?_) hs;subst ex;obtain rfl:ov=Value.ref a:=rx;exact ZK9 I2 ea c n l ry λs3 I3=>⟨σ,_,I3,q2⟩
end
structure Room (k:Nat) (A:Around):Prop where
 hd:A.handled=none
 dp:A.depth+3*k+5<recursionLimit
 un:A.units+16*k+200<cLine
 gd:A.guards=some []
theorem Room.mono(r:Room k A)(h:j<=k):Room j A:=⟨r.hd,by have:=r.dp;omega,by have:=r.un;omega,r.gd⟩
theorem Room.deeper{k:Nat}{A:Around}(r:Room (k+1) A)(env:Env):Room k (A.deeper env) :=
 ⟨r.hd,by have:=r.dp;show A.depth+1+3*k+5<_;omega,by have:=r.un;show A.units+3+16*k+200<_;omega,r.gd⟩
theorem ZKt:(A.under (.builtin "type.__call__" ⟨.ref C::us,kw⟩)).depth=A.depth+1:=by
 first|rfl|simp[Around.under,Code.weight,Code.isCreation,Code.isGuard,Code.isCaller,Code.frames,Code.isFrame,guardIds]
theorem ZLk:(A.under (.builtin "type.__call__" ⟨.ref C::us,kw⟩)).units=A.units+1:=by
 first|rfl|simp[Around.under,Code.cUnits,Code.frames,Code.isFrame]
theorem ZJe:(A.under (.builtin "type.__call__" ⟨.ref C::us,kw⟩)).guards=A.guards:=by
 first|rfl|simp[Around.under]
theorem Room.make(r:Room (k+1) A)(C:Addr)(us:List Value)(kw:List (Str×Value)):Room k (A.under (.builtin "type.__call__" ⟨.ref C::us,kw⟩)) :=
 ⟨r.hd,by have:=r.dp;rw[ZKt];omega,by have:=r.un;rw[ZLk];omega,ZJe.trans r.gd⟩
theorem Room.depth{k:Nat}{A:Around}(r:Room k A):A.depth<recursionLimit:=by have:=r.dp;omega
theorem Room.units{k:Nat}{A:Around}(r:Room k A):A.units+64<cLine:=by have:=r.un;omega
def ZV3:TA:=λ_ H Q=>Q [] H
def tCons(ta:TE)(tr:TA):TA:=λσ H Q=>ta σ H λx H1=>tr σ H1 λxs H2=>Q (x::xs) H2
section
variable{X:Cx}{e:Expr}{es:List Expr}{te:TE}{t:TA}{pos:Pos}
theorem ZK1:PA X [] ZV3:=λ_ _ _ _ H Q I h=>Calls.spliced_nil ⟨[],H,I,.nil,h⟩
theorem ZIG(ha:PE X e te)(hr:PA X es t)(hs:Ya X e es:=by rfl):PA X (e::es) (tCons te t):=by
 intro pos pq s σ H Q I h;rw[hs];show wpAny _ _ (spliced ((false,eval e X.env)::backTo pos (starEach es X.env))) _ _ s;refine Calls.spliced_cons (thn (ha pq s σ H _ I h) λu s1 ⟨x,H1,I1,r1,q1⟩=>?_);exact thn (hr pos pq s1 σ H1 _ I1 q1) λus s2 ⟨xs,H2,I2,r2,q2⟩=>⟨x::xs,H2,I2,.cons r1 r2,q2⟩
def tTup(t:TA):TE:=λσ H Q=>t σ H λxs H1=>xs.length<=sizeLine/\∀p,H1 p=none->Q (.ref p) (upd H1 p (.tup xs))
def tLst(t:TA):TE:=λσ H Q=>t σ H λxs H1=>xs.length<=sizeLine/\∀p,H1 p=none->Q (.ref p) (upd H1 p (.lst xs))
theorem ZT6{x1}(h:PA X es t):PE X (.Tuple es x1 pos) (tTup t):=by
 intro pq s σ H Q I hq;refine wpAny_Tuple_spliced (thn (h pos pq s σ H _ I hq) λus s1 ⟨xs,H1,I1,r,z,q⟩=>⟨by rw[<-r.length];exact z,?_⟩);have hf:H1 s1⁻¹=none:=I1.hok.fresh (le_refl _);refine⟨.ref s1⁻¹,upd H1 s1⁻¹ (.tup xs),I1.laid (t':=s1.toks) (λb u e=>get?_push_of_some _ e) (le_refl _) ?_,rfl,q _ hf⟩;exact⟨z,us,r,⟨_,get?_push_size _ rfl,rfl,_,rfl⟩⟩
theorem ZLD(h:PA X es t):PE X (.List es pos) (tLst t):=by
 intro pq s σ H Q I hq;refine wpAny_List_spliced (thn (h pos pq s σ H _ I hq) λus s1 ⟨xs,H1,I1,r,z,q⟩=>⟨by rw[<-r.length];exact z,?_⟩);have hf:H1 s1⁻¹=none:=I1.hok.fresh (le_refl _);refine⟨.ref s1⁻¹,upd H1 s1⁻¹ (.lst xs),I1.laid (t':=s1.toks) (λb u e=>get?_push_of_some _ e) (le_refl _) ?_,rfl,q _ hf⟩;exact⟨z,us,0,r,get?_push_size _ rfl⟩
end
abbrev Sp:=List V->Hp->VK->XK->Prop
abbrev CXT:=List Env->Hp->Shared->XK->Value->Shared->Prop
structure Env0 (P:Program) (w:World) (K:Frag) (mg:Yj) (base:Heap) (A:Around) (outer:List Env) (s:Shared) (H:Hp):Prop where
 frames:A.frames=some outer
 mod:Mod K mg base
 bs:∀b o,base.get? b=some o->s.heap.get? b=some o/\H b=none
 bsz:base.objs.size<=s⁻¹
 funs:s.heap.FunFrames base outer
 frf:∀b∈frs outer,H b=none
 hok:HOk P w H s.heap
 bare:AllBare s.gens
def CE(outer:List Env)(P:Program)(w:World)(H:Hp)(s:Shared)(Q:VK)(u:Value)(s':Shared):Prop :=
 ∃v H',s'.os=s.os/\AllBare s'.gens/\Un (frs outer) [] H H' s.heap s'.heap/\HOk P w H' s'.heap/\Zq v u/\Q v H'
def CR(CX:CXT)(outer:List Env)(P:Program)(w:World)(H:Hp)(s:Shared)(Q:VK)(E:XK)(r:Result)(s':Shared):Prop :=
 match r with
 |.ok (.ret u)=>CE outer P w H s Q u s'
 |.ok _=>False
 |.error e=>CX outer H s E e s'
structure FnOk (P:Program) (w:World) (K:Frag) (mg:Yj) (base:Heap) (CX:CXT) (k:Nat) (f:Addr) (fd:FuncData) (ps:List Str) (sp:Sp):Prop where
 len:∀vs H Q E,sp vs H Q E->vs.length=ps.length
 run:∀(A:Around) (outer:List Env) (s:Shared) (H:Hp) (args:Args) (us:List Value) (vs:List V) (Q:VK) (E:XK),Room k A->Env0 P w K mg base A outer s H->BindsTo s fd args (ps.zip us)->Zb vs us->sp vs H Q E ->
  codeAny (model P w) A (.call (.ref f) args) (CR CX outer P w H s Q E) s
theorem FnOk.mono{P:Program}{w:World}{K:Frag}{mg:Yj}{base:Heap}{CX:CXT}{j k:Nat}{f:Addr}{fd:FuncData}{ps:List Str}{sp:Sp}(F:FnOk P w K mg base CX j f fd ps sp)(h:j<=k) :
  FnOk P w K mg base CX k f fd ps sp:=⟨F.len,λA outer s H args us vs Q E hr=>F.run A outer s H args us vs Q E (hr.mono h)⟩
variable{mg:Yj}{base:Heap}{CX:CXT}{fd:FuncData}{ps:List Str}
theorem FnOk.imp{f:Addr}{sp sp':Sp}(F:FnOk P w K mg base CX k f fd ps sp)
  (h:∀vs H Q E,sp' vs H Q E->sp vs H Q E):FnOk P w K mg base CX k f fd ps sp' :=
 ⟨λvs H Q E q=>F.len vs H Q E (h _ _ _ _ q),λA outer s H args us vs Q E hr he hb hv hs=>F.run A outer s H args us vs Q E hr he hb hv (h _ _ _ _ hs)⟩
variable{outer:List Env}
theorem Env0.make(e:Env0 P w K mg base A outer s H)(C:Addr)(us:List Value)(kw:List (Str×Value)) :
  Env0 P w K mg base (A.under (.builtin "type.__call__" ⟨.ref C::us,kw⟩)) outer s H:=⟨by first|exact e.frames|(simpa [Around.under,Code.envs,Code.isFrame,pushEnvs] using e.frames),e.mod,e.bs,e.bsz,e.funs,e.frf,e.hok,e.bare⟩
section
variable{X:Cx}{pq:Yh}{σ:St}{H:Hp}{s s':Shared}
theorem Inv.env0(I:Inv X pq σ H s):Env0 X.prog X.w X.K X.mg X.base X.A X.stack s H :=
 ⟨I.ok.frames,I.ok.mod,I.bs,le_trans I.ok.bsz I.sz,I.stack,I.stkFree,I.hok,I.bare⟩
theorem Inv.after{Q:VK}(I:Inv X pq σ H s)(h:CE X.stack X.prog X.w H s Q u s'):EP X pq σ Q u s':=by
 obtain⟨v,H',os,bare,un,hok,r,q⟩:=h;obtain⟨hh,g,d,t,os'⟩:=s';obtain rfl:os'=s.os:=os;exact⟨v,H',I.call (h':=hh) (g':=g) (d':=d) (t':=t) (ch:=[]) un hok bare (λb z=>absurd z (by simp)),r,q⟩
end
def ZOj(sp:Sp)(dvs:List V)(E:XK)(t:TA):TE:=λσ H Q=>t σ H λvs H1=>sp (vs++dvs) H1 Q E
def tMeth(C:Addr)(m:Str)(sp:Sp)(dvs:List V)(E:XK)(ta:TE)(t:TA):TE:=λσ H Q=>ta σ H λx H1=>∃a dx fs,x=.ref a/\H1 a=some (.ins C dx fs)/\fs.lookup m=none /\
 t σ H1 λvs H2=>sp (x::(vs++dvs)) H2 Q E
def tMake(C:Addr)(sp:Sp)(dvs:List V)(E:XK)(t:TA):TE:=λσ H Q=>t σ H λvs H1=>∀x dx,H1 x=none->H1 dx=none->dx≠x ->
 sp (.ref x::(vs++dvs)) (upd (upd H1 dx (.own x)) x (.ins C dx [])) (λv H2=>v=.non/\Q (.ref x) H2) E
def ZDA(K:Frag)(fd:FuncData)(ps:List Str)(ds:List Value):Prop :=
 ∀(s:Shared) (us:List Value),K.In s.heap->(us++ds).length=ps.length->BindsTo s fd ⟨us,[]⟩ (ps.zip (us++ds))
theorem ZDA.all(h:∀us:List Value,us.length=ps.length->bindArgs fd ⟨us,[]⟩=pure (ps.zip us)):ZDA K fd ps []:=λs us _ hl=>by
 rw[append_nil] at hl ⊢;exact .of_eq (h us hl)
def ZDs(CX:CXT)(X:Cx)(E:XK):Prop:=∀(pq:Yh) (σ : St) (H:Hp) (s:Shared) (e:Value) (s':Shared),Inv X pq σ H s->CX X.stack H s E e s'->X.xe e s'
variable{vs:List V}
section
variable{X:Cx}{CX:CXT}{k:Nat}{f C:Addr}{fd:FuncData}{ps:List Str}{sp:Sp}{dvs:List V}{ds:List Value}{E:XK}{x m:Str}{p pos apos:Pos}{e o:Expr}{es:List Expr}{ta:TE}{t:TA}
theorem ZL5{Q:VK}(F:FnOk X.prog X.w X.K X.mg X.base CX k f fd ps sp)(hr:Room k X.A)(hb:ZDA X.K fd ps ds)(hd:Zb dvs ds)(hx:ZDs CX X E)
  (I:Inv X pq σ H s)(r:Zb vs us)(h:sp (vs++dvs) H Q E):Yk X (call (.ref f) us) (EP X pq σ Q) X.xe s:=by
 have r2:Zb (vs++dvs) (us++ds):=r.append hd;have hl:(us++ds).length=ps.length:=by rw[<-r2.length];exact F.len _ _ _ _ h
 refine wpAny_call (codeAny_mono (F.run X.A X.stack s H ⟨us,[]⟩ (us++ds) (vs++dvs) Q E hr I.env0 (hb s us I.kIn hl) r2 h) λr s' hq=>?_);cases r with
 |error e=>exact hx pq σ H s e s' I hq
 |ok fl =>
  cases fl with
  |ret u=>exact I.after hq
  |next=>exact False.elim hq
  |brk=>exact False.elim hq
  |cont=>exact False.elim hq
theorem ZSK(F:FnOk X.prog X.w X.K X.mg X.base CX k f fd ps sp)(hr:Room k X.A)(hg:Gl X x)(hm:X.mg x=some (.ref f))(hk:keepIn X.K (.ref f)=true)(hb:ZDA X.K fd ps ds)(hd:Zb dvs ds)(hx:ZDs CX X E)
  (ha:PA X (e::es) t)(hdb:Yf x:=by decide)(he:Ya X e es:=by rfl)(hpl:Yb X pos es:=by rfl) :
  PE X (.Call (.Name x p) (e::es) [] pos) (ZOj sp dvs E t):=by
 intro pq s σ H Q I h;refine wpAny_Call_Name_kw (ZFg I hg hm ?_ hdb);refine callWith_K (h₀:=X.base) I.ok.mod.kin hk (thn (ha pos pq s σ H _ I h) λus s1 ⟨vs,H1,I1,r,q⟩=>⟨I1.kIn,?_⟩) he hpl;exact ZL5 F hr hb hd hx I1 r q
theorem ZO8(F:FnOk X.prog X.w X.K X.mg X.base CX k f fd ps sp)(hr:Room k X.A)(hg:Gl X x)(hm:X.mg x=some (.ref f))(hk:keepIn X.K (.ref f)=true)(hb:ZDA X.K fd ps ds)(hd:Zb dvs ds)(hx:ZDs CX X E)
  (hdb:Yf x:=by decide):PE X (.Call (.Name x p) [] [] pos) (ZOj sp dvs E ZV3):=by
 intro pq s σ H Q I h;refine wpAny_Call_Name_kw (ZFg I hg hm ?_ hdb);exact PySem.W.callWith_K0 I.kIn hk (ZL5 (us:=[]) F hr hb hd hx I .nil h)
theorem ZTC{pl:Sem Bool}(he:PE X o ta)(c:Cls X.K C)(hm:Meth X.K C m f)(F:FnOk X.prog X.w X.K X.mg X.base CX k f fd ps sp)(hr:Room k X.A)(hb:ZDA X.K fd ps ds)(hd:Zb dvs ds)(hx:ZDs CX X E)(ha:PA X (e::es) t)
  (hst:Ya X e es:=by rfl)(hpl:Yb X pos es:=by rfl)
  (ht:eval (.Call (.Attribute o m apos) (e :: es) [] pos) X.env=(do
   let ov <-eval o X.env
   standAt apos.atName
   let (f,first) <-holding [ov] (getMethod ov m pl)
   callWith pos f first (backTo pos (starEach (e::es) X.env)) (backToKw pos (keywordEach [] X.env))):=by rfl) :
  PE X (.Call (.Attribute o m apos) (e::es) [] pos) (tMeth C m sp dvs E ta t):=by
 intro pq s σ H Q I h;refine PySem.W.methodCall_KW (pl:=pl) (thn (he pq s σ H _ I h) λu s1 ⟨x,H1,I1,rx,a,dx,fs,ex,ea,l,q⟩=>?_) ht;subst ex;obtain rfl:u=Value.ref a:=rx;refine ZLX I1 ea c hm l ?_;refine callWith_K (first:=[.ref a]) (h₀:=X.base) I.ok.mod.kin hm.kp (thn (ha pos pq s1 σ H1 _ I1 q) λus s2 ⟨vs,H2,I2,r,q2⟩=>⟨I2.kIn,?_⟩) hst hpl;exact ZL5 (us:=.ref a::us) (vs:=.ref a::vs) F hr hb hd hx I2 (.cons rfl r) q2
structure Mk (K:Frag) (C f:Addr):Prop where
 makes:makesIn K C=true
 init:findIn K (.ref C) "__init__" = some (some (.ref f))
 fn:isFn K (.ref f)=true
 kp:keepIn K (.ref C)=true
theorem ZOk{Q:VK}(M:Mk X.K C f)(F:FnOk X.prog X.w X.K X.mg X.base CX k f fd ps sp)(hr:Room (k+1) X.A)(hb:ZDA X.K fd ps ds)(hd:Zb dvs ds)
  (hx:ZDs CX X E)(I:Inv X pq σ H s)(r:Zb vs us)
  (h:∀x dx,H x=none->H dx=none->dx≠x->sp (.ref x::(vs++dvs)) (upd (upd H dx (.own x)) x (.ins C dx [])) (λv H2=>v=.non/\Q (.ref x) H2) E) :
  Yk X (call (.ref C) us) (EP X pq σ Q) X.xe s:=by
 have hq:=h (s⁻¹+1) s⁻¹ (I.hok.fresh (le_succ _)) (I.hok.fresh (le_refl _)) (ne_of_lt (lt_succ_self _));have I2:=Inv.made (C:=C) I;have r2:Zb (V.ref (s⁻¹+1)::(vs++dvs)) (Value.ref (s⁻¹+1)::(us++ds)):=.cons rfl (r.append hd);have hl:(Value.ref (s⁻¹+1)::us++ds).length=ps.length:=by
  have e:=r2.length;rw[F.len _ _ _ _ hq] at e;exact e.symm
 refine wpAny_call (ZQh (f:=f) I.kIn M.makes M.init (beq_iff_eq.mp M.fn) (codeAny_mono (F.run _ X.stack _ _ ⟨Value.ref (s⁻¹+1) :: us,[]⟩ (Value.ref (s⁻¹+1) :: (us ++ ds)) _ _ E (hr.make C us [])
  (I2.env0.make C us []) (hb _ (Value.ref (s⁻¹+1)::us) I2.kIn hl) r2 hq) λr s' hq'=>?_))
 cases r with
 |error e=>exact hx pq σ _ _ e s' I2 hq'
 |ok fl =>
  cases fl with
  |ret u =>
   obtain⟨v,H',I3,rv,ev,q3⟩:=I2.after hq';subst ev;exact⟨rv,⟨V.ref (s⁻¹+1),H',I3,rfl,q3⟩⟩
  |next=>exact False.elim hq'
  |brk=>exact False.elim hq'
  |cont=>exact False.elim hq'
theorem ZRW(M:Mk X.K C f)(F:FnOk X.prog X.w X.K X.mg X.base CX k f fd ps sp)(hr:Room (k+1) X.A)(hg:Gl X x)(hm:X.mg x=some (.ref C))(hb:ZDA X.K fd ps ds)(hd:Zb dvs ds)(hx:ZDs CX X E)
  (ha:PA X (e::es) t)(hdb:Yf x:=by decide)(he:Ya X e es:=by rfl)(hpl:Yb X pos es:=by rfl) :
  PE X (.Call (.Name x p) (e::es) [] pos) (tMake C sp dvs E t):=by
 intro pq s σ H Q I h;refine wpAny_Call_Name_kw (ZFg I hg hm ?_ hdb);refine callWith_K (h₀:=X.base) I.ok.mod.kin M.kp (thn (ha pos pq s σ H _ I h) λus s1 ⟨vs,H1,I1,r,q⟩=>⟨I1.kIn,?_⟩) he hpl;exact ZOk M F hr hb hd hx I1 r q
end
structure FnScope (N P:List Str) (sc:Scope):Prop where
 kind:sc.kind=.function
 co:sc.isCoroutine=false
 gen:sc.isGenerator=false
 nd:N.Nodup
 pre:N.take P.length=P
 par:∀x∈P,sc.names.lookup x=some .local\/sc.names.lookup x=some .cell
 nofree:∀y∈sc.names,y.2≠.free
theorem ZH9{kindOf:Str->Option NameKind}{x:Str}:∀{binds:List (Str×Value)} {m:Yj},(∀v,(x,v)∉binds)->bindL kindOf binds m x=m x
 |[],_,_=>rfl
 |(n,v)::r,m,h=>by
  unfold bindL;rw[ZH9 λw hw=>h w (Xo _ hw)]
  split
  .have:x≠n:=by rintro rfl;exact h v Xs
   simp[this]
  .rfl
theorem ZHU{kindOf:Str->Option NameKind}{x:Str}:∀{binds:List (Str×Value)} {m:Yj},(∀v,(x,v)∉binds)->bindC kindOf binds m x=m x
 |[],_,_=>rfl
 |(n,v)::r,m,h=>by
  unfold bindC;rw[ZHU λw hw=>h w (Xo _ hw)]
  split
  .rfl
  .have:x≠n:=by rintro rfl;exact h v Xs
   simp[this]
theorem ZHv{kindOf:Str->Option NameKind}{x:Str}{v:Value}:∀{P:List Str} {vs:List Value} {i:Nat} {m:Yj},P.Nodup->P[i]? = some x->vs[i]? = some v->kindOf x=some .local ->
  bindL kindOf (P.zip vs) m x=some v
 |[],_,_,_,_,h,_,_=>by simp at h
 |_::_,[],_,_,_,_,h,_=>by simp at h
 |p::P,w::vs,0,m,nd,h1,h2,hk=>by
  simp at h1 h2;subst h1;subst h2;show bindL kindOf ((p,w)::P.zip vs) m p=_;unfold bindL;rw[ZH9 λv hv=>(List.nodup_cons.mp nd).1 (of_mem_zip hv).1,Xp hk];simp
 |p::P,w::vs,i+1,m,nd,h1,h2,hk=>by
  show bindL kindOf ((p,w)::P.zip vs) m x=_;unfold bindL;exact ZHv (i:=i) (List.nodup_cons.mp nd).2 (by simpa using h1) (by simpa using h2) hk
theorem ZHr{kindOf:Str->Option NameKind}{x:Str}{v:Value}:∀{P:List Str} {vs:List Value} {i:Nat} {m:Yj},P.Nodup->P[i]? = some x->vs[i]? = some v->kindOf x≠some .local ->
  bindC kindOf (P.zip vs) m x=some v
 |[],_,_,_,_,h,_,_=>by simp at h
 |_::_,[],_,_,_,_,h,_=>by simp at h
 |p::P,w::vs,0,m,nd,h1,h2,hk=>by
  simp at h1 h2;subst h1;subst h2;show bindC kindOf ((p,w)::P.zip vs) m p=_;unfold bindC;rw[ZHU λv hv=>(List.nodup_cons.mp nd).1 (of_mem_zip hv).1,Xn hk];simp
 |p::P,w::vs,i+1,m,nd,h1,h2,hk=>by
  show bindC kindOf ((p,w)::P.zip vs) m x=_;unfold bindC;exact ZHr (i:=i) (List.nodup_cons.mp nd).2 (by simpa using h1) (by simpa using h2) hk
noncomputable def start(N:List Str)(vs:List V):St:=vs.map some++List.replicate (N.length-vs.length) none
noncomputable def ZFv(CX:CXT)(P:Program)(w:World)(K:Frag)(mg:Yj)(base:Heap)(N:List Str)(qual:Str)(scope:Scope)(f:Addr)(cd:Value)(A:Around)(outer:List Env)(s:Shared)(H:Hp)(E:XK):Cx where
 prog:=P
 w:=w
 K:=K
 mg:=mg
 base:=base
 A:=A.deeper (envOfC qual scope s⁻¹ f cd)
 N:=N
 s₀:=s
 H₀:=H
 env:=envOfC qual scope s⁻¹ f cd
 outer:=outer
 stack:=envOfC qual scope s⁻¹ f cd::outer
 ex:=[]
 calm:=true
 fn:=λ_=>true
 pn:=[]
 xe:=λe s'=>wpAny (model P w) (A.deeper (envOfC qual scope s⁻¹ f cd)) (leaving (envOfC qual scope s⁻¹ f cd) e) (λ_ s''=>CX outer H s E e s'') (λe' s''=>CX outer H s E e' s'') s'
theorem ZJq{sc:Scope}{n:Nat}(h:sc.names.lookup x=some .cell):∃c,(cellsFrom n sc.names []).lookup x=some c:=by
 have q:=cellsFrom_some sc.names n [] (.inl h);exact Option.isSome_iff_exists.mp q
variable{qual:Str}{scope:Scope}
theorem ZNY{f:Addr}{cd:Value}{s1:Shared}{E:XK}
  (S:FnScope N ps scope)(hd:A.handled=none)(e0:Env0 P w K mg base A outer s H)(hl:vs.length=ps.length)(r:Zb vs us)
  (x:InCallC s s⁻¹ (bindL (envOfC qual scope s⁻¹ f cd).kindOf (ps.zip us) λ_=>none) (cellsFrom (s⁻¹+1) scope.names []) (bindC (envOfC qual scope s⁻¹ f cd).kindOf (ps.zip us) λ_=>none) s1) :
  Inv (ZFv CX P w K mg base N qual scope f cd A outer s H E) [] (start N vs) H s1:=by
 have hpl:ps.length<=N.length:=by have:=congrArg List.length S.pre;rw[length_take] at this;omega
 obtain⟨h1,tk,rfl,hk⟩:=x.done;have noA:∀b:Addr,b∉(ZFv CX P w K mg base N qual scope f cd A outer s H E).ex:=λb z=>absurd (show b∈([]:List Addr) from z) (by simp)
 refine⟨⟨e0.mod,S.kind,rfl,rfl,le_refl _,λy z c h1 h2=>?_,λy hy=>?_,λy c _ h=>?_,λ_=>hd,Around.frames_deeper e0.frames,.inr ⟨rfl,rfl⟩,λb z=>absurd z (noA b),e0.bs,e0.bsz,λb _ _=>noA b,λb z=>absurd z (noA b),e0.funs,e0.frf⟩,
  rfl,e0.bare,Un.kept hk,⟨_,x.toInCall.ns,λi y v h1 h2 h3=>?_⟩,λy c h=>⟨_,x.cell y c h⟩,e0.hok.fresh (le_refl _),λy c h=>?_,λp hp=>absurd (show p∈([]:Yh) from hp) (by simp),e0.hok.kept hk,?_⟩
 .exact name_of_addr x.apart (PySem.mem_of_lookup h1) (PySem.mem_of_lookup h2)
 .have hy:scope.names.lookup y=some .cell\/scope.names.lookup y=some .free:=hy
  rcases hy with hy|hy
  .exact ZJq hy
  .exact absurd rfl (S.nofree _ (PySem.mem_of_lookup hy))
 .exact le_of_lt (x.above y c (PySem.mem_of_lookup h))
 .have hi:i<vs.length:=by
   unfold start at h2
   by_cases hi:i<vs.length
   .exact hi
   .rw[getElem?_append_right (by simpa using hi)] at h2
    rw[getElem?_replicate] at h2
    split at h2 <;> cases h2
  have ha:vs[i]? = some v:=by
   unfold start at h2;rw[getElem?_append_left (by simpa using hi),getElem?_map] at h2;cases e:vs[i]? with
   |none=>rw[e] at h2;cases h2
   |some a=>rw[e] at h2;cases h2;rfl
  obtain⟨u,hu,rv⟩:=r.get ha;have hp:ps[i]? = some y:=by
   rw[<-S.pre,List.getElem?_take_of_lt ⋯];exact h1
  have ndP:ps.Nodup:=by rw[<-S.pre];exact S.nd.sublist (List.take_sublist _ _)
  refine⟨u,rv,?_⟩;rcases S.par y (mem_of_getElem? hp) with k|k
  .exact .inl ⟨k,ZHv ndP hp hu k⟩
  .obtain⟨c,e⟩:=ZJq (n:=s⁻¹+1) k
   refine .inr ⟨.inl k,c,e,?_⟩;have q:=x.cell y c e;rw[ZHr ndP hp hu (by show scope.names.lookup y≠_;rw[k];decide)] at q;exact q
 .exact e0.hok.fresh (le_of_lt (x.above y c (PySem.mem_of_lookup h)))
 .unfold start
  show _=N.length;rw[Xa,Xm,length_replicate];omega
theorem fn_of{f:Addr}{name:Str}{params:Arguments}{dV kV doc pm cdv ct oc:Value}{an od:Option Addr}
  {osl:Array (Option Value)}{N ps:List Str}{sp:Sp}(lk:K.lookup f=some ⟨oc,od,.func (fnOf name qual params body scope dV kV doc pm an cdv ct),osl⟩)(hcd:codeIn K cdv qual=true)(S:FnScope N ps scope)
  (len:∀vs H Q E,sp vs H Q E->vs.length=ps.length)
  (hbody:∀ (A:Around) (outer:List Env) (s:Shared) (H:Hp) (vs:List V) (Q:VK) (E:XK),Room k (A.deeper (envOfC qual scope s⁻¹ f cdv))->sp vs H Q E ->
   ∃t,PSs (ZFv CX P w K mg base N qual scope f cdv A outer s H E) body t/\t { nx:=λ_ H'=>Q .non H',rt:=Q } (start N vs) H) :
  FnOk P w K mg base CX (k+1) f (fnOf name qual params body scope dV kV doc pm an cdv ct) ps sp:=by
 refine⟨len,λA outer s H args us vs Q E hr e0 hb r hsp=>?_⟩;have hl:=len _ _ _ _ hsp;have KX:K.In s.heap:=e0.mod.kin.keeps λb o e=>(e0.bs b o e).1
 have lim:s.heap.NoLimit:=e0.mod.nolimit.keeps λb o e=>(e0.bs b o e).1
 have hkind:∀y∈ps.zip us,scope.names.lookup y.1=some .local\/(scope.names.lookup y.1=some .cell/\((cellsFrom (s⁻¹+1) scope.names []).lookup y.1).isSome=true):=λ⟨n,v⟩ hy=>by
  rcases S.par n (of_mem_zip hy).1 with q|q
  .exact .inl q
  .exact .inr ⟨q,cellsFrom_some _ _ _ (.inl q)⟩
 refine codeAny_call_function hr.depth (KX _ _ lk) rfl S.co S.gen rfl (PySem.W.codeRec_of KX hcd) (hb _ _ _ _ ?_);refine wpAny_newFunctionEnv_cells S.kind hkind λenv he s1 x=>?_
 subst he;refine⟨lim.keeps x.toInCall.keep,codeAny_func ?_⟩;obtain⟨t,ht,hq⟩:=hbody A outer s H vs Q E (hr.deeper _) hsp;have I:Inv (ZFv CX P w K mg base N qual scope f cdv A outer s H E) [] (start N vs) H s1:=ZNY S hr.hd e0 hl r x;refine wpAny_mono (ht [] s1 (start N vs) H _ I hq) (λfl s' hs=>?_) λe s' hs=>hs
 have fin:∀{σ':St} {H':Hp} {v:V} {u:Value},Inv (ZFv CX P w K mg base N qual scope f cdv A outer s H E) [] σ' H' s'->Zq v u->Q v H'->CE outer P w H s Q u s' :=
  λ{σ' H' v u} J rv q=>⟨v,H',J.os,J.bare,J.base,J.hok,rv,q⟩
 cases fl with
 |ret u =>
  obtain⟨v,σ',H',J,rv,q⟩:=hs;exact fin J rv q
 |next =>
  obtain⟨σ',H',J,q⟩:=hs;exact fin (v:=V.non) (u:=Value.none) J rfl q
 |brk =>
  obtain⟨_,_,_,q⟩:=hs;exact False.elim q
 |cont =>
  obtain⟨_,_,_,q⟩:=hs;exact False.elim q
section
variable{X:Cx}{x:Str}{p pos:Pos}{e:Expr}{es:List Expr}{t:TA}{id T:String}{r:List V->Hp->VK->Prop}
def tCB(r:List V->Hp->VK->Prop)(t:TA):TE:=λσ H Q=>t σ H λvs H1=>r vs H1 Q
theorem ZPa(hc:Zi X (.builtin id) r)(hg:Gl X x)(hm:X.mg x=none)(hv:bootBuiltins x=some (.builtin id))(ha:PA X (e::es) t)(hn:x≠"__name__":=by decide)(hdb:Yf x:=by decide)
  (he:Ya X e es:=by rfl)(hpl:Yb X pos es:=by rfl):PE X (.Call (.Name x p) (e::es) [] pos) (tCB r t):=by
 intro pq s σ H Q I h;refine wpAny_Call_Name_kw (ZDr I hg hm hv ?_ hn hdb);exact PyProof.Rows.callWith_builtin1 (thn (ha pos pq s σ H _ I h) λus s1 ⟨vs,H1,I1,r1,q1⟩=>hc pq s1 σ H1 vs us Q I1 r1 q1) he hpl
theorem ZEd(hc:Zi X (.type T) r)(hg:Gl X x)(hm:X.mg x=none)(hv:bootBuiltins x=some (.type T))(ha:PA X (e::es) t)(hn:x≠"__name__":=by decide)(hdb:Yf x:=by decide)
  (he:Ya X e es:=by rfl)(hpl:Yb X pos es:=by rfl):PE X (.Call (.Name x p) (e::es) [] pos) (tCB r t):=by
 intro pq s σ H Q I h;refine wpAny_Call_Name_kw (ZDr I hg hm hv ?_ hn hdb);exact PyProof.Rows.callWith_type1 (thn (ha pos pq s σ H _ I h) λus s1 ⟨vs,H1,I1,r1,q1⟩=>hc pq s1 σ H1 vs us Q I1 r1 q1) he hpl
end
end _L
namespace HT
open PySem PyProof.Rows
noncomputable def lexLt:List Int->List Int->Bool
 |[],[]=>false
 |[],_::_=>true
 |_::_,[]=>false
 |x::xs,y::ys=>if x=y then lexLt xs ys else decide (x<y)
theorem ZPv(A:Around)(s:Shared)(a:Int)(t:Tok)(c:Int)(u:Tok):∃e,SeqAt.EqAt A s (.int a t) (.int c u) e/\(e=true ↔ a=c) :=
 ⟨(a == c),SeqAt.EqAt.int_int a t c u,by simp⟩
variable{t sl:Addr}{Q:Yi}{vl vu:Value}{lo hi:Option Int}
section
variable{prog:Program}{w:World}{A:Around}{E:Yi}{s:Shared}
theorem ZRM{b:Addr}{vs ws:List Value}(ht:IsTup s.heap t vs.toArray)(hb:IsTup s.heap b ws.toArray)(hv:vs≠[])
  (h1:ws=[]->Q (.ref t) s)(h2:ws≠[]->Q (.ref s⁻¹) { s with heap:=s.heap.push { cls:=.type "tuple",data:=.seq (vs++ws).toArray } })
  (hsz:vs.length+ws.length<=sizeLine):Yl prog w A (binaryOp .Add (.ref t) (.ref b)) Q E s:=by
 obtain⟨⟨cls,dd,data,sl⟩,ho,hc,n,hd⟩:=id ht;obtain⟨⟨cls2,dd2,data2,sl2⟩,ho2,hc2,n2,hd2⟩:=id hb;simp only at hc hd hc2 hd2;subst hc hd hc2 hd2;have e:vs.toArray++ws.toArray=(vs++ws).toArray:=by simp
 by_cases hw:ws=[]
 .exact concat_meets ⟨_,ho,rfl⟩ ⟨_,ho2,rfl⟩ noFill_tuple_add seq_tuple_add PySem.F.slot_tuple_add PySem.F.entry_tuple_add (PySem.F.args_tuple_add_2 _ _)
   (tuple_addW1 t b vs.toArray ws.toArray n n2 dd dd2 sl sl2 (by simpa using hv) (by simp[hw])) ⟨ho,ho2,h1 hw⟩
 .refine concat_meets ⟨_,ho,rfl⟩ ⟨_,ho2,rfl⟩ noFill_tuple_add seq_tuple_add PySem.F.slot_tuple_add PySem.F.entry_tuple_add (PySem.F.args_tuple_add_2 _ _)
   (tuple_addW2 t b vs.toArray ws.toArray n n2 dd dd2 sl sl2 (by simpa using hv) (by simpa using hw) (by rw[size_toArray,size_toArray];exact hsz)) ⟨ho,ho2,?_⟩
  rw[e];exact h2 hw
noncomputable def sIx(n d:Nat):Option Int->Nat
 |none=>d
 |some v=>if v<0 then (v+(n:Int)).toNat else min v.toNat n
theorem sIx_none(n d:Nat):sIx n d none=d:=rfl
theorem sIx_nat(n d k:Nat):sIx n d (some (k:Int))=min k n:=by
 show(if (k:Int)<0 then ((k:Int)+(n:Int)).toNat else min (k:Int).toNat n)=min k n;rw[Xn ⋯,toNat_natCast]
theorem ZUP(n d:Nat)(hd:d<=n)(o:Option Int):sIx n d o<=n:=by
 cases o with
 |none=>exact hd
 |some v =>
  show(if v<0 then (v+(n:Int)).toNat else min v.toNat n)<=n
  by_cases hv:v<0
  .rw[Xp hv];omega
  .rw[Xn hv];exact Nat.min_le_right _ _
theorem ZM3(v:Int)(n d:Nat):(if v<0 then max (v+(n:Int)) 0 else min v (n:Int))=((sIx n d (some v):Nat):Int):=by
 show(if v<0 then max (v+(n:Int)) 0 else min v (n:Int))=(((if v<0 then (v+(n:Int)).toNat else min v.toNat n):Nat):Int)
 by_cases hv:v<0
 .simp only[Xp hv];omega
 .simp only[Xn hv];omega
theorem ZLY(lo hi:Option Int)(n:Nat):Builtin.Slice.sliceAdjust lo hi 1 (n:Int)=(((sIx n 0 lo:Nat):Int),((sIx n n hi:Nat):Int)):=by
 have h1 : ¬((1:Int)<0):=⋯
 unfold Builtin.Slice.sliceAdjust;simp only[h1,if_false];refine Prod.ext ?_ ?_
 .cases lo with
  |none=>rfl
  |some v=>exact ZM3 v n 0
 .cases hi with
  |none=>rfl
  |some v=>exact ZM3 v n n
theorem ZLh(i j:Nat):Builtin.Slice.slicePlaces (i:Int) (j:Int) 1=j-i:=by
 unfold Builtin.Slice.slicePlaces;have h1:(1:Int) > 0:=⋯
 simp only[h1,if_true,Int.ediv_one]
 split <;> omega
theorem ZGl{v:Value}{o:Option Int}{Q:Option Int->Shared->Prop}(p:IsPart v o)(h:Q o s):Yl prog w A (Builtin.Slice.slicePartIndex v) Q E s:=by
 cases p with
 |none=>exact slicePart_none h
 |int i t=>exact slicePart_int h
theorem ZCA{n:Nat}{Q:Int×Int×Nat->Shared->Prop}(hs:s.heap.IsSliceOf sl vl vu .none)(pl:IsPart vl lo)(pu:IsPart vu hi)
  (h:Q (((sIx n 0 lo:Nat):Int),1,sIx n n hi-sIx n 0 lo) s):Yl prog w A (Builtin.Slice.sliceApplied (.ref sl) (pure (n:Int))) Q E s:=by
 obtain⟨os,hos,hcs,hds⟩:=id hs;unfold Builtin.Slice.sliceApplied Builtin.Slice.sliceFields;refine Xb (Xb (wpAny_field hos hds (x:=vl) rfl (Xb (wpAny_field hos hds (x:=vu) rfl (Xb (wpAny_field hos hds (x:=.none) rfl (Xu ?_)))))));refine Xb (slicePart_none ?_);show wpAny _ _ (if ((1:Int) == 0)=true then _ else _) _ _ s;rw[Xn (by decide)];refine Xb (ZGl pl (Xb (ZGl pu (Xb (Xu ?_)))));show wpAny _ _ (match Builtin.Slice.sliceAdjust lo hi 1 (n:Int) with|(lo,hi)=>pure (lo,(1:Int),Builtin.Slice.slicePlaces lo hi 1)) _ _ s;rw[ZLY lo hi n];show wpAny _ _ (pure (((sIx n 0 lo:Nat):Int),(1:Int),Builtin.Slice.slicePlaces ((sIx n 0 lo:Nat):Int) ((sIx n n hi:Nat):Int) 1)) _ _ s;rw[ZLh];exact Xu h
theorem ZRA(xs:Array Value)(i k:Nat):((List.range k).filterMap λ(m:Nat)=>xs[((i:Int)+(m:Int)*1).toNat]?).toArray=((xs.toList.drop i).take k).toArray:=by
 have e:(λ(m:Nat)=>xs[((i:Int)+(m:Int)*1).toNat]?) = λm=>xs[i+m]?:=by
  funext m
  have:((i:Int)+(m:Int)*1).toNat=i+m:=⋯
  rw[this]
 rw[e];have:=pick_run xs i k;rw[List.filterMap_map] at this
 have e2:((λx=>xs[x]?) ∘ λx=>i+x) = λm=>xs[i+m]?:=rfl
 rw[e2] at this
 rw[this]
theorem getItem_tuple_cut{items:Array Value}(ht:IsTup s.heap t items)(hs:s.heap.IsSliceOf sl vl vu .none)(pl:IsPart vl lo)(pu:IsPart vu hi)
  (hw : ¬(sIx items.size 0 lo=0/\sIx items.size items.size hi=items.size))
  (h:Q (.ref s⁻¹) { s with heap:=s.heap.push { cls:=.type "tuple",data:=.seq ((items.toList.drop (sIx items.size 0 lo)).take (sIx items.size items.size hi-sIx items.size 0 lo)).toArray } })
  (hsz:items.size<=sizeLine):Yl prog w A (getItem (.ref t) (.ref sl)) Q E s:=by
 have htake:sizeOk (.seq ((items.toList.drop (sIx items.size 0 lo)).take (sIx items.size items.size hi-sIx items.size 0 lo)).toArray):=by
  show((items.toList.drop (sIx items.size 0 lo)).take (sIx items.size items.size hi-sIx items.size 0 lo)).toArray.size<=sizeLine;rw[size_toArray,length_take,length_drop,Array.length_toList];omega
 have hj:sIx items.size items.size hi<=items.size:=ZUP _ _ (le_refl _) hi;obtain⟨os,hos,hcs,hds⟩:=id hs;have hTs:s.TypeIs (.ref sl) "slice":=⟨os,hos,hcs⟩;unfold getItem
 try with_reducible refine wpAny_holding ?_
 first|refine Xb (Xu ?_)|skip
 refine Xb (wpAny_sequenceKey ht.typeIs (by decide) ?_);refine Xb (wpAny_callSpecial?_slot (name:=Str.ofString "__getitem__") ht.typeIs PyProof.Rows.slot_tuple_getitem
  (wpAny_call_entry PyProof.Rows.slot_tuple_getitem ht.typeIs entry_tuple_getitem ?_ (args_tuple_getitem _ _)))
 show wpAny _ _ (Builtin.Tuple.tupleItemsOf (.ref t) >>= _) _ _ s;refine Xb (tupleItemsOf_ ht ?_);refine Xb (wpAny_typeOf hTs ?_);rw[Xp (by decide)];refine Xb (ZCA hs pl pu ?_);have hno : ¬((((sIx items.size 0 lo:Nat):Int) == 0 && (1:Int) == 1 && (sIx items.size items.size hi-sIx items.size 0 lo) == items.size)=true):=by
  intro q;rw[Bool.and_eq_true,Bool.and_eq_true] at q;have q1:((sIx items.size 0 lo:Nat):Int)=0:=eq_of_beq q.1.1;have q2:sIx items.size items.size hi-sIx items.size 0 lo=items.size:=eq_of_beq q.2;exact hw ⟨⋯,⋯⟩
 show wpAny _ _ (if (((sIx items.size 0 lo:Nat):Int) == 0 && (1:Int) == 1 && (sIx items.size items.size hi-sIx items.size 0 lo) == items.size)=true then _ else _) _ _ s;rw[Xn hno,ZRA]
 first
  |exact Xb (m:=Builtin.Tuple.tupleExact _) (wpAny_newObj_type (Xu ⟨_,rfl,Xu h⟩) htake)
  |exact Xb (m:=Builtin.Tuple.tupleExact _) (wpAny_newObj_type (Xb (Xu (Xu ⟨_,rfl,Xu h⟩))) htake)
  |exact Xb (Xb (m:=Builtin.Tuple.tupleExact _) (wpAny_newObj_type (Xu (Xu ⟨_,rfl,Xu h⟩)) htake))
  |exact Xb (Xb (m:=Builtin.Tuple.tupleExact _) (wpAny_newObj_type (Xu ⟨_,rfl,Xu h⟩) htake))
end
end HT
namespace _L
open PySem PySem.Spec PyProof.Rows
abbrev TO:=St->Hp->(Option Int->Hp->Prop)->Prop
def PO(X:Cx)(e:Option Expr)(t:TO):Prop :=
 ∀(pq:Yh) (s:Shared) (σ : St) (H:Hp) (Q:Option Int->Hp->Prop),Inv X pq σ H s->t σ H Q ->
  Yk X (evalPart e X.env) (λu s'=>∃o H',Inv X pq σ H' s'/\IsPart u o/\Q o H') X.xe s
def ZSB:TO:=λ_ H Q=>Q none H
def tPart(t:TE):TO:=λσ H Q=>t σ H λx H1=>∃i,x=.int i/\Q (some i) H1
theorem ZDw{ns:List Int}:∀{us:List Value},Zb (ns.map V.int) us->IntsAre us ns:=by
 induction ns with
 |nil=>intro us r;rw[map_nil] at r;cases r;exact .nil
 |cons n ns ih =>
  intro us r;rw[map_cons] at r;cases r with
  |cons r1 r2 =>
   obtain⟨t,e⟩:=r1;subst e;exact .cons n t (ih r2)
section
variable{X:Cx}{e:Expr}{te:TE}{lo hi:Option Expr}{tl th:TO}{pos p2:Pos}
theorem ZSi:PO X none ZSB:=by
 intro pq s σ H Q I h;rw[evalPart_none];exact Xu ⟨none,H,I,.none,h⟩
theorem ZTI(h:PE X e te):PO X (some e) (tPart te):=by
 intro pq s σ H Q I hw;rw[evalPart_some];refine thn (h pq s σ H _ I hw) λu s1 ⟨x,H1,I1,r1,q1⟩=>?_
 obtain⟨i,rfl,q⟩:=q1;obtain⟨t,rfl⟩:=r1;exact⟨some i,H1,I1,.int i t,q⟩
def SlR(X:Cx)(r:V->Option Int->Option Int->Hp->VK->Prop):Prop :=
 ∀(pq:Yh) (s:Shared) (σ : St) (H:Hp) (x:V) (v vl vu:Value) (lo hi:Option Int) (sl:Addr) (Q:VK),Inv X pq σ H s->Zq x v->s.heap.IsSliceOf sl vl vu .none->IsPart vl lo->IsPart vu hi->r x lo hi H Q ->
  ∃T id,typeLookup (.type T) "__getitem__" = pure (some (.builtin id))/\s.TypeIs v T/\Yk X (getItem v (.ref sl)) (EP X pq σ Q) X.xe s
def tSl(r:V->Option Int->Option Int->Hp->VK->Prop)(te:TE)(tl th:TO):TE:=λσ H Q=>te σ H λx H1=>tl σ H1 λl H2=>th σ H2 λu H3=>r x l u H3 Q
theorem ZQU{r:V->Option Int->Option Int->Hp->VK->Prop}(hr:SlR X r)(he:PE X e te)(hl:PO X lo tl)(hu:PO X hi th):PE X (.Subscript e (.Slice lo hi none p2) pos) (tSl r te tl th):=by
 intro pq s σ H Q I h;refine Subscript_ (thn (he pq s σ H _ I h) λv s1 ⟨x,H1,I1,r1,q1⟩=>?_);refine wpAny_Slice (thn (hl pq s1 σ H1 _ I1 q1) λvl s2 ⟨l,H2,I2,pl,q2⟩=>thn (hu pq s2 σ H2 _ I2 q2) λvu s3 ⟨u,H3,I3,pu,q3⟩=>?_);rw[evalPart_none];refine Xu ?_;have I4:Inv X pq σ H3 { s3 with heap:=s3.heap.push { cls:=.type "slice",data:=.fields #[vl,vu,.none] } }:=I3.kept (t':=s3.toks) λb ob q=>get?_push_of_some _ q
 obtain⟨T,id,hT,ht,hg⟩:=hr pq { s3 with heap:=s3.heap.push { cls:=.type "slice",data:=.fields #[vl,vu,.none] } } σ H3 x v vl vu l u s3⁻¹ Q I4 r1 (Heap.IsSliceOf.new ..) pl pu q3;show Yk X (subscriptTail e (.Slice lo hi none p2) v (.ref s3⁻¹)) (EP X pq σ Q) X.xe { s3 with heap:=s3.heap.push { cls:=.type "slice",data:=.fields #[vl,vu,.none] } };exact tail_any (ops:=[.ref s3⁻¹,v]) ht hT hg (by with_unfolding_all rfl)
def ZIV(xs:List V)(lo hi:Option Int):List V:=(xs.drop (HT.sIx xs.length 0 lo)).take (HT.sIx xs.length xs.length hi-HT.sIx xs.length 0 lo)
theorem ZFF(xs:List V)(lo hi:Option Int):(ZIV xs lo hi).length<=xs.length:=by
 unfold ZIV;rw[length_take,length_drop];omega
def rSlT(K:Frag):V->Option Int->Option Int->Hp->VK->Prop:=λx lo hi H Q=>∃a xs,x=.ref a/\SqT K H a xs /\
 ¬(HT.sIx xs.length 0 lo=0/\HT.sIx xs.length xs.length hi=xs.length)/\∀p,H p=none->Q (.ref p) (upd H p (.tup (ZIV xs lo hi)))
theorem ZVR:SlR X (rSlT X.K):=by
 intro pq s σ H x v vl vu lo hi sl Q I rx hs pl pu h;obtain⟨a,xs,rfl,hx,hw,q⟩:=h;cases rx;obtain⟨its,r,ht,hz⟩:=I.tuple hx;have hlen:its.toArray.size=xs.length:=by rw[size_toArray];exact r.length.symm
 refine⟨"tuple",_,PyProof.Rows.slot_tuple_getitem.lookup,ht.typeIs,?_⟩;refine HT.getItem_tuple_cut ht hs pl pu (by rw[hlen];exact hw) ?_ (by rw[hlen];exact hz);rw[hlen];refine⟨.ref s⁻¹,_,I.laid (t':=s.toks) (o:=.tup (ZIV xs lo hi)) (λb ob q=>get?_push_of_some _ q) (le_refl _) ?_,rfl,q _ (I.hok.fresh (le_refl _))⟩;exact⟨le_trans (ZFF xs lo hi) hz,_,(r.drop (HT.sIx xs.length 0 lo)).take (HT.sIx xs.length xs.length hi-HT.sIx xs.length 0 lo),IsTup.new _ _⟩
theorem Zb.nil_iff{xs:List V}{us:List Value}(r:Zb xs us):us=[] ↔ xs=[]:=by
 cases r with
 |nil=>simp
 |cons _ _=>simp
end
noncomputable def ixN(n:Nat)(i:Int):Option Nat:=if 0<=i then (if i<n then some i.toNat else none) else if -(n:Int)<=i then some (i+n).toNat else none
def atI{α:Type}(xs:List α)(i:Int):Option α:=(ixN xs.length i).bind λj=>xs[j]?
variable{i:Int}{j:Nat}
theorem ZMq{n:Nat}(h:ixN n i=some j):seqIndex? i n=some j/\j<n/\-(n:Int)<=i/\i<n:=by
 unfold ixN at h
 by_cases h0 : 0<=i
 .rw[Xp h0] at h
  by_cases h1:i<n
  .rw[Xp h1] at h
   have e:i.toNat=j:=Option.some.inj h;exact⟨by rw[seqIndex_of h0 h1,e],⋯,⋯,h1⟩
  .rw[Xn h1] at h;cases h
 .rw[Xn h0] at h
  by_cases h1 : -(n:Int)<=i
  .rw[Xp h1] at h
   have e:(i+n).toNat=j:=Option.some.inj h;exact⟨by rw[seqIndex_neg ⋯ h1,e],⋯,h1,⋯⟩
  .rw[Xn h1] at h;cases h
variable{α:Type}
theorem ZMZ{xs:List α}{v:α}(h:atI xs i=some v):∃j,seqIndex? i xs.length=some j/\xs[j]? = some v/\j<xs.length/\-(xs.length:Int)<=i/\i<xs.length:=by
 unfold atI at h;cases e:ixN xs.length i with
 |none=>rw[e] at h;cases h
 |some j =>
  rw[e] at h;obtain⟨h1,h2,h3,h4⟩:=ZMq e;exact⟨j,h1,h,h2,h3,h4⟩
theorem ZFs{xs:List α}{v:α}(h:xs[j]? = some v):atI xs (j:Int)=some v:=by
 have hj:j<xs.length:=(List.getElem?_eq_some_iff.mp h).1;have e:ixN xs.length (j:Int)=some j:=by
  unfold ixN;rw[Xp ⋯,Xp ⋯];simp
 unfold atI;rw[e];exact h
def ZMk(b:Expr):Prop:=∀o i,subscripted b false o i=operate [o,i] (getItem o i)
def IxR(X:Cx)(r:R2):Prop :=
 ∀(value slice:Expr) (pq:Yh) (s:Shared) (σ : St) (H:Hp) (x y:V) (v u:Value) (Q:VK),Inv X pq σ H s->Zq x v->Zq y u->r x y H Q ->
  subscripted slice false v u=operate [v,u] (getItem v u)->Yk X (subscriptTail value slice v u) (EP X pq σ Q) X.xe s
def MtR(X:Cx)(id:String)(r:V->List V->Hp->VK->Prop):Prop :=
 ∀(pq:Yh) (s:Shared) (σ : St) (H:Hp) (x:V) (xs:List V) (v:Value) (us:List Value) (Q:VK),Inv X pq σ H s->Zq x v->Zb xs us->r x xs H Q ->
  Yk X (call (.builtin id) (v::us)) (EP X pq σ Q) X.xe s
variable{pq:Yh}{σ:St}{H:Hp}{s:Shared}{its':List Value}
section
variable{X:Cx}{a b:Expr}{ta tb:TE}{pos:Pos}
theorem pe_ix{r:R2}(hr:IxR X r)(ha:PE X a ta)(hb:PE X b tb)(hs:ZMk b):PE X (.Subscript a b pos) (tOp r ta tb):=by
 intro pq s σ H Q I h;exact Subscript_ (ZUK ha hb I h λv u s2 x y H2 I2 rx ry q=>hr a b pq s2 σ H2 x y v u Q I2 rx ry q (hs _ _))
def rIxL(K:Frag):R2:=λx y H Q=>∃p xs i v,x=.ref p/\y=.int i/\SqL K H p xs/\atI xs i=some v/\Q v H
def rIxT(K:Frag):R2:=λx y H Q=>∃p xs i v,x=.ref p/\y=.int i/\SqT K H p xs/\atI xs i=some v/\Q v H
theorem ZFe:IxR X (rIxL X.K):=by
 intro value slice pq s σ H x y v u Q I rx ry h hs;obtain⟨p,xs,i,z,rfl,rfl,hq,he,q⟩:=h;cases rx;obtain⟨t,rfl⟩:=ry;obtain⟨its,r,pl,hz⟩:=I.list hq;obtain⟨j,h1,h2,h3,h4,h5⟩:=ZMZ he;obtain⟨w,ew,rw'⟩:=r.get h2;have hl:=r.length;have hn:=ZJG;have fin:EP X pq σ Q w s:=⟨z,H,I,rw',q⟩
 by_cases h0 : 0<=i
 .have hj:i.toNat=j:=by
   rw[seqIndex_of h0 h5] at h1;exact Option.some.inj h1
  exact item_listR pl.isList h0 ⋯ (by rw[hj];simpa using ew) fin hs
 .have hj:(i+(its.toArray.size:Int)).toNat=j:=by
   rw[seqIndex_neg ⋯ h4] at h1;rw[size_toArray,<-hl];exact Option.some.inj h1
  exact subscriptTail_builtinR (x:=w) pl.isList.typeIs slot_list_getitem.lookup
   (wpAny_getItem_list_neg (Q:=λr s'=>r=w/\EP X pq σ Q r s') pl.isList ⋯ (by rw[size_toArray] <;> omega) ⋯ (by rw[hj];simpa using ew) ⟨rfl,fin⟩) hs
theorem ZQR:IxR X (rIxT X.K):=by
 intro value slice pq s σ H x y v u Q I rx ry h hs;obtain⟨p,xs,i,z,rfl,rfl,hq,he,q⟩:=h;cases rx;obtain⟨t,rfl⟩:=ry;obtain⟨its,r,pl,hz⟩:=I.tuple hq;obtain⟨j,h1,h2,h3,h4,h5⟩:=ZMZ he;obtain⟨w,ew,rw'⟩:=r.get h2;have hl:=r.length;have hn:=ZJG;have fin:EP X pq σ Q w s:=⟨z,H,I,rw',q⟩;exact subscriptTail_builtinR (x:=w) pl.typeIs slot_tuple_getitem.lookup
  (getItem_tuple (j:=j) (Q:=λr s'=>r=w/\EP X pq σ Q r s') pl ⋯ ⋯ (by rw[size_toArray,<-hl];exact h1) (by simpa using ew) ⟨rfl,fin⟩) hs
theorem ZLW(its:List Value)(n j:Nat)(u:Value):Obj.mapSeq (·.setIfInBounds j u) { cls:=.type "list",data:=.seq its.toArray n }={ cls:=.type "list",data:=.seq (its.set j u).toArray n }:=by
 simp[Obj.mapSeq]
theorem Inv.lst{pq:Yh}{σ:St}{H:Hp}{s:Shared}{p:Addr}{xs:List V}(I:Inv X pq σ H s)(h:H p=some (.lst xs)) :
  ∃(its:List Value) (n:Nat),Zb xs its/\s.heap.get? p=some { cls:=.type "list",data:=.seq its.toArray n }/\xs.length<=sizeLine:=by
 obtain⟨z,its,n,r,e⟩:=I.hok p _ h;exact⟨its,n,r,e,z⟩
theorem Inv.lstUpd{p:Addr}{xs ys:List V}{its:List Value}{n n':Nat}{f:Obj->Obj}(I:Inv X pq σ H s)(h:H p=some (.lst xs))
  (ho:s.heap.get? p=some { cls:=.type "list",data:=.seq its.toArray n })(hf:f { cls:=.type "list",data:=.seq its.toArray n }={ cls:=.type "list",data:=.seq its'.toArray n' })(r:Zb ys its')(hz:ys.length<=sizeLine)(t:Nat) :
  Inv X pq σ (upd H p (.lst ys)) { s with heap:=s.heap.update p f,toks:=t }:=by
 have e:(s.heap.update p f).get? p=some { cls:=.type "list",data:=.seq its'.toArray n' }:=by
  rw[get?_update_self f ho (by rw[hf] <;> rfl),hf]
 refine I.write (x:=p) (e:=p) (by rw[h];trivial) (.inl rfl) (λb u hb q=>(Heap.get?_update_other _ _ (Ne.symm hb)).trans q) ⟨_,e⟩ ?_;exact⟨hz,its',n',r,e⟩
def rSetL:V->V->V->Hp->(Hp->Prop)->Prop:=λo i v H Q=>∃p xs k j,o=.ref p/\i=.int k/\H p=some (.lst xs)/\ixN xs.length k=some j/\Q (upd H p (.lst (xs.set j v)))
theorem ZQN:ZV5 X rSetL:=by
 intro pq s σ H o i v ov iv u Q I ro ri rv h;obtain⟨p,xs,k,j,rfl,rfl,hp,hj,q⟩:=h;cases ro;obtain⟨t,rfl⟩:=ri;obtain⟨its,n,r,ho,hz⟩:=I.lst hp;obtain⟨h1,h2,h3,h4⟩:=ZMq hj;have hl:=r.length;have hn:=ZJG;have I':Inv X pq σ (upd H p (.lst (xs.set j v))) { s with heap:=s.heap.update p (Obj.mapSeq (·.setIfInBounds j u)) } :=
  I.lstUpd hp ho (ZLW its n j u) (r.set rv j) (by rw[length_set];exact hz) s.toks
 by_cases h0 : 0<=k
 .have hk:k.toNat=j:=by
   rw[seqIndex_of h0 h4] at h1;exact Option.some.inj h1
  exact PySem.W.ki_setAt ho h0 ⋯ (by rw[size_toArray,<-hl];exact h4) (by rw[hk];exact⟨_,I',q⟩)
 .have hk:(k+(its.toArray.size:Int)).toNat=j:=by
   rw[seqIndex_neg ⋯ h3] at h1;rw[size_toArray,<-hl];exact Option.some.inj h1
  exact PySem.W.ki_setBack ho ⋯ (by rw[size_toArray,<-hl];exact h3) ⋯ (by rw[hk];exact⟨_,I',q⟩)
theorem ZIS(lo hi:Option Int)(n:Nat):(sliceBounds lo hi none n).1=((HT.sIx n 0 lo:Nat):Int)/\(sliceBounds lo hi none n).2.1=((HT.sIx n n hi:Nat):Int)/\(sliceBounds lo hi none n).2.2=1:=by
 refine⟨?_,?_,rfl⟩
 .cases lo with
  |none=>simp[sliceBounds,HT.sIx]
  |some i =>
   simp only[sliceBounds,HT.sIx,Option.getD_none,show(1:Int) > 0 by decide,if_true]
   by_cases h:i<0
   .simp only[h,if_true] <;> omega
   .simp only[h,if_false] <;> omega
 .cases hi with
  |none=>simp[sliceBounds,HT.sIx]
  |some i =>
   simp only[sliceBounds,HT.sIx,Option.getD_none,show(1:Int) > 0 by decide,if_true]
   by_cases h:i<0
   .simp only[h,if_true] <;> omega
   .simp only[h,if_false] <;> omega
theorem ZHB(its:List Value)(lo hi:Option Int):slicePick its.toArray lo hi none=((its.drop (HT.sIx its.length 0 lo)).take (HT.sIx its.length its.length hi-HT.sIx its.length 0 lo)).toArray:=by
 obtain⟨h1,h2,h3⟩:=ZIS lo hi its.toArray.size;unfold slicePick;rw[h1,h2,h3];simp only[sliceRange_one,pick_run,size_toArray] <;> rfl
def rSlL(K:Frag):V->Option Int->Option Int->Hp->VK->Prop:=λx lo hi H Q=>∃a xs,x=.ref a/\SqL K H a xs/\∀p,H p=none->Q (.ref p) (upd H p (.lst (ZIV xs lo hi)))
theorem ZMi:SlR X (rSlL X.K):=by
 intro pq s σ H x v vl vu lo hi sl Q I rx hs pl pu h;obtain⟨a,xs,rfl,hx,q⟩:=h;cases rx;obtain⟨its,r,ht,hz⟩:=I.list hx;have hlen:=r.length;refine⟨"list",_,slot_list_getitem.lookup,ht.isList.typeIs,?_⟩;refine wpAny_getItem_list_slice ht.isList hs pl pu .none (by simp) ?_ (by rw[size_toArray] <;> omega);rw[ZHB,<-hlen];refine⟨.ref s⁻¹,_,I.laid (t':=s.toks) (o:=.lst (ZIV xs lo hi)) (λb ob q=>get?_push_of_some _ q) (le_refl _) ?_,rfl,q _ (I.hok.fresh (le_refl _))⟩;exact⟨le_trans (ZFF xs lo hi) hz,_,0,(r.drop (HT.sIx xs.length 0 lo)).take (HT.sIx xs.length xs.length hi-HT.sIx xs.length 0 lo),get?_push_size _ rfl⟩
noncomputable def eqV:V->V->Bool
 |.non,.non=>true
 |.bl a,.bl b=>a == b
 |.bl a,.int b=>(if a then 1 else 0) == b
 |.int a,.bl b=>a == (if b then 1 else 0)
 |.int a,.int b=>a == b
 |.str a,.str b=>a == b
 |_,_=>false
def inV(x:V)(xs:List V):Bool:=xs.any λy=>eqV y x
theorem ZIE:Zi X (.builtin "len") (λxs H Q=>∃p ys,xs=[.ref p]/\(SqL X.K H p ys\/SqT X.K H p ys)/\Q (.int ys.length) H):=by
 intro pq s σ H xs us Q I r h;obtain⟨p,ys,rfl,hq,q⟩:=h;obtain⟨u,rfl,rx⟩:=ZBt r;cases rx;have hn:=ZJG;rcases hq with hq|hq
 .obtain⟨its,r',pl,hz⟩:=I.list hq
  have hlen:=r'.length;exact Calls.call_len_list pl.isList (by simp only[size_toArray] <;> omega) ⟨.int ys.length,H,I.tok _,⟨s.toks+1,by rw[size_toArray,hlen]⟩,q⟩
 .obtain⟨its,r',pl,hz⟩:=I.tuple hq
  have hlen:=r'.length;exact len_tuple pl (by simp only[size_toArray] <;> omega) ⟨.int ys.length,H,I.tok _,⟨s.toks+1,by rw[size_toArray,hlen]⟩,q⟩
theorem Zi.or{f:Value}{r r':List V->Hp->VK->Prop}(h:Zi X f r)(h':Zi X f r'):Zi X f (λxs H Q=>r xs H Q\/r' xs H Q):=by
 intro pq s σ H xs us Q I rs q;rcases q with q|q
 .exact h pq s σ H xs us Q I rs q
 .exact h' pq s σ H xs us Q I rs q
theorem ZHC:Zi X (.type "tuple") (λxs H Q=>∃p ys,xs=[.ref p]/\((SqL X.K H p ys/\∀l,H l=none->Q (.ref l) (upd H l (.tup ys)))\/(SqT X.K H p ys/\Q (.ref p) H))):=by
 intro pq s σ H xs us Q I r h;obtain⟨p,ys,rfl,h⟩:=h;obtain⟨u,rfl,rx⟩:=ZBt r;cases rx;rcases h with ⟨hq,q⟩|⟨hq,q⟩
 .obtain⟨its,r',pl,hz⟩:=I.list hq
  have hlen:=r'.length;refine call_tuple_list pl.isList (λh' kp=>?_) (by simp only[size_toArray] <;> omega);have I1:Inv X pq σ H { s with heap:=h' }:=I.kept (t':=s.toks) kp;have I2:Inv X pq σ (upd H h'.objs.size (.tup ys)) { s with heap:=h'.push { cls:=.type "tuple",data:=.seq its.toArray } } :=
   I1.laid (t':=s.toks) (λb o e=>get?_push_of_some _ e) (le_refl _) (show ZBI X.prog X.w _ _ _ (.tup ys) from ⟨hz,its,r',IsTup.new _ _⟩)
  exact⟨.ref h'.objs.size,_,I2,rfl,q _ (I1.hok.fresh (le_refl _))⟩
 .obtain⟨its,r',pl,hz⟩:=I.tuple hq
  exact call_tuple_same pl ⟨.ref p,H,I,rfl,q⟩
def tyV(K:Frag)(T:String)(x:V)(H:Hp):Prop:=match x with
 |.str _=>T = "str"
 |.int _=>T = "int"
 |.ref p=>(T = "list"/\∃xs,SqL K H p xs)\/(T = "tuple"/\∃o,K.lookup p=some o/\o.cls=.type "tuple"/\o.dict=none) \/
   (T = "dict"/\((∃kvs,H p=some (.dK kvs))\/∃kvs,H p=some (.dT kvs)))\/(T = "set"/\∃S n,H p=some (.set S n))
 |_=>False
theorem ZUd{T:String}{x:V}{v:Value}(I:Inv X pq σ H s)(r:Zq x v)(ty:tyV X.K T x H) :
  s.TypeIs v T/\∀a,v=.ref a->∃ob,s.heap.get? a=some ob/\ob.dict=none:=by
 cases x with
 |str z =>
  obtain⟨t,rfl⟩:=r;cases (show T = "str" from ty);exact⟨typeIs_str s z t,λ_ e=>nomatch e⟩
 |int i =>
  obtain⟨t,rfl⟩:=r;cases (show T = "int" from ty);exact⟨typeIs_int s i t,λ_ e=>nomatch e⟩
 |ref p =>
  cases r;rcases ty with ⟨rfl,xs,hq⟩|⟨rfl,o,hk,hc,hd⟩|⟨rfl,hk⟩|⟨rfl,S,n,hk⟩
  .obtain⟨its,_,pl,_⟩:=I.list hq
   refine⟨pl.isList.typeIs,λa e=>?_⟩;cases e;obtain⟨o,n,e,c,hd,_⟩:=pl;exact⟨o,e,hd⟩
  .refine⟨⟨o,I.kIn p o hk,hc⟩,λa e=>?_⟩
   cases e;exact⟨o,I.kIn _ o hk,hd⟩
  .have z:∃o,s.heap.get? p=some o/\o.ExactDict:=by
    rcases hk with ⟨kvs,hk⟩|⟨kvs,hk⟩
    .obtain⟨_,_,_,_,o,_,_,e,ex,_⟩:=I.hok p _ hk
     exact⟨o,e,ex⟩
    .obtain⟨_,_,_,_,o,_,_,e,ex,_⟩:=I.hok p _ hk
     exact⟨o,e,ex⟩
   obtain⟨o,e,ex⟩:=z;refine⟨⟨o,e,ex.1⟩,λa e2=>?_⟩;cases e2;exact⟨o,e,ex.2.1⟩
  .obtain⟨o,_,_,_,e,ex,_⟩:=I.hok p _ hk
   refine⟨⟨o,e,ex.1⟩,λa e2=>?_⟩;cases e2;exact⟨o,e,ex.2.1⟩
 |_=>exact False.elim ty
def tBM(K:Frag)(T:String)(r:V->List V->Hp->VK->Prop)(to:TE)(t:TA):TE:=λσ H Q=>to σ H λx H1=>tyV K T x H1/\t σ H1 λxs H2=>r x xs H2 Q
variable{o e:Expr}{es:List Expr}{to:TE}{t:TA}{name:Str}{apos cpos:Pos}{T id:String}{r:V->List V->Hp->VK->Prop}
theorem pe_bm(pa:PlainAttrs T)(slot:Slot T name id)(hty:typeOf (.builtin id)=pure (.type "method_descriptor"))(hm:MtR X id r)(ho:PE X o to)(ha:PA X (e::es) t)
  (hbase:attributeBase o name X.env (eval o X.env)=eval o X.env:=by rfl)
  (hfew:((backTo cpos (starEach (e :: es) X.env)).all (λ x=>!x.1) && (backToKw cpos (keywordEach [] X.env)).all (λ x=>x.1.isSome)
   && decide ((e::es).length+([]:List Keyword).length+(if ([]:List Keyword).isEmpty then 0 else 1)<30))=true:=by rfl)
  (hline:(apos.endLine == cpos.line)=true:=by rfl)(hs:Ya X e es:=by rfl)(hplain:Yb X cpos es:=by rfl) :
  PE X (.Call (.Attribute o name apos) (e::es) [] cpos) (tBM X.K T r to t):=by
 intro pq s σ H Q I h;refine wpAny_Call_method_late hbase hfew hline rfl (thn (ho pq s σ H _ I h) λv s1 ⟨x,H1,I1,r1,ty,q1⟩=>?_);obtain⟨h1,h2⟩:=ZUd I1 r1 ty;refine⟨T,id,pa,slot,hty,h1,h2,?_⟩;have hA:=ha cpos pq s1 σ H1 _ I1 q1;rw[hs] at hA ⊢;refine Calls.callWith_builtin (by show(false || (backTo cpos (starEach es X.env)).any (·.1))=false;rw[hplain] <;> rfl) (Calls.evalArgs_plain ?_);exact thn hA λus s2 ⟨vs,H2,I2,r2,q2⟩=>hm pq s2 σ H2 x vs v us Q I2 r1 r2 q2
end
def MtM(X:Cx)(id:String)(r:V->List V->Hp->VK->Prop):Prop :=
 ∀(pq:Yh) (s:Shared) (σ : St) (H:Hp) (x:V) (xs:List V) (v:Value) (us:List Value) (Q:VK),Inv X pq σ H s->Zq x v->Zb xs us->r x xs H Q ->
  Yk X (call (.builtin id) (v::us)) (EP X pq σ Q) X.xe s
theorem Zb.one:∀{x:V} {us:List Value},Zb [x] us->∃u,us=[u]/\Zq x u
 |_,_,.cons r .nil=>⟨_,rfl,r⟩
theorem Zb.rep{xs:List V}{us:List Value}(h:Zb xs us):∀k:Nat,Zb (List.replicate k xs).flatten (List.replicate k us).flatten
 |0=>.nil
 |k+1=>by
  rw[replicate_succ,replicate_succ,flatten_cons,flatten_cons];exact Zb.append h (Zb.rep h k)
theorem ZEs(its:List Value):∀(k:Nat) (acc:List Value),
  List.foldl (λx1 x2=>x1++x2) acc.toArray (List.replicate k its.toArray)=(acc++(List.replicate k its).flatten).toArray
 |0,acc=>by simp
 |k+1,acc=>by
  have e:acc.toArray++its.toArray=(acc++its).toArray:=by simp
  have e2:(acc++its)++(List.replicate k its).flatten=acc++(List.replicate (k+1) its).flatten:=by
   rw[replicate_succ,flatten_cons,append_assoc]
  rw[<-e2,<-ZEs its k (acc++its),<-e,replicate_succ,foldl_cons]
variable{t':Nat}
section
variable{X:Cx}{pq:Yh}{σ:St}{H:Hp}{s:Shared}{l b:Addr}{xs ys zs:List V}
theorem Inv.lset{its:List Value}{n:Nat}{f:Array Value->Array Value}(I:Inv X pq σ H s)(hH:H l=some (.lst xs))
  (e:s.heap.get? l=some { cls:=.type "list",data:=.seq its.toArray n })(hf:f its.toArray=its'.toArray)(hv:Zb ys its')(hz:ys.length<=sizeLine) :
  Inv X pq σ (upd H l (.lst ys)) { s with heap:=s.heap.update l (Obj.mapSeq f),toks:=t' }:=by
 have q:=PySem.IsL.update e f;rw[hf] at q;refine I.write (x:=l) (e:=l) (by rw[hH];exact trivial) (.inl rfl) (λb' u hb hu=>(Heap.get?_update_other s.heap (Obj.mapSeq f) (Ne.symm hb)).trans hu) ⟨_,q⟩ ?_;exact⟨hz,its',_,hv,q⟩
theorem Inv.lnew{its:List Value}(I:Inv X pq σ H s)(hv:Zb ys its)(hz:ys.length<=sizeLine) :
  Inv X pq σ (upd H s⁻¹ (.lst ys)) { s with heap:=s.heap.push { cls:=.type "list",data:=.seq its.toArray },toks:=t' } :=
 I.laid (λ_ _ q=>get?_push_of_some _ q) (le_refl _) ⟨hz,its,0,hv,get?_push_size _ rfl⟩
theorem Inv.fresh(I:Inv X pq σ H s):H s⁻¹=none:=I.hok.fresh (le_refl _)
theorem Inv.lstM(I:Inv X pq σ H s)(hH:H l=some (.lst xs)):xs.length<=sizeLine/\∃(its:List Value) (n:Nat),Zb xs its/\xs.length=its.length/\s.heap.get? l=some { cls:=.type "list",data:=.seq its.toArray n }:=by
 obtain⟨z,its,n,r,e⟩:=I.hok l _ hH;exact⟨z,its,n,r,r.length,e⟩
theorem ZJi{n:Nat}(h:n<=sizeLine):Builtin.List.listTooLong n=false:=by
 unfold Builtin.List.listTooLong;exact decide_eq_false ⋯
end
section
variable{X:Cx}
def ZRm:V->List V->Hp->VK->Prop:=λx vs H Q=>∃l xs y,x=.ref l/\vs=[y]/\H l=some (.lst xs)/\xs.length<sizeLine/\Q .non (upd H l (.lst (xs++[y])))
theorem ZHe:MtM X "list.append" ZRm:=by
 intro pq s σ H x vs v us Q I rx rv h;obtain⟨l,xs,y,rfl,rfl,hH,hz,q⟩:=h;cases rx;obtain⟨u,rfl,ru⟩:=rv.one;obtain⟨z,its,n,r,hl,e⟩:=I.lstM hH;refine call_meets F.slot_list_append ⟨_,e,rfl⟩ F.entry_list_append (F.args_list_append_2 _ _) (PySem.list_append l its.toArray n u (by rw[size_toArray];omega)) ⟨e,?_⟩;refine⟨.non,_,I.lset (its':=its++[u]) hH e (by simp) (r.append (.cons ru .nil)) ?_,rfl,q⟩;rw[Xa,length_singleton];omega
def rCat:R2:=λx y H Q=>∃l b xs zs,x=.ref l/\y=.ref b/\H l=some (.lst xs)/\H b=some (.lst zs)/\xs.length+zs.length<=sizeLine/\∀p,H p=none->Q (.ref p) (upd H p (.lst (xs++zs)))
theorem ZUi:OpR X (binaryOp .Add) rCat:=by
 intro pq s σ H x y v u Q I rx ry h;obtain⟨l,b,xs,zs,rfl,rfl,hH,hB,hz,q⟩:=h;cases rx;cases ry;obtain⟨z,its,n,r,hl,e⟩:=I.lstM hH;obtain⟨z2,its2,n2,r2,hl2,e2⟩:=I.lstM hB;refine PySem.P.add_list e e2 ?_ (by rw[size_toArray,size_toArray];omega);have ea:its.toArray++its2.toArray=(its++its2).toArray:=by simp
 rw[ea];exact⟨.ref _,_,I.lnew (t':=s.toks) (r.append r2) (by rw[Xa];omega),rfl,q _ I.fresh⟩
def rRep:R2:=λx y H Q=>∃l k xs,x=.ref l/\y=.int k/\H l=some (.lst xs)/\-(2 ^ 63)<=k/\k<2 ^ 63/\xs.length*k.toNat<=sizeLine /\
 ∀p,H p=none->Q (.ref p) (upd H p (.lst (List.replicate k.toNat xs).flatten))
theorem ZMz(xs:List α)(k:Nat):(List.replicate k xs).flatten.length=k*xs.length:=by
 induction k with
 |zero=>simp
 |succ k ih=>rw[replicate_succ,flatten_cons,Xa,ih,Nat.succ_mul,Nat.add_comm]
theorem ZQL:OpR X (binaryOp .Mult) rRep:=by
 intro pq s σ H x y v u Q I rx ry h;obtain⟨l,k,xs,rfl,rfl,hH,h1,h2,hz,q⟩:=h;cases rx;obtain⟨t,rfl⟩:=ry;obtain⟨z,its,n,r,hl,e⟩:=I.lstM hH;have hlen:its.toArray.size*k.toNat<=sizeLine:=by rw[size_toArray,<-hl];exact hz
 have hcap : ¬its.toArray.size*k.toNat > (2 ^ 63-1) / 8:=by
  have:(sizeLine:Nat)<=(2 ^ 63-1) / 8:=by decide
  omega
 have hfit : ¬(!Builtin.List.listFitsIndex k)=true:=by
  rw[fitsIndex_both h1 h2];exact Xf
 have hlong : ¬Builtin.List.listTooLong (its.toArray.size*k.toNat)=true:=by
  rw[ZJi hlen];exact Xf
 have hnew:List.foldl (λx1 x2=>x1++x2) #[] (List.replicate (if its.toArray.isEmpty=true then 0 else k.toNat) its.toArray)=(List.replicate k.toNat its).flatten.toArray:=by
  have f0:∀m:Nat,List.foldl (λx1 x2=>x1++x2) #[] (List.replicate m its.toArray)=(List.replicate m its).flatten.toArray:=λm=>by
   have:=ZEs its m [];rw[nil_append] at this
   exact this
  rw[f0];cases its with
  |nil=>simp
  |cons a r'=>rw[Xn (by simp)]
 refine wpAny_binaryOp_repeat_ref (T:="list") (U:="int") (by decide) ⟨_,e,rfl⟩ (λs'=>typeIs_int s' k t) noFill_list_mul F.fills_int_mul F.slot_int_rmul repeat_list F.slot_int_index.lookup
  (call_meets F.slot_int_rmul (typeIs_int s k t) F.entry_int_rmul (F.args_int_rmul_2 _ _) (int___rmul___int_list k t l its.toArray n)
   ⟨e,rfl,⟨_,e,rfl⟩,call_meets F.slot_list_mul ⟨_,e,rfl⟩ F.entry_list_mul (F.args_list_mul_2 _ _) (AutoListH.list___mul___list_int_3 l its.toArray n k t hfit hcap hlong) ⟨e,?_⟩⟩)
 rw[hnew];exact⟨.ref _,_,I.lnew (t':=s.toks) (r.rep k.toNat) (by rw[ZMz,Nat.mul_comm];exact hz),rfl,q _ I.fresh⟩
end
end _L
namespace Att
open PySem PySem.W PySem.Calls PyProof.Rows
variable{P:Params}{h:Heap}
theorem ZFU:∀(ns:List Int) (vs:List Value),WellAll P h vs (ns.map WData.int)->IntsAre vs ns:=by
 intro ns
 induction ns with
 |nil =>
  intro vs w;rw[map_nil] at w;cases w;exact .nil
 |cons n ns ih =>
  intro vs w;rw[map_cons] at w;cases w with
  |cons a b =>
   cases a;exact .cons _ _ (ih _ b)
theorem ZNW{l:OpenLaw}{n:Nat}(hn:l.most=some n){args:List WData}{vals:List Value}
  (hpre:l.row.toRowW.claim.pre args=true)(hwl:WellAll P h vals args) :
  ∃a vs ns,vals=[Value.ref a]/\args=[WData.list (ns.map WData.int)]/\h.get? a=some { cls:=.type "list",data:=.seq vs.toArray }/\IntsAre vs ns/\ns.length<=n:=by
 have hsh:WShape.hasAll [] args [.list .int]=true:=(pre_splitW hpre).1;have hc:l.pre.holds [] { args:=args }=true:=(pre_splitW hpre).2;obtain⟨d,r,rfl,h1,h2⟩:=hasAllW_cons hsh;obtain rfl:=hasAllW_nil h2;obtain⟨xs,rfl,h3⟩:=hasW_list h1;obtain⟨ns,rfl⟩:=items_int h3;have hlen:ns.length<=n:=by
  unfold OpenLaw.pre at hc;have h4:(WTm.not (.lt (.lit (.int (n:Int))) (.len (.arg 0)))).holds [] { args:=[.list (ns.map .int)] }=true:=by
   have h4:=(holds_andW hc).1;rw[hn] at h4;exact h4
  have h5:=condW_of h4 (w_not (w_lt w_lit (w_len_list (w_arg rfl))));rw[Xm] at h5;refine Nat.le_of_not_lt λq=>?_
  have q':(n:Int)<((ns.length:Nat):Int):=⋯
  first
   |(rw[Xe q'] at h5;exact absurd h5 (by decide))
   |(simp at h5;omega)
 cases hwl with
 |cons w1 w2 =>
  cases w2;cases w1 with
  |list ho hall=>exact⟨_,_,ns,rfl,rfl,ho,ZFU ns _ hall,hlen⟩
theorem ZN2(l:OpenLaw)(args:List WData):l.row.toRowW.claim.post args (.bool true) args=true :=
 postW_of (r:=l.row.toRowW) (X:=(true == true))
  (show WShape.has [] (.bool true) .bool=true by first|rfl|decide|simp[WShape.has,WShape.arms,WShape.armsAll])
  (show(WTm.eq .res (.lit (.bool true))).value [] { args:=args,res:=some (.bool true),after:=args }=some (.bool (true == true)) from w_eq_bool (w_res rfl) w_lit) rfl
theorem attach_call{l:OpenLaw}{n:Nat}{q:Program}{loose:List Str}{XP:(Str->Option Value)->Heap->Prop}{YP:World->Heap->Prop}{d:DefRec}
  (hn:l.most=some n)(hdf:d.params.defaults=[])
  (call:∀ (w:World) (s₀ s₁ : Shared) (mg mb:Yj) (fa:Addr) (o:Obj) (pm cd doc:Value) (a:Addr) (vs:List Value) (ns:List Int),
   Ground q loose [] XP w s₀ mg mb s₁.heap->YP w s₁.heap ->
   s₁.heap.get? fa=some o->o.data=.func (docDef d.name d.params d.body d.scope pm cd doc)->s₁.heap.CodeRec cd d.name->mg d.name=some (.ref fa) ->
   s₁.heap.get? a=some { cls:=.type "list",data:=.seq vs.toArray }->IntsAre vs ns->ns.length<=n->s₁.gens = #[] ->
   codeAny (model l.prog w) callerA (.call (.ref fa) ⟨[.ref a],[]⟩) (λr s'=>r=.ok (.ret (.bool true))/\OldK s₁.heap s'.heap/\s'.os=s₁.os/\AllBare s'.gens) s₁) :
  WalkO q loose XP YP l.row.toRowW d [] (λf vs=>PySem.call f vs):=by
 intro w s₀ s₁ mg mb G Y fa o pm cd doc dV kV ho hd hcd hD hmg hg args vals as hpre hlay hrd hwl hlo;obtain rfl:dV=.none:=Dflts.none hD hdf;obtain rfl:kV=.none:=Dflts.noKw hD;obtain⟨a,vs,ns,rfl,rfl,hobj,hints,hlen⟩:=ZNW hn hpre hwl;refine enter_call (codeAny_mono (call w s₀ s₁ mg mb fa o pm cd doc a vs ns G Y ho (fd_plain hd) hcd hmg hobj hints hlen hg) λr s' hq=>?_);obtain⟨rfl,h2,h3,h4⟩:=hq;exact⟨.inl ⟨.bool true,.bool true,[],rfl,λ_=>rfl,.bool true,ZN2 l _,λ_=>⟨List.Pairwise.nil,λ_ hm=>(nomatch hm)⟩⟩,h2,h3,h4⟩
end Att
namespace _L
open PySem PySem.Spec PyProof.Rows
theorem ZH4:∀{vs:List Value} {ns:List Int},IntsAre vs ns->Zb (ns.map V.int) vs
 |_,_,.nil=>.nil
 |_,_,.cons n t h=>.cons ⟨t,rfl⟩ (ZH4 h)
def ZTw(H:Hp):Prop:=∀b,H b=none\/∃o xs,H b=some (.frz o (.lst xs))
variable{k:Nat}{fd:FuncData}{x:Str}{sp:Sp}
theorem ZPE{P:Program}{w:World}{K:Frag}{mg mb:Yj}{CX:CXT}{fa a:Addr}{s₁:Shared}{vs:List Value}{ns:List Int}
  (KX:K.In s₁.heap)(hns:s₁.heap.Ns mainGlobals mg)(hb:s₁.heap.Ns builtinsNs mb)(hbb:∀x:Str,x≠"__name__"->mb x=bootBuiltins x)(hlim:s₁.heap.NoLimit)(hg:s₁.gens = #[])
  (ha:s₁.heap.get? a=some { cls:=.type "list",data:=.seq vs.toArray })(hi:IntsAre vs ns)(hl:ns.length<=sizeLine)(hr:Room k callerA)
  (F:∀base:Heap,K.In base->base.Ns mainGlobals mg->FnOk P w K mg base CX k fa fd [x] sp)(hbind:∀(s:Shared) (u:Value),BindsTo s fd ⟨[u],[]⟩ [(x,u)])
  (hsp:∀H:Hp,ZTw H->SqL K H a (ns.map V.int)->sp [.ref a] H (λv _=>v=.bl true) λ_ _ _=>False)
  (hCX:∀H e s',CX [] H s₁ (λ_ _ _=>False) e s'->False) :
  codeAny (model P w) callerA (.call (.ref fa) ⟨[.ref a],[]⟩) (λr s'=>r=.ok (.ret (.bool true))/\OldK s₁.heap s'.heap/\s'.os=s₁.os/\AllBare s'.gens) s₁:=by
 have rv:=ZH4 hi;have lenV:=hi.length
 -- from an abstract heap in which nothing but the script may be tracked
 have core:∀H:Hp,ZTw H->SqL K H a (ns.map V.int)->HOk P w H s₁.heap->(∀b,H b≠none->b=a)->(H a≠none->K.lookup a=none) ->
   codeAny (model P w) callerA (.call (.ref fa) ⟨[.ref a],[]⟩) (λr s'=>r=.ok (.ret (.bool true))/\OldK s₁.heap s'.heap/\s'.os=s₁.os/\AllBare s'.gens) s₁:=by
  intro H hO hS hok hA hK;have base_of:∀{b:Addr} {o:Obj},s₁.heap.get? b=some o->H b=none->(ZIy s₁.heap H).get? b=some o:=λe n=>ZQI e n
  have noA:∀{b:Addr} {o:Obj} {es:Array DictEntry} {ep:Nat},s₁.heap.get? b=some o->o.data=.dict es ep->H b=none:=λ{b o es ep} e d=>by
   cases q:H b with
   |none=>rfl
   |some u =>
    have e':b=a:=hA b (by rw[q];simp);subst e';rw[ha] at e;cases e;have d':Data.seq vs.toArray _=Data.dict es ep:=d;cases d'
  have nsK:∀{b:Addr} {m:Yj},s₁.heap.Ns b m->(ZIy s₁.heap H).Ns b m:=λ{b m} ⟨o,es,ep,e,d,r⟩=>⟨o,es,ep,base_of e (noA e d),d,r⟩
  have hKb:K.In (ZIy s₁.heap H):=λ b o e=>base_of (KX b o e) (by
   cases q:H b with
   |none=>rfl
   |some u =>
    have e':b=a:=hA b (by rw[q];simp);subst e';rw[hK (by rw[q];simp)] at e;cases e)
  have hM:Mod K mg (ZIy s₁.heap H):=⟨hKb,nsK hns,⟨mb,nsK hb,hbb⟩,let ⟨mc,h1,h2⟩:=hlim;⟨mc,nsK h1,h2⟩⟩;have e0:Env0 P w K mg (ZIy s₁.heap H) callerA [] s₁ H:=⟨rfl,hM,λb o e=>ZRB e,Nat.le_of_eq (ZOD _ _),trivial,λb hb=>absurd (show b∈([]:List Addr) from hb) (by simp),hok,.of_eq hg⟩;refine codeAny_mono ((F _ hKb (nsK hns)).run callerA [] s₁ H ⟨[.ref a],[]⟩ [.ref a] [.ref a] _ _ hr e0 (hbind s₁ (.ref a)) (.cons rfl .nil) (hsp H hO hS)) λr s' h=>?_
  cases r with
  |error e=>exact(hCX H e s' h).elim
  |ok fl =>
   cases fl with
   |next=>exact False.elim h
   |brk=>exact False.elim h
   |cont=>exact False.elim h
   |ret u =>
    obtain⟨v,H',os,bare,un,hok',r',q⟩:=h;have q':v=.bl true:=q;subst q';obtain rfl:u=Value.bool true:=r';refine⟨rfl,OldK.of_keep λb o e=>?_,os,bare⟩;cases q:H b with
    |none=>exact un.keep b o e q (by intro z;exact absurd (show b∈([]:List Addr) from z) (by simp)) (by simp)
    |some u =>
     rcases hO b with z|⟨ob,xs,z⟩
     .rw[q] at z;cases z
     .have z2:=un.frzs b ob _ z
      obtain⟨e1,_⟩:=hok b _ z;obtain⟨e2,_⟩:=hok' b _ z2;rw[e] at e1;cases e1;exact e2
 cases hk:K.lookup a with
 |some o =>
  -- the script is one of the module's own objects
  have e:=KX a o hk;rw[ha] at e;cases e;refine core (λ_=>none) (λ_=>.inl rfl) (.inr ⟨_,vs.toArray,_,hk,rfl,rfl,rfl,by rw[size_toArray,lenV];exact hl,by simpa using rv⟩) (λb u z=>by have z':(none:Option HO)=some u:=z;cases z') (λb z=>absurd rfl z) λz=>absurd rfl z
 |none =>
  refine core (λb=>if b=a then some (.frz { cls:=.type "list",data:=.seq vs.toArray } (.lst (ns.map V.int))) else none) (λb=>?_) (.inl (.inr ⟨{ cls:=.type "list",data:=.seq vs.toArray },Xp rfl⟩)) (λb u z=>?_) (λb z=>?_) λ_=>hk
  .by_cases hb:b=a
   .exact .inr ⟨_,_,Xp hb⟩
   .exact .inl (Xn hb)
  .by_cases hb:b=a
   .have z':=(Xp hb).symm.trans z
    cases z';subst hb;exact⟨ha,by rw[Xm];exact hl,vs,_,rv,ha⟩
   .have z':=(Xn hb).symm.trans z
    cases z'
  .by_cases hb:b=a
   .exact hb
   .exact absurd (Xn hb) z
theorem walk_of{l:PySem.W.OpenLaw}{n:Nat}{q:Program}{loose:List Str}{XP:(Str->Option Value)->Heap->Prop}{YP:World->Heap->Prop}{d:DefRec}{K:Params->Frag}{CX:World->CXT}{sp:World->Sp}
  (hn:l.most=some n)(hn2:n<=sizeLine)(hdf:d.params.defaults=[])(hr:Room k callerA)
  (hY:∀(w:World) (h:Heap),YP w h->(K w.params).In h)
  (F:∀ (w:World) (mg:Yj) (fa:Addr) (h:Heap),(K w.params).In h->h.Ns mainGlobals mg->mg d.name=some (.ref fa) ->
   ∃fd:FuncData,(∀(s:Shared) (u:Value),BindsTo s fd ⟨[u],[]⟩ [(x,u)]) /\
    ∀base:Heap,(K w.params).In base->base.Ns mainGlobals mg->FnOk l.prog w (K w.params) mg base (CX w) k fa fd [x] (sp w))
  (hsp:∀(w:World) (H:Hp) (a:Addr) (ns:List Int),ns.length<=n->ZTw H->SqL (K w.params) H a (ns.map V.int)->sp w [.ref a] H (λv _=>v=.bl true) λ_ _ _=>False)
  (hCX:∀(w:World) (H:Hp) (s:Shared) (e:Value) (s':Shared),CX w [] H s (λ_ _ _=>False) e s'->False) :
  PySem.W.WalkO q loose XP YP l.row.toRowW d [] (λf vs=>PySem.call f vs):=by
 refine Att.attach_call hn hdf λw s₀ s₁ mg mb fa o pm cd doc a vs ns G Y ho hd hcd hmg hobj hints hlen hg=>?_
 have KX:=hY w _ Y;obtain⟨fd,hb,hF⟩:=F w mg fa _ KX G.T.g hmg;exact ZPE KX G.T.g G.T.b G.T.builtins G.T.nolimit hg hobj hints (le_trans hlen hn2) hr hF hb (λH hO hS=>hsp w H a ns hlen hO hS) λH e s'=>hCX w H s₁ e s'
noncomputable def ZFo(s:Stmt)(j:Nat):Stmt:=match s with
 |.ClassDef _ _ _ body _ _ _ _ _ _ _=>body.getD j (.Pass ⟨0,0,0,0⟩)
 |_=>.Pass ⟨0,0,0,0⟩
noncomputable def ZBD(s:Stmt):Arguments:=match s with
 |.FunctionDef _ a _ _ _ _ _ _ _ _=>a
 |_=>{ posonlyargs:=[],args:=[],vararg:=none,kwonlyargs:=[],kw_defaults:=[],kwarg:=none,defaults:=[] }
noncomputable def ZAC(s:Stmt):List Stmt:=match s with
 |.FunctionDef _ _ b _ _ _ _ _ _ _=>b
 |_=>[]
noncomputable def ZM(s:Stmt):Scope:=match s with
 |.FunctionDef _ _ _ _ _ _ sc _ _ _=>sc
 |_=>{ kind:=.function,names:=[],isGenerator:=false,isCoroutine:=false }
abbrev CX0:CXT:=λ_ _ _ _ _ _=>False
abbrev E0:XK:=λ_ _ _=>False
theorem ZMb{X:Cx}:ZDs CX0 X E0:=λ_ _ _ _ _ _ _ h=>h.elim
structure Fun (K:Frag) (x qual:Str) (st:Stmt) (f:Addr) (fd:FuncData):Prop where
 ex:∃(oc:Value) (od:Option Addr) (kV doc pm:Value) (an:Option Addr) (cdv ct:Value) (osl:Array (Option Value)),
  fd=fnOf x qual (ZBD st) (ZAC st) (ZM st) .none kV doc pm an cdv ct/\K.lookup f=some ⟨oc,od,.func fd,osl⟩/\codeIn K cdv qual=true
 kp:keepIn K (.ref f)=true
variable{qual:Str}{ps:List Str}
section
variable{P:Program}{w:World}{K:Frag}{mg:Yj}{base:Heap}
theorem Fun.ok{st:Stmt}{f:Addr}{N:List Str}(F:Fun K x qual st f fd)(S:FnScope N ps (ZM st))(len:∀vs H Q E,sp vs H Q E->vs.length=ps.length)
  (hbody:∀ (cdv:Value) (A:Around) (outer:List Env) (s:Shared) (H:Hp) (vs:List V) (Q:VK) (E:XK),Room k (A.deeper (envOfC qual (ZM st) s⁻¹ f cdv))->sp vs H Q E ->
   ∃t,PSs (ZFv CX0 P w K mg base N qual (ZM st) f cdv A outer s H E).nox (ZAC st) t/\t { nx:=λ_ H'=>Q .non H',rt:=Q } (start N vs) H):FnOk P w K mg base CX0 (k+1) f fd ps sp:=by
 obtain⟨oc,od,kV,doc,pm,an,cdv,ct,osl,rfl,lk,hcd⟩:=F.ex;refine fn_of lk hcd S len λA outer s H vs Q E hr hsp=>?_
 obtain⟨t,h,q⟩:=hbody cdv A outer s H vs Q E hr hsp;exact⟨t,h.nox,q⟩
theorem Fun.binds{st:Stmt}{f:Addr}(F:Fun K x qual st f fd)
  (h:∀(kV doc pm:Value) (an:Option Addr) (cdv ct:Value) (us:List Value),us.length=ps.length->bindArgs (fnOf x qual (ZBD st) (ZAC st) (ZM st) .none kV doc pm an cdv ct) ⟨us,[]⟩=pure (ps.zip us)):ZDA K fd ps []:=by
 obtain⟨oc,od,kV,doc,pm,an,cdv,ct,osl,rfl,lk,hcd⟩:=F.ex;exact .all (h kV doc pm an cdv ct)
theorem ZP1{st:Stmt}{f:Addr}{oc:Value}{od an:Option Addr}{osl:Array (Option Value)}{kV doc pm cdv ct:Value}(l:K.lookup f=some ⟨oc,od,.func (fnOf x qual (ZBD st) (ZAC st) (ZM st) .none kV doc pm an cdv ct),osl⟩)
  (c:codeIn K cdv qual=true)(k:keepIn K (.ref f)=true):Fun K x qual st f (fnOf x qual (ZBD st) (ZAC st) (ZM st) .none kV doc pm an cdv ct):=⟨⟨oc,od,kV,doc,pm,an,cdv,ct,osl,rfl,l,c⟩,k⟩
end
theorem Zt{n:Nat}(h:n<=1000):n<sizeLine:=Nat.lt_of_le_of_lt h (by decide)
variable{A B:Prop}
theorem ZV6(h:B):if false=true then A else B:=by
 rw[Xn Xf];exact h
theorem ZVz(h:A):if true=true then A else B:=by
 rw[Xp rfl];exact h
def Same(H H':Hp):Prop:=∀b o,H b=some o->H' b=some o
theorem Same.refl(H:Hp):Same H H:=λ_ _ h=>h
end _L
namespace HT
open PySem PyProof.Rows
noncomputable def lexGt:List Int->List Int->Bool
 |[],[]=>false
 |[],_::_=>false
 |_::_,[]=>true
 |x::xs,y::ys=>if x=y then lexGt xs ys else decide (y<x)
theorem ZK8(x y:Int)(xs ys:List Int):lexGt (x::xs) (y::ys)=if x=y then lexGt xs ys else decide (y<x):=rfl
theorem ZG9:lexGt [] []=false:=rfl
theorem ZGZ(y:Int)(ys:List Int):lexGt [] (y::ys)=false:=rfl
theorem ZGR(x:Int)(xs:List Int):lexGt (x::xs) []=true:=rfl
theorem ZQj(A:Around)(s:Shared)(a:Int)(t:Tok)(c:Int)(u:Tok)(prog:Program)(w:World)(E:Yi)(Q:Yi)(h:Q (.bool (decide (c<a))) s) :
  Yl prog w A (richCompare .Gt (.int a t) (.int c u)) Q E s :=
 (PyProof.Rows.gt_int h:Yl prog w A (compareOp .Gt (.int a t) (.int c u)) Q E s)
section
open PySem.SeqAt
open PySem.AutoSeq1 (wpAny_loadPart')
open PySem.MeetsSeq PySem.MeetsSeq2 PySem.MeetsSeq3
theorem ZHJ(l b:Addr)(items items2:Array Value)(n n2:Nat)(dd dd2:Option Addr)(sl sl2:Array (Option Value))(ns ms:List Int)(hi:IntsAre items.toList ns)(hj:IntsAre items2.toList ms) :
  Meets (Builtin.«tuple.__gt__» ⟨[.ref l,.ref b],[]⟩)
   (λ _ R s=>s.heap.get? l=some { cls:=.type "tuple",dict:=dd,data:=.seq items n,slots:=sl }/\s.heap.get? b=some { cls:=.type "tuple",dict:=dd2,data:=.seq items2 n2,slots:=sl2 } /\
    R (.ok (.ret (.bool (lexGt ns ms)))) s) :=
 .of_wp λprog w A R s h=>by
  obtain⟨hp,g,d,tk,os⟩:=s;obtain⟨hl,hb,h⟩:=h;have f2:=AutoSeq1.sub_tuple_tuple;have z1:items.size=ns.length:=by rw[<-hi.length];simp
  have z2:items2.size=ms.length:=by rw[<-hj.length];simp
  wp_walk using wpAny_loadPart' hl,wpAny_loadPart' hb,wpAny_forIn_list _ (λ rest b s'=>b.1=none/\s'=⟨hp,g,d,tk,os⟩/\∃ (vs ws:List Value) (ns' ms':List Int),rest=vs.zip ws /\
   IntsAre vs ns'/\IntsAre ws ms'/\ns'.length+items2.size=ms'.length+items.size/\R (.ok (.ret (.bool (lexGt ns' ms')))) ⟨hp,g,d,tk,os⟩) _
  case turn =>
   rintro ⟨y,x⟩ rest b s' ⟨hb',rfl,vs,ws,ns',ms',hz,hvi,hwi,hlen,hR⟩
   cases hvi with
   |nil=>rw[List.zip_nil_left] at hz;cases hz
   |cons a t hvi' =>
    cases hwi with
    |nil=>rw[List.zip_nil_right] at hz;cases hz
    |cons c u hwi' =>
     rw[List.zip_cons_cons] at hz;injection hz with hyx hrest
     injection hyx with hy hx
     subst hy hx;rw[ZK8] at hR;simp only[Xc] at hlen;obtain⟨e,he,hiff⟩:=ZPv A.in1 ⟨hp,g,d,tk,os⟩ a t c u;refine Xb (he prog w _ _ ?_);cases e with
     |true =>
      rw[Xp (hiff.mp rfl)] at hR
      wp_walk
      exact⟨rfl,rfl,_,_,_,_,hrest,hvi',hwi',⋯,hR⟩
     |false =>
      rw[Xn (λq=>absurd (hiff.mpr q) Xf)] at hR;have hri:=ZQj A.in1 ⟨hp,g,d,tk,os⟩ a t c u prog w
      wp_walk using hri
      exact⟨_,rfl,by simpa using hR⟩
  case fin =>
   rintro ⟨b1,b2⟩ s' ⟨hb',rfl,vs,ws,ns',ms',hz,hvi,hwi,hlen,hR⟩
   simp only at hb';subst hb';have hv:lexGt ns' ms'=decide (items.size > items2.size):=by
    cases hvi with
    |nil =>
     cases hwi with
     |nil =>
      simp only[length_nil] at hlen;rw[ZG9];exact(decide_eq_false ⋯).symm
     |cons c u hw =>
      simp only[length_nil,Xc] at hlen;rw[ZGZ];exact(decide_eq_false ⋯).symm
    |cons a t hv =>
     cases hwi with
     |nil =>
      simp only[length_nil,Xc] at hlen;rw[ZGR];exact(Xe ⋯).symm
     |cons c u hw =>
      rw[List.zip_cons_cons] at hz;cases hz
   rw[hv] at hR
   wp_walk
   exact⟨_,rfl,by simpa [Builtin.Tuple.tupleCompareSizes] using hR⟩
  case h =>
   exact⟨rfl,rfl,items.toList,items2.toList,ns,ms,rfl,hi,hj,⋯,h⟩
end
section
variable{prog:Program}{w:World}{A:Around}{E:Yi}{s:Shared}
theorem gt_tupInts{l b:Addr}{items items2:Array Value}{ns ms:List Int}{Q:Yi}(hl:IsTup s.heap l items)(hb:IsTup s.heap b items2)(hi:IntsAre items.toList ns)(hj:IntsAre items2.toList ms)
  (hu:A.units<cLine)(h:Q (.bool (lexGt ns ms)) s):Yl prog w A (compareOp .Gt (.ref l) (.ref b)) Q E s:=by
 obtain⟨⟨cls,dd,data,sl⟩,ho,hc,n,hd⟩:=id hl;obtain⟨⟨cls2,dd2,data2,sl2⟩,ho2,hc2,n2,hd2⟩:=id hb;simp only at hc hd hc2 hd2;subst hc hd hc2 hd2;exact richCompare_meets_room (op:=.Gt) ⟨_,ho,rfl⟩ ⟨_,ho2,rfl⟩ PySem.F.slot_tuple_gt PySem.F.entry_tuple_gt (PySem.F.args_tuple_gt_2 _ _) (ZHJ l b items items2 n n2 dd dd2 sl sl2 ns ms hi hj)
  ⟨ho,ho2,show Value.bool (lexGt ns ms)≠Value.notImplemented/\Q (.bool (lexGt ns ms)) s from ⟨(λx=>nomatch x),h⟩⟩ hu
end
end HT
namespace _L
open PySem PySem.Spec PyProof.Rows
section
variable{X:Cx}{a b:Expr}{ta tb:TE}{pos:Pos}
def rGtT(K:Frag):R2:=λx y H Q=>∃a b ns ms,x=.ref a/\y=.ref b/\SqT K H a (ns.map V.int)/\SqT K H b (ms.map V.int)/\Q (.bl (HT.lexGt ns ms)) H
theorem ZVm(hu:X.A.units<cLine):OpR X (compareOp .Gt) (rGtT X.K):=by
 intro pq s σ H x y v u Q I rx ry h;obtain⟨a,b,ns,ms,rfl,rfl,ha,hb,q⟩:=h;cases rx;cases ry;obtain⟨its,r1,p1,_⟩:=I.tuple ha;obtain⟨its2,r2,p2,_⟩:=I.tuple hb;have i1:IntsAre its.toArray.toList ns:=ZDw r1;have i2:IntsAre its2.toArray.toList ms:=ZDw r2;exact HT.gt_tupInts p1 p2 i1 i2 hu ⟨.bl (HT.lexGt ns ms),H,I,rfl,q⟩
def CDivL(i j:Int):Prop:=0<j/\j<2 ^ 64
theorem ZOr:OpR X (binaryOp .FloorDiv) (rI CDivL λi j=>.int (i / j)):=opI λi j _ _ _ _ _ hc q=>by
 have h1:(0:Int)<j:=hc.1;have h2:j<2 ^ 64:=hc.2;have e:i.fdiv j=i / j:=Int.fdiv_eq_ediv_of_nonneg i (Int.le_of_lt h1);refine floordiv_int ⋯ (by rw[e];exact q) (.inl (PyProof.noPylong_of_log2 ?_));have h3:j.natAbs<2 ^ 64:=⋯
 have h4:j.natAbs≠0:=⋯
 have h5:j.natAbs.log2<64:=(Nat.log2_lt h4).mpr h3;omega
end
end _L
namespace H1
open PySem PySem.Spec PyProof.Rows _L
structure Def (K:Frag) (mg:Yj) (x:Str) (st:Stmt) (ps:List Str) (f:Addr) (fd:FuncData):Prop where
 at_:mg x=some (.ref f)
 fn:Fun K x x st f fd
 bd:ZDA K fd ps []
theorem pcall{X:Cx}{x:Str}{st:Stmt}{ps:List Str}{f:Addr}{fd:FuncData}{sp:Sp}{k:Nat}{e:Expr}{es:List Expr}{t:TA}{p pos:Pos}(D:Def X.K X.mg x st ps f fd)(G:FnOk X.prog X.w X.K X.mg X.base CX0 k f fd ps sp)(hr:Room k X.A)
  (ha:PA X (e::es) t)(hg:Gl X x:=by rfl)(hdb:Yf x:=by decide)(he:Ya X e es:=by rfl)(hpl:Yb X pos es:=by rfl) :
  PE X (.Call (.Name x p) (e::es) [] pos) (ZOj sp [] E0 t):=ZSK G hr hg D.at_ D.fn.kp D.bd .nil ZMb ha hdb he hpl
theorem Same.upd{H:Hp}{p:Addr}{o:HO}(h:H p=none):Same H (upd H p o):=λa u e=>by rw[ZG (ZJ e h)];exact e
end H1
namespace HI
open PySem PyProof.Rows
variable{j t:Addr}{i:Nat}{x:Value}{Q:Yi}
section
variable{prog:Program}{w:World}{A:Around}{E:Yi}{s:Shared}
theorem drawT{its:Array Value}(hj:s.heap.IsTupleIter j t i)(ht:s.heap.IsTuple t its)(hx:its[i]? = some x)
  (k:∀h',h'.IsTupleIter j t (i+1)->Heap.SameBut j s.heap h'->Q x { s with heap:=h' }):Yl prog w A (Builtin.SmallTypes.nextOf (.ref j)) Q E s:=by
 obtain⟨oj,ej,cj,dj⟩:=id hj;obtain⟨ot,et,_,nt,dt⟩:=ht;unfold Builtin.SmallTypes.nextOf;refine Xb (wpAny_callSpecial?_slot (name:=Str.ofString "__next__") hj.typeIs F.slot_tuple_iterator_next (wpAny_call_entry F.slot_tuple_iterator_next hj.typeIs F.entry_tuple_iterator_next ?_ (F.args_tuple_iterator_next_1 _)));refine Xb (m:=field (.ref j) 0) (wpAny_field ej dj (x:=.ref t) rfl ?_);show wpAny _ _ (if (Value.ref t == Value.none)=true then _ else field (.ref j) 1 >>= _) _ _ s;rw[Xn (by intro z;cases z)];refine Xb (m:=field (.ref j) 1) (wpAny_field ej dj (x:=.int i 0) rfl (Xb (m:=seqItems? (.ref t)) (wpAny_seqItems et dt ?_)));simp only[toNat_natCast,hx];refine Xb (wpAny_setField ej dj (by simp) (Xu ⟨_,rfl,Xu (k _ ?_ (Heap.SameBut.update ..))⟩));refine⟨_,get?_update_self _ ej (Obj.isFreed_of_fields (Obj.data_mapFields dj _)),(Obj.cls_mapFields ..).trans cj,?_⟩;rw[Obj.data_mapFields dj];simp[rawInt]
theorem ZOY{its:Array Value}(hh:A.handled=none)(hj:s.heap.IsTupleIter j t i)(ht:s.heap.IsTuple t its)(hx:its[i]? = none)
  (k:∀h' e,Heap.ExtBut j s.heap h'->(∃o,h'.get? e=some o/\o.cls=.type "StopIteration")->E (.ref e) { s with heap:=h' }):Yl prog w A (Builtin.SmallTypes.nextOf (.ref j)) Q E s:=by
 obtain⟨oj,ej,cj,dj⟩:=id hj;obtain⟨ot,et,_,nt,dt⟩:=ht;unfold Builtin.SmallTypes.nextOf;refine Xb (wpAny_callSpecial?_slot (name:=Str.ofString "__next__") hj.typeIs F.slot_tuple_iterator_next (wpAny_call_entry F.slot_tuple_iterator_next hj.typeIs F.entry_tuple_iterator_next ?_ (F.args_tuple_iterator_next_1 _)));refine Xb (m:=field (.ref j) 0) (wpAny_field ej dj (x:=.ref t) rfl ?_);show wpAny _ _ (if (Value.ref t == Value.none)=true then _ else field (.ref j) 1 >>= _) _ _ s;rw[Xn (by intro z;cases z)];refine Xb (m:=field (.ref j) 1) (wpAny_field ej dj (x:=.int i 0) rfl (Xb (m:=seqItems? (.ref t)) (wpAny_seqItems et dt ?_)));simp only[toNat_natCast,hx];refine Xb (wpAny_rule (Xb (wpAny_setField ej dj (by simp) ?_)));refine Xb (m:=newExc (.type "StopIteration") []) ?_;simp only[newExc,newTuple];refine Xb (wpAny_newObj_type (Xb (m:=firstArgMember _ _) (wpAny_of_eq (a:=Value.none) (by first|rfl|(simp only[firstArgMember];rfl)) (wpAny_newObj_type ?_ (by size_fits)))) (by size_fits));simp only[raiseNew];refine Xb (wpAny_handled ?_)
 first
  |rw[show A.in1.handled=none from hh]
  |rw[hh]
 exact Xb (Xu (wpAny_throw (k _ _ (((Heap.SameBut.update ..).extBut.push _).push _) ⟨_,get?_push_size _ rfl,rfl⟩)))
end
noncomputable abbrev nm(q:Bool):String:=cond q "tuple_iterator" "list_iterator"
def IsIt(q:Bool)(h:Heap)(i l:Addr)(k:Nat):Prop:=∃o,h.get? i=some o/\o.cls=.type (nm q)/\o.data=.fields #[.ref l,.int k 0]
def IsSq(q:Bool)(h:Heap)(l:Addr)(xs:Array Value):Prop:=∃o,h.get? l=some o/\o.cls=.type (cond q "tuple" "list")/\∃n,o.data=.seq xs n
section
variable{prog:Program}{w:World}{A:Around}{E:Yi}{s:Shared}{q:Bool}
theorem ZGi{its:Array Value}(hj:IsIt q s.heap j t i)(ht:IsSq q s.heap t its)(hx:its[i]? = some x)
  (k:∀h',IsIt q h' j t (i+1)->Heap.SameBut j s.heap h'->Q x { s with heap:=h' }):Yl prog w A (Builtin.SmallTypes.nextOf (.ref j)) Q E s:=by
 cases q
 .exact wpAny_nextOf_list_item hj ht hx k
 .exact drawT hj ht hx k
theorem ZBc{its:Array Value}(hh:A.handled=none)(hj:IsIt q s.heap j t i)(ht:IsSq q s.heap t its)(hx:its[i]? = none)
  (k:∀h' e,Heap.ExtBut j s.heap h'->(∃o,h'.get? e=some o/\o.cls=.type "StopIteration")->E (.ref e) { s with heap:=h' }):Yl prog w A (Builtin.SmallTypes.nextOf (.ref j)) Q E s:=by
 cases q
 .exact wpAny_nextOf_list_end hh hj ht hx k
 .exact ZOY hh hj ht hx k
theorem itG{l:Addr}{items:Array Value}(hl:IsSq q s.heap l items)(hQ:Q (.ref s⁻¹) { s with heap:=s.heap.push { cls:=.type (nm q),data:=.fields #[.ref l,.int 0 0] } }):Yl prog w A (pyIter (.ref l)) Q E s:=by
 cases q
 .exact wpAny_pyIter_list hl hQ
 .exact wpAny_pyIter_tuple hl hQ
end
variable{q:Bool}{prog:Program}{w:World}{A:Around}
theorem drawsG(hh:A.handled=none)(j t:Addr)(ne:t≠j)(its:Array Value) :
  Draws prog w A j [j,t] its.size (λi v=>its[i]? = some v) (λi h=>IsIt q h j t i/\IsSq q h t its) where
 live:=λ_ _ st=>by
  obtain⟨⟨o,e,_⟩,_⟩:=st;exact⟨o,e⟩
 frame:=λ_ _ _ st hk=>by
  obtain⟨⟨o,e,r⟩,⟨u,f,q⟩⟩:=st;exact⟨⟨o,hk j (by simp) o e,r⟩,⟨u,hk t (by simp) u f,q⟩⟩
 item:=λi s Q E hi st hQ=>by
  refine ZGi st.1 st.2 (x:=its[i]) (by simp[hi]) λh' h1 h2=>?_
  obtain⟨u,f,q⟩:=st.2;exact hQ _ h' s.toks (by simp[hi]) ⟨h1,⟨u,(h2.2 t ne).trans f,q⟩⟩ h2
 done:=λs Q E st hE=>ZBc hh st.1 st.2 (by simp) hE
theorem drawsG_fin(hh:A.handled=none)(j t:Addr)(its:Array Value)(i:Nat)(hi:its.size<=i) :
  Draws prog w A j [j,t] 0 (λ_ _=>False) (λ_ h=>IsIt q h j t i/\IsSq q h t its) where
 live:=λ_ _ st=>by
  obtain⟨⟨o,e,_⟩,_⟩:=st;exact⟨o,e⟩
 frame:=λ_ _ _ st hk=>by
  obtain⟨⟨o,e,r⟩,⟨u,f,q⟩⟩:=st;exact⟨⟨o,hk j (by simp) o e,r⟩,⟨u,hk t (by simp) u f,q⟩⟩
 item:=λi s Q E hi st hQ=>absurd hi (not_lt_zero _)
 done:=λs Q E st hE=>ZBc hh st.1 st.2 (by simp[hi]) hE
open AutoSeq1 (wpAny_loadPart') in
theorem ZPh(q:Bool)(l:Addr)(its:Array Value)(n:Nat)(dct:Option Addr)(sl:Array (Option Value)) :
  Meets (Builtin.«enumerate.__new__» ⟨[.type "enumerate",.ref l],[]⟩) (λ _ R s=>s.heap.get? l=some { cls:=.type (cond q "tuple" "list"),dict:=dct,data:=.seq its n,slots:=sl } /\
   R (.ok (.ret (.ref (s.heap.push { cls:=.type (nm q),data:=.fields #[.ref l,.int 0 0] }).objs.size)))
    { s with heap:=(s.heap.push { cls:=.type (nm q),data:=.fields #[.ref l,.int 0 0] }).push { cls:=.type "enumerate",data:=.fields #[.none,.bool false,.ref s⁻¹,rawInt 0,.none,.none] } }) :=
 .of_wp λprog w A R s h=>by
  obtain⟨hp,g,d,tk,os⟩:=s;obtain⟨hl,h⟩:=h;have hsub:=sub_enumerate;have hT:IsSq q (Shared.heap ⟨hp,g,d,tk,os⟩) l its:=⟨_,hl,rfl,n,rfl⟩
  wp_walk using wpAny_loadPart' hl
  refine wpAny_stack_any λst=>Xu ?_
  split
  .rename_i c _ _ _ _ _
   cases (c == Value.type "enumerate")
   all_goals
    wp_walk using wpAny_loadPart' hl,itG hT
    exact⟨_,rfl,h⟩
  .wp_walk using wpAny_loadPart' hl,itG hT
   exact⟨_,rfl,h⟩
section
variable{prog:Program}{w:World}{A:Around}{E:Yi}{s:Shared}
theorem callEnumT{l:Addr}{its:Array Value}(hL:IsSq q s.heap l its)
  (h:∀ h',IsEnum h' (s⁻¹+1) s⁻¹ 0 .none->IsIt q h' s⁻¹ l 0->h'.objs.size=s⁻¹+2 ->
   (∀b o,s.heap.get? b=some o->h'.get? b=some o)->Q (.ref (s⁻¹+1)) { s with heap:=h' }):Yl prog w A (call (.type "enumerate") [.ref l]) Q E s:=by
 obtain⟨⟨c,dct,dt,sl⟩,hl,hc,n,hd⟩:=hL;replace hc:c=.type (cond q "tuple" "list"):=hc;replace hd:dt=.seq its n:=hd;subst hc hd;refine callType_new F.called_enumerate (by decide) (F.typeCall_enumerate_1 _) (F.newCall_enumerate_1 _) (λobj=>F.args_object_init_2 obj _) F.entry_enumerate_new (ZPh q l its n dct sl) ⟨hl,?_⟩;have hz:(s.heap.push { cls:=.type (nm q),data:=.fields #[.ref l,.int 0 0] }).objs.size=s⁻¹+1:=size_push ..;show _/\_;rw[hz];have he:IsEnum ((s.heap.push { cls:=.type (nm q),data:=.fields #[.ref l,.int 0 0] }).push { cls:=.type "enumerate",data:=.fields #[.none,.bool false,.ref s⁻¹,rawInt 0,.none,.none] }) (s⁻¹+1) s⁻¹ 0 .none:=by
  have e:=get?_push_size (s.heap.push { cls:=.type (nm q),data:=.fields #[.ref l,.int 0 0] }) (o:={ cls:=.type "enumerate",data:=.fields #[.none,.bool false,.ref s⁻¹,rawInt 0,.none,.none] }) rfl;rw[hz] at e;exact e
 exact⟨⟨_,he,rfl⟩,h _ he ⟨_,get?_push_of_some _ (get?_push_size _ rfl),rfl,rfl⟩ (by rw[size_push,hz]) λb o x=>get?_push_of_some _ (get?_push_of_some _ x)⟩
end
end HI
namespace _L
open PySem PySem.Spec PyProof.Rows
def SqG(q:Bool)(K:Frag)(H:Hp)(a:Addr)(xs:List V):Prop:=cond q (SqT K H a xs) (SqL K H a xs)
section
variable{X:Cx}{pq:Yh}{σ:List (Option V)}{H:Hp}{s:Shared}{q:Bool}{a:Addr}{xs ys:List V}
theorem Inv.sq(I:Inv X pq σ H s)(h:SqG q X.K H a xs):∃its:List Value,Zb xs its/\HI.IsSq q s.heap a its.toArray/\xs.length<=sizeLine:=by
 cases q
 .obtain⟨its,r,p,z⟩:=I.list h
  exact⟨its,r,p.isList,z⟩
 .exact I.tuple h
theorem Inv.sq_inj(I:Inv X pq σ H s)(h:SqG q X.K H a xs)(h':SqG q X.K H a ys):xs=ys:=by
 cases q
 .exact I.list_inj h h'
 .exact I.tuple_inj h h'
end
def ZVS(q:Bool)(K:Frag)(a:Addr):It :=
 ⟨λi H=>∃xs x,SqG q K H a xs/\xs[i]? = some x,λi H v H'=>∃p x,v=.ref p/\H p=none/\H'=upd H p (.tup [.int i,x])/\∀xs,SqG q K H a xs->xs[i]? = some x,λi H=>∃xs,SqG q K H a xs/\xs.length<=i⟩
abbrev Ite:=ZVS true
variable{es:List Expr}{k:Nat}{pos:Pos}
theorem ZNX{q:Bool}{P:Program}{w:World}{K:Frag}(a it e:Addr)(hei:e≠it) :
  Turn P w K (.Tuple es k pos) (ZVS q K a) [e,it] e (λi h=>(∃old,IsEnum h e it i old)/\HI.IsIt q h it a i) where
 mem:=by simp
 obj:=λi h st b hb=>by
  obtain⟨⟨old,he⟩,o,ho,c,d⟩:=st;rcases List.mem_cons.mp hb with rfl|hb
  .exact⟨_,he,λv z=>by cases z⟩
  .rw[List.mem_singleton.mp hb]
   exact⟨o,ho,λv z=>by rw[d] at z;cases z⟩
 keep:=λi h h' st kk=>by
  obtain⟨⟨old,he⟩,o,ho,r⟩:=st;exact⟨⟨old,kk e (by simp) _ he⟩,o,kk it (by simp) o ho,r⟩
 item:=by
  intro X hP hw hK hc i pq s σ H E I hf st hg;subst hP hw hK;obtain⟨xs,x,hq,hx⟩:=hg;obtain⟨its,rv,p,hz⟩:=I.sq hq;obtain⟨u,hu,ru⟩:=rv.get hx;obtain⟨f0,f1,f2,f3,f4,f5⟩:=hf e (by simp);obtain⟨g0,g1,g2,g3,g4,g5⟩:=hf it (by simp);obtain⟨⟨old,he⟩,hit⟩:=st;have hilt:i<its.length:=(List.getElem?_eq_some_iff.mp hu).1;have hai:a≠it:=by
   intro z;obtain⟨o,eo,co,_⟩:=p;obtain⟨o2,eo2,co2,_⟩:=hit;rw[z,eo2] at eo;cases eo;rw[co2] at co;cases q <;> exact absurd co (by decide)
  have hae:e≠a:=by
   intro z;obtain⟨o,eo,co,_⟩:=p;rw[<-z,he] at eo;cases eo;have co':Value.type "enumerate" = Value.type (cond q "tuple" "list"):=co;cases q <;> exact absurd co' (by decide)
  refine wpAny_pyNext_enum_itemD (HI.drawsG (q:=q) (prog:=X.prog) (w:=X.w) (A:=X.A.in1) (show X.A.in1.handled=none from I.ok.hd hc) it a hai its.toArray) he ⟨hit,p⟩ (by simpa using hilt) hei (by simp[hei,hae]) λx' h' tk hP ho hs hT hsz hk=>?_
  have ex:x'=u:=by
   have q:its[i]? = some x':=by simpa using hP
   rw[hu] at q;exact(Option.some.inj q).symm
  subst ex;refine⟨_,rfl,?_⟩;refine wpAny_letOwnedTupleGo_enum ho λh2 he2 hs2=>?_
  have nT:H s⁻¹=none:=I.hok.fresh (le_refl _);have heS:e<s⁻¹:=lt_size he;have hiS:it<s⁻¹:=by obtain⟨o,ho,_⟩:=hit;exact lt_size ho
  have hT2:h2.get? s⁻¹=some { cls:=.type "tuple",data:=.seq #[.int i tk,x'] }:=(hs2.2 _ (ne_of_gt heS)).trans hT;have kk:∀b o,b≠e->b≠it->s.heap.get? b=some o->h2.get? b=some o:=λb o h1 h2' q=>(hs2.2 b h1).trans (hk b o h1 h2' q)
  have nit:∀b u,H b=some u->b≠e/\b≠it:=λb u q=>⟨λz=>(by rw[z,f0] at q;cases q),λz=>(by rw[z,g0] at q;cases q)⟩
  have ne1:∀b u,H b=some u->b≠s⁻¹:=λb u q=>ZJ q nT
  have hok:HOk X.prog X.w (upd H s⁻¹ (.tup [.int i,x])) h2:=λb ob q=>by
   by_cases hb:b=s⁻¹
   .subst hb
    rw[Za] at q;cases q;exact⟨by show 2<=sizeLine;decide,[.int i tk,x'],.cons ⟨tk,rfl⟩ (.cons ru .nil),⟨_,hT2,rfl,_,rfl⟩⟩
   .rw[ZG hb] at q
    refine(I.hok b ob q).stay (λc v hc' r=>?_) (λc r=>by rw[ZG (ne1 _ _ r)];exact r) λc ys r=>by rw[ZG (ne1 _ _ r)];exact r
    have nc:c≠e/\c≠it:=by
     rcases hc' with z|z
     .rw[z];exact nit b ob q
     .exact nit c _ z
    exact kk c v nc.1 nc.2 r
  have I2:Inv X pq σ (upd H s⁻¹ (.tup [.int i,x])) { s with heap:=h2,toks:=tk+1 }:=by
   refine I.step (g':=s.gens) (d':=s.drawn) (ch:=[e,it]) (λb hb=>?_) (λb o _ _ hc' q _=>kk b o (λz=>hc' (by simp[z])) (λz=>hc' (by simp[z])) q) (λb o _ _ hc' q _=>⟨o.slots,kk b o (λz=>hc' (by simp[z])) (λz=>hc' (by simp[z])) q⟩)
    (λb o _ q n=>by rw[ZG (ne_of_lt (lt_size q))];exact n) (λb o hc' q=>⟨o,kk b o (λz=>hc' (by simp[z])) (λz=>hc' (by simp[z])) q⟩) (λb ys q=>by rw[ZG (ne1 _ _ q)];exact q) (λb o u q=>by rw[ZG (ne1 _ _ q)];exact q)
    (λb ps q=>⟨#[],by rw[ZG (ne1 _ _ q),q];simp⟩) (λm hm=>?_) hok I.bare
   .rcases List.mem_cons.mp hb with rfl|hb
    .exact⟨f3,f1,f4,f5⟩
    .rw[List.mem_singleton.mp hb]
     exact⟨g3,g1,g4,g5⟩
   .obtain⟨o,es',ep,ho',r⟩:=hm
    exact⟨o,es',ep,kk _ o (Ne.symm f1) (Ne.symm g1) ho',r⟩
  refine⟨.ref s⁻¹,_,I2,rfl,⟨_,x,rfl,nT,rfl,λys hy=>by rw[I.sq_inj hy hq];exact hx⟩,⟨⟨x',by simpa using he2⟩,?_⟩,λb hb=>?_⟩
  .obtain⟨⟨o,eo,r⟩,_⟩:=hs
   exact⟨o,(hs2.2 it (Ne.symm hei)).trans eo,r⟩
  .rcases List.mem_cons.mp hb with rfl|hb
   .rw[ZG (ne_of_lt heS)];exact f0
   .rw[List.mem_singleton.mp hb,ZG (ne_of_lt hiS)];exact g0
 done:=by
  intro X hP hw hK hc i pq s σ H E I hf st hg;subst hP hw hK;obtain⟨xs,hq,hx⟩:=hg;obtain⟨its,rv,p,hz⟩:=I.sq hq;obtain⟨g0,g1,g2,g3,g4,g5⟩:=hf it (by simp);obtain⟨⟨old,he⟩,hit⟩:=st;have hl:=rv.length;exact wpAny_pyNext_enum_endD (HI.drawsG_fin (q:=q) (prog:=X.prog) (w:=X.w) (A:=X.A.in1) (show X.A.in1.handled=none from I.ok.hd hc) it a its.toArray i (by simp;omega)) he ⟨hit,p⟩ λh' eb=>⟨rfl,I.turned (t':=s.toks) (λb o hb e=>eb b o hb e) g0 g1 g3 g4 g5⟩
 self:=λ_ _ _ _ _ st h=>by
  obtain⟨⟨old,he⟩,_⟩:=st;exact wpAny_pyIter_enum he h
section
variable{X:Cx}
def ZVJ(q:Bool)(K:Frag)(ta:TA):TI:=λσ H R=>ta σ H λvs H1=>∃a,vs=[.ref a]/\(∃xs,SqG q K H1 a xs)/\R (ZVS q K a) H1
theorem ZI0{qb:Bool}{tpos:Pos}{a:Expr}{ta:TA}{p:Pos}(hg:Gl X "enumerate")(hm:X.mg "enumerate" = none)(ha:PA X [a] ta)(hs:Yd X a:=by rfl) :
  PI X (.Tuple es k tpos) (.Call (.Name "enumerate" p) [a] [] pos) (ZVJ qb X.K ta):=by
 intro pq s σ H R I h;refine Call_ (ZDr I hg hm boot_enumerate (PyProof.Rows.callWith_type1 (thn (ha pos pq s σ H _ I h) λus s1 ⟨vs,H1,I1,r1,q1⟩=>?_) hs rfl));obtain⟨l,e,⟨xs,hq⟩,q⟩:=q1;subst e;cases r1 with
 |cons r rr =>
  cases rr;cases r;obtain⟨its,rv,pt,hz⟩:=I1.sq hq;refine HI.callEnumT (q:=qb) (show HI.IsSq qb s1.heap l its.toArray from pt) λh' he hit hsz hk=>?_
  have I2:Inv X pq σ H1 { s1 with heap:=h' }:=I1.kept (t':=s1.toks) hk;refine wpAny_pyIter_enum he ⟨s1⁻¹+1,[s1⁻¹+1,s1⁻¹],_,_,H1,rfl,I2,ZNX l s1⁻¹ _ (Nat.succ_ne_self _),⟨⟨_,he⟩,hit⟩,λb hb=>?_,q⟩;have hb':s1⁻¹<=b:=by
   rcases List.mem_cons.mp hb with e|hb
   .rw[e];exact le_succ _
   .rw[List.mem_singleton.mp hb];exact le_refl _
  have F0:=I1.fpOk hb' (I1.hok.fresh hb');exact F0
end
variable{env:Env}
theorem ZSC(ns:List (Str×NameKind))(h:∀x∈ns,x.2=.free->∃c,env.cells.lookup x.1=some c):∀cs:List (Str×Addr),
  ∃ cl:List (Str × Addr),(forIn ns cs λ x r=>do
   let mut cs:=r
   if x.2 == .free then cs:=(x.1,<-cellOf env x.1)::cs
   pure (ForInStep.yield cs):Sem (List (Str×Addr)))=pure cl /\
   (∀x c,cl.lookup x=some c->cs.lookup x=some c\/env.cells.lookup x=some c) /\
   (∀x,(cs.lookup x).isSome=true->(cl.lookup x).isSome=true)/\∀x,(x,NameKind.free)∈ns->(cl.lookup x).isSome=true:=by
 induction ns with
 |nil=>exact λcs=>⟨cs,rfl,λ_ _ e=>.inl e,λ_ e=>e,λ_ z=>nomatch z⟩
 |cons y r ih =>
  intro cs;obtain⟨n,k⟩:=y;have ih:=ih λx hx=>h x (Xo _ hx)
  by_cases hk:k=.free
  .subst hk
   obtain⟨c,hc⟩:=h (n,.free) Xs rfl;obtain⟨cl,e,p1,p2,p3⟩:=ih ((n,c)::cs);refine⟨cl,?_,λx c' q=>?_,λx q=>p2 x ?_,λx q=>?_⟩
   .rw[forIn_cons]
    have hce:cellOf env n=pure c:=by
     unfold cellOf;rw[show env.cells.lookup n=some c from hc]
    simp only[beq_self_eq_true,if_true];rw[hce];exact e
   .rcases p1 x c' q with q|q
    .rw[lookup_cons] at q
     cases hx:x == n with
     |true=>rw[hx] at q;cases q;rw[eq_of_beq hx];exact .inr hc
     |false=>rw[hx] at q;exact .inl q
    .exact .inr q
   .rw[lookup_cons]
    cases hx:x == n with
    |true=>rfl
    |false=>exact q
   .rcases List.mem_cons.mp q with z|z
    .cases z
     exact p2 _ (by rw[lookup_cons];simp)
    .exact p3 x z
  .obtain⟨cl,e,p1,p2,p3⟩:=ih cs
   refine⟨cl,?_,p1,p2,λx q=>?_⟩
   .rw[forIn_cons]
    have hb:(k == NameKind.free)=false:=by simpa using hk
    simp only[hb];exact e
   .rcases List.mem_cons.mp q with z|z
    .cases z;exact absurd rfl hk
    .exact p3 x z
theorem ZDh{scope:Scope}(h:∀x∈scope.names,x.2=.free->∃c,env.cells.lookup x.1=some c) :
  ∃cl:List (Str×Addr),closureFor scope env=pure cl/\(∀x c,cl.lookup x=some c->env.cells.lookup x=some c)/\∀x,(x,NameKind.free)∈scope.names->(cl.lookup x).isSome=true:=by
 obtain ⟨cl,e,p1,_,p3⟩:=ZSC scope.names h [];refine ⟨cl,?_,λ x c q=>(p1 x c q).elim (λ z=>by cases z) id,p3⟩;unfold closureFor;have e2:(forIn scope.names ([]:List (Str × Addr)) λ x r=>do
   let mut cs:=r
   if x.2 == .free then cs:=(x.1,<-cellOf env x.1)::cs
   pure (ForInStep.yield cs):Sem (List (Str×Addr))) >>= (λcs=>pure cs)=pure cl:=by rw[e];rfl
 exact e2
noncomputable abbrev blk(X:Cx)(N:List Str)(env:Env)(s:Shared)(H:Hp)(ex:List Addr):Cx:={ X with N:=N,s₀:=s,H₀:=H,env:=env,outer:=X.stack,stack:=X.stack,ex:=ex,fn:=λ_=>false,pn:=[],xe:=λ_ _=>False }
variable{h1 h2:Heap}{σ':St}{H H':Hp}
section
variable{X:Cx}{pq:Yh}{σ:St}{H:Hp}{s:Shared}{fp:List Addr}{env:Env}{N:List Str}
theorem ZUy(I:Inv X pq σ H s)(hf:∀b∈fp,ZFR X pq H b)(hob:∀b∈fp,∃o,s.heap.get? b=some o)(hC:s⁻¹<=env.locals)(hk:env.scope.kind=.function)(hg:env.globals=X.env.globals)(hb:env.builtins=X.env.builtins)
  (hsub:∀x c,env.cells.lookup x=some c->X.env.cells.lookup x=some c)(hhas:∀x,(env.kindOf x=some .cell\/env.kindOf x=some .free)->∃c,env.cells.lookup x=some c):(blk X N env s H fp).Ok where
 mod:=I.ok.mod
 kind:=hk
 glob:=hg.trans I.ok.glob
 blt:=hb.trans I.ok.blt
 above:=hC
 inj:=λx y c e1 e2=>I.ok.inj x y c (hsub x c e1) (hsub y c e2)
 has:=hhas
 cab:=λ_ _ z=>by cases z
 hd:=I.ok.hd
 frames:=I.ok.frames
 stk:=.inl rfl
 exf:=λb hb'=>by
  obtain⟨o,e⟩:=hob b hb';exact⟨ne_of_lt (lt_of_lt_of_le (lt_size e) hC),λx c q=>(hf b hb').2.2.2.2.1 x c (hsub x c q)⟩
 bs:=I.bs
 bsz:=le_trans I.ok.bsz I.sz
 noex:=λb o e hb'=>by
  rcases(hf b hb').2.2.2.1 with z|z
  .exact I.ok.noex b o e z
  .exact absurd (lt_of_lt_of_le (lt_size e) (le_trans I.ok.bsz z)) (lt_irrefl _)
 exfs:=λb hb' z=>by
  rcases List.mem_cons.mp (I.stkSub b z) with q|q
  .exact(hf b hb').2.1 q
  .exact(hf b hb').2.2.1 q
 funs:=I.stack
 frf:=I.stkFree
theorem ZRi{tk:Nat}{m:Yj}(I:Inv X pq σ H s)(hf:∀b∈fp,ZFR X pq H b)(hob:∀b∈fp,∃o,s.heap.get? b=some o)(hC:s⁻¹<=env.locals)(hk:env.scope.kind=.function)(hg:env.globals=X.env.globals)(hb:env.builtins=X.env.builtins)
  (hsub:∀x c,env.cells.lookup x=some c->X.env.cells.lookup x=some c)(hhas:∀x,(env.kindOf x=some .cell\/env.kindOf x=some .free)->∃c,env.cells.lookup x=some c)
  (keep:∀b u,s.heap.get? b=some u->h1.get? b=some u)(hn:h1.Ns env.locals m)(hlen : σ'.length=N.length)
  (hcap:∀(i:Nat) (x:Str) (v:V),N[i]? = some x->σ'[i]? = some (some v)->(env.kindOf x=some .cell\/env.kindOf x=some .free)/\X.env.kindOf x≠some .local/\Vis X.env.scope x/\∃j:Nat,X.N[j]? = some x/\σ[j]? = some (some v)) :
  Inv (blk X N env s H fp) [] σ' H { s with heap:=h1,toks:=tk } where
 ok:=ZUy I hf hob hC hk hg hb hsub hhas
 os:=rfl
 bare:=I.bare
 base:=Un.kept keep
 loc:=⟨m,hn,λi x v e1 e2 _=>by
  obtain⟨k1,k2,k3,j,e3,e4⟩:=hcap i x v e1 e2;obtain⟨m0,_,hl⟩:=I.loc;obtain⟨u,r,l⟩:=hl j x v e3 e4 k3;refine⟨u,r,?_⟩;rcases l with ⟨z,_⟩|⟨_,c,ec,o,ho,hd⟩
  .exact absurd z k2
  .obtain⟨c',ec'⟩:=hhas x k1
   have ee:c'=c:=by
    have q:=hsub x c' ec';rw[ec] at q;exact(Option.some.inj q).symm
   subst ee;exact .inr ⟨k1,c',ec',o,keep _ _ ho,hd⟩⟩
 cell:=λx c e=>by
  obtain⟨v,o,ho,hd⟩:=I.cell x c (hsub x c e);exact⟨v,o,keep _ _ ho,hd⟩
 free:=I.hok.fresh hC
 freeC:=λx c e=>I.freeC x c (hsub x c e)
 pin:=λp hp=>by cases hp
 hok:=I.hok.kept keep
 len:=hlen
theorem Un.but{fs ex:List Addr}{h:Heap}{C:Addr}(u:Un fs ex H H' h h1)(sb:Heap.SameBut C h1 h2)(hC:h.objs.size<=C):Un fs ex H H' h h2:=by
 have k:∀b o,h.get? b=some o->h2.get? b=h1.get? b:=λb o e=>sb.2 b (ne_of_lt (lt_of_lt_of_le (lt_size e) hC))
 exact⟨λb o e n h3 h4=>(k b o e).trans (u.keep b o e n h3 h4),λb o e n h3 h4=>by
  obtain⟨sl,q⟩:=u.slot b o e n h3 h4;exact⟨sl,(k b o e).trans q⟩,u.free,λb o e h3=>by
  obtain⟨o',q⟩:=u.there b o e h3;exact⟨o',(k b o e).trans q⟩,u.tups,u.frzs,u.tbls⟩
theorem ZRg{s':Shared}(I:Inv X pq σ H s)(hf:∀b∈fp,ZFR X pq H b)(hC:s⁻¹<=env.locals)(J:Inv (blk X N env s H fp) [] σ' H' s')(sb:Heap.SameBut env.locals s'.heap h2):Inv X pq σ H' { s' with heap:=h2 }:=by
 refine I.call' (ch:=fp) J.os (J.base.but sb hC) (λb u e=>?_) J.bare λb hb=>⟨(hf b hb).2.2.2.1,(hf b hb).2.1,(hf b hb).2.2.2.2.1,(hf b hb).2.2.2.2.2⟩
 refine(J.hok b u e).stay (λc v hc q=>(sb.2 c ?_).trans q) (λ_ q=>q) λ_ _ q=>q
 intro z;have n:=J.free;rcases hc with q|q
 .rw[<-q,z] at e
  rw[e] at n;cases n
 .rw[z] at q
  rw[q] at n;cases n
end
def Wk(a b:St):Prop:=a.length=b.length/\∀(i:Nat) (v:V),a[i]? = some (some v)->b[i]? = some (some v)
def PTs(X:Cx)(ifs:List Expr)(t:TT):Prop :=
 ∀(pq:Yh) (s:Shared) (σ : St) (H:Hp) (Q:Bool->Hp->Prop),Inv X pq σ H s->t σ H Q ->
  Yk X (forIn ifs true λc r=>if r=true then do let ok <-isTrue c X.env (eval c X.env);pure (ForInStep.yield ok) else pure (ForInStep.yield r)) (TP X pq σ Q) X.xe s
def tYes:TT:=λ_ H Q=>Q true H
variable{X:Cx}
theorem ZSk:PTs X [] tYes:=λ_ _ _ H _ I h=>wpAny_tests_nil ⟨H,I,h⟩
theorem ZTD{c:Expr}{t:TT}(h:PT X c t):PTs X [c] t:=λpq s σ H Q I hw=>wpAny_tests_one (h pq s σ H Q I hw)
def ZNE(J:It)(g:TG)(tt:TT)(te:TE)(σ0:St)(D:Addr)(Q:VK)(H1:Hp):Prop :=
 ∃W:Nat->Nat->List V->Hp->Prop,(∃m,W 0 m [] H1)/\∀i m acc H,W i m acc H ->
  (J.stop i H/\Q (.ref D) H) \/ (J.go i H/\∃ N:List V->Hp->Prop,(∀ acc' H',N acc' H'->∃ m',m' < m/\W (i+1) m' acc' H') /\
   ∀x H',J.yld i H x H'->g x σ0 H' λσ2 H2=>Wk σ0 σ2/\tt σ2 H2 λb H3=>if b=true then te σ2 H3 λy H4=>H4 D=some (.lst acc)/\acc.length<sizeLine/\N (acc++[y]) (upd H4 D (.lst (acc++[y]))) else N acc H3)
variable{scope:Scope}{Q:VK}
theorem ZOE{Y:Cx}{tg elt iter:Expr}{ifs:List Expr}{it D:Addr}{J:It}{fp:List Addr}{tn:Nat->Heap->Prop}{g:TG}{tt:TT}{te:TE}{σ0:St}{R:Result->Shared->Prop}{s:Shared}
  (hc:Y.calm=true)(T:Turn Y.prog Y.w Y.K tg J fp it tn)(hfp:∀H,(∀b∈fp,H b=none)->∀b∈fp,ZFR Y [] H b)(hg:PG Y tg g)(ht:PTs Y ifs tt)(he:PE Y elt te)(hxe:∀e s,¬Y.xe e s)
  (hR:∀H' s',Inv Y [] σ0 H' s'->Q (.ref D) H'->R (.ok .next) s')(I:Inv Y [] σ0 H s)(st:tn 0 s.heap)(fr:∀b∈fp,H b=none)(hw:ZNE J g tt te σ0 D Q H) :
  codeAny (model Y.prog Y.w) Y.A (.compLoop (.ListComp elt [⟨tg,iter,ifs,0⟩] scope pos) 0 (.ref it) (.ref D) Y.env) R s:=by
 obtain⟨W,⟨m0,w0⟩,turn⟩:=hw;refine codeAny_loop rfl (λn s'=>∃i H' acc,Inv Y [] σ0 H' s'/\tn i s'.heap/\(∀b∈fp,H' b=none)/\W i n acc H') ?_ m0 ⟨0,H,[],I,st,fr,w0⟩
 rintro n s3 ⟨i,H3,acc,I3,st3,fr3,w3⟩
 show wpAny _ Y.A ((compTurn (.ListComp elt [⟨tg,iter,ifs,0⟩] scope pos) 0 (.ref it) (.ref D) Y.env).onRaise (λx=>do noteFrame x Y.env;theTreesLotGoes x)) _ _ s3;refine wpAny_noted ?_;rw[compTurn_list];refine Xb (wpAny_standAt (Xb ?_));rcases turn i n acc H3 w3 with ⟨stop,qn⟩|⟨go,N,hN,step⟩
 .refine thn (T.done Y rfl rfl rfl hc i [] s3 σ0 H3 _ I3 (hfp H3 fr3) st3 stop) λr s4 ⟨hr,I4⟩=>?_
  subst hr;exact Xu (hR H3 s4 I4 qn)
 .refine thn (T.item Y rfl rfl rfl hc i [] s3 σ0 H3 _ I3 (hfp H3 fr3) st3 go) λr s4 ⟨u,hr,h4⟩=>?_
  subst hr;refine Xb (thn h4 λ_ s5 ⟨x,H5,I5,r5,y5,st5,fr5⟩=>?_);have I5':Inv Y (ZEu fp s5.heap) σ0 H5 s5:=by
   have q:=I5.pinned (hfp H5 fr5) (T.obj _ _ st5)
   rwa [nil_append] at q
  have again:∀{σ7:St} {H7:Hp} {acc7:List V} {s7:Shared},Inv Y (ZEu fp s5.heap) σ7 H7 s7->Wk σ0 σ7->N acc7 H7->∃m,m<n/\∃i H' acc,Inv Y [] σ0 H' s7/\tn i s7.heap/\(∀b∈fp,H' b=none)/\W i m acc H':=λ{σ7 H7 acc7 s7} I7 wk n7=>by
   obtain⟨m',hm,w7⟩:=hN acc7 H7 n7;have I8:Inv Y [] σ0 H7 s7:=(I7.weak wk.1 wk.2).pins_of λp hp=>nomatch hp
   refine⟨m',hm,i+1,H7,acc7,I8,T.keep _ _ _ st5 λb hb o e=>(I7.pin (b,o) (mem_append_right _ (ZCW hb e))).1,λb hb=>?_,w7⟩;obtain⟨o,e,d⟩:=T.obj _ _ st5 b hb;exact(I7.pin (b,o) (mem_append_right _ (ZCW hb e))).2.1
  refine Xb (wpAny_mono (hg _ s5 σ0 H5 x u _ I5' r5 (step x H5 y5)) (λ_ s6 ⟨σ6,H6,I6,wk,q6⟩=>?_) λ_ _ z=>(hxe _ _ z).elim);refine Xb (wpAny_mono (ht _ s6 σ6 H6 _ I6 q6) (λok s7 ⟨H7,I7,q7⟩=>?_) λ_ _ z=>(hxe _ _ z).elim);cases ok with
  |false=>exact Xu ⟨rfl,again I7 wk q7⟩
  |true =>
   refine Xb (Xb (wpAny_mono (he _ s7 σ6 H7 _ I7 q7) (λy s8 ⟨v,H8,I8,r8,hD,hz,q8⟩=>?_) λ_ _ z=>(hxe _ _ z).elim));refine Xb (wpAny_mono (ZHe _ s8 σ6 H8 (.ref D) [v] (.ref D) [y] (λ_ H9=>N (acc++[v]) H9) I8 rfl (.cons r8 .nil) ⟨D,acc,v,rfl,rfl,hD,hz,q8⟩) (λ_ s9 ⟨_,H9,I9,_,q9⟩=>?_) λ_ _ z=>(hxe _ _ z).elim);exact Xu (Xu ⟨rfl,again I9 wk q9⟩)
noncomputable def ZHI(sc scope:Scope)(NX N:List Str)(own:Nat)(cap:List Nat):Bool :=
 (scope.kind == .function) && scope.names.all (λy=>y.2 != .cell && (y.2 != .local || scope.names.lookup y.1 == some .local) && (y.2 != .free || sc.names.lookup y.1 == some .cell || sc.names.lookup y.1 == some .free)) &&
 (N.length == own+cap.length) && ((N.drop own).zip cap).all (λp=>NX[p.2]? == some p.1 && scope.names.lookup p.1 == some .free && (sc.names.lookup p.1 == some .cell || sc.names.lookup p.1 == some .free))
structure CapOk (sc scope:Scope) (NX N:List Str) (own:Nat) (cap:List Nat):Prop where
 kind:scope.kind=.function
 nocell:∀y∈scope.names,y.2≠.cell
 names:∀y∈scope.names,y.2=.local->scope.names.lookup y.1=some .local
 free:∀y∈scope.names,y.2=.free->sc.names.lookup y.1=some .cell\/sc.names.lookup y.1=some .free
 len:N.length=own+cap.length
 caps:∀p∈(N.drop own).zip cap,NX[p.2]? = some p.1/\scope.names.lookup p.1=some .free/\(sc.names.lookup p.1=some .cell\/sc.names.lookup p.1=some .free)
theorem ZJX{sc:Scope}{NX N:List Str}{own:Nat}{cap:List Nat}(h:ZHI sc scope NX N own cap=true):CapOk sc scope NX N own cap:=by
 unfold ZHI at h;simp only[Bool.and_eq_true,all_eq_true,Bool.or_eq_true,beq_iff_eq,bne_iff_ne,ne_eq] at h;obtain⟨⟨⟨h1,h2⟩,h3⟩,h4⟩:=h;refine⟨h1,λy hy=>(h2 y hy).1.1,λy hy e=>?_,λy hy e=>?_,h3,λp hp=>?_⟩
 .rcases(h2 y hy).1.2 with z|z
  .exact absurd e z
  .exact z
 .rcases(h2 y hy).2 with (z|z)|z
  .exact absurd e z
  .exact .inl z
  .exact .inr z
 .obtain⟨⟨a,b⟩,c⟩:=h4 p hp
  exact⟨a,b,c⟩
noncomputable def ZGm(own:Nat)(cap:List Nat)(σ : St):St:=List.replicate own none++cap.map λj=>(σ[j]?).join
theorem ZDI{env:Env}:∀{names:List (Str×NameKind)} {x:Str} {k:NameKind},(names.map λ(n,k)=>if (k == NameKind.free && env.scope.kind == .function && env.kindOf n == some .cell) then (n,NameKind.cell) else (n,k)).lookup x=some k ->
  ∃k0,names.lookup x=some k0/\(k=k0\/(k0=.free/\k=.cell))
 |[],_,_,h=>by simp at h
 |(n,k0)::r,x,k,h=>by
  have h':List.lookup x ((if (k0 == NameKind.free && env.scope.kind == .function && env.kindOf n == some .cell)=true then (n,NameKind.cell) else (n,k0))::(r.map λ(n,k)=>if (k == NameKind.free && env.scope.kind == .function && env.kindOf n == some .cell) then (n,NameKind.cell) else (n,k)))=some k:=h;cases hx:x == n with
  |true =>
   by_cases hc:(k0 == NameKind.free && env.scope.kind == .function && env.kindOf n == some .cell)=true
   .rw[Xp hc,lookup_cons,hx] at h'
    cases h';rw[Bool.and_eq_true,Bool.and_eq_true] at hc;exact⟨k0,by rw[lookup_cons,hx],.inr ⟨by simpa using hc.1.1,rfl⟩⟩
   .rw[Xn hc,lookup_cons,hx] at h'
    cases h';exact⟨k0,by rw[lookup_cons,hx],.inl rfl⟩
  |false =>
   have h2:(r.map λ(n,k)=>if (k == NameKind.free && env.scope.kind == .function && env.kindOf n == some .cell) then (n,NameKind.cell) else (n,k)).lookup x=some k:=by
    by_cases hc:(k0 == NameKind.free && env.scope.kind == .function && env.kindOf n == some .cell)=true
    .rw[Xp hc,lookup_cons,hx] at h';exact h'
    .rw[Xn hc,lookup_cons,hx] at h';exact h'
   obtain⟨k1,e1,r1⟩:=ZDI h2;exact⟨k1,by rw[lookup_cons,hx];exact e1,r1⟩
theorem ZBV{env:Env}:∀{names:List (Str×NameKind)} {x:Str},names.lookup x=some .free ->
  (names.map λ(n,k)=>if (k == NameKind.free && env.scope.kind == .function && env.kindOf n == some .cell) then (n,NameKind.cell) else (n,k)).lookup x=some .cell\/(names.map λ(n,k)=>if (k == NameKind.free && env.scope.kind == .function && env.kindOf n == some .cell) then (n,NameKind.cell) else (n,k)).lookup x=some .free
 |[],_,h=>by simp at h
 |(n,k0)::r,x,h=>by
  show List.lookup x ((if (k0 == NameKind.free && env.scope.kind == .function && env.kindOf n == some .cell)=true then (n,NameKind.cell) else (n,k0))::_)=_\/List.lookup x ((if (k0 == NameKind.free && env.scope.kind == .function && env.kindOf n == some .cell)=true then (n,NameKind.cell) else (n,k0))::_)=_;rw[lookup_cons] at h;cases hx:x == n with
  |true =>
   rw[hx] at h;cases h
   by_cases hc:(NameKind.free == NameKind.free && env.scope.kind == .function && env.kindOf n == some .cell)=true
   .rw[Xp hc,lookup_cons,hx];exact .inl rfl
   .rw[Xn hc,lookup_cons,hx];exact .inr rfl
  |false =>
   rw[hx] at h;have ih:=ZBV (env:=env) h
   by_cases hc:(k0 == NameKind.free && env.scope.kind == .function && env.kindOf n == some .cell)=true
   .rw[Xp hc,lookup_cons,hx];exact ih
   .rw[Xn hc,lookup_cons,hx];exact ih
def ZQ4(own:Nat)(cap:List Nat)(wi:TI)(g:TG)(tt:TT)(te:TE):TE:=λσ H Q=>wi σ H λJ H1=>∀D,H1 D=none->ZNE J g tt te (ZGm own cap σ) D Q (upd H1 D (.lst []))
section
variable{X:Cx}{tg elt iter:Expr}{ifs:List Expr}{scope sc:Scope}{pos:Pos}{wi:TI}{g:TG}{tt:TT}{te:TE}{N NX:List Str}{own:Nat}{cap:List Nat}
theorem ZGk{pq:Yh}{σ:St}{s2:Shared}{itv:Value}{E:Yi}{R:Value->Addr->Result->Shared->Prop}{cl:List (Str×Addr)}(hc:X.calm=true)(hsc:X.env.scope=sc)(hNX:X.N=NX)(co:CapOk sc scope NX N own cap)
  (hsub:∀x c,cl.lookup x=some c->X.env.cells.lookup x=some c)(hall:∀x,(x,NameKind.free)∈scope.names->(cl.lookup x).isSome=true)
  (hb:∀cl C s0 H0 fp,PG (blk X N (compEnvC scope cl C X.env) s0 H0 fp) tg g/\PTs (blk X N (compEnvC scope cl C X.env) s0 H0 fp) ifs tt/\PE (blk X N (compEnvC scope cl C X.env) s0 H0 fp) elt te)
  (h2:PIE X pq σ tg (λJ H1=>∀D,H1 D=none->ZNE J g tt te (ZGm own cap σ) D Q (upd H1 D (.lst []))) itv s2)
  (hR:∀D C H' s',ZFR X pq H' C->(∃m,s'.heap.Ns C m)->(∀h',Heap.SameBut C s'.heap h'->Inv X pq σ H' { s' with heap:=h' })->Q (.ref D) H'->R (.ref D) C (.ok .next) s') :
  Yk X (newList []) (λ acc s3=>Yk X (newFunctionEnv scope X.env.globals cl [] X.env.qual none .none (some X.env)) (λ cenv s4 =>
   codeAny (model X.prog X.w) X.A (.compStart (.ListComp elt [⟨tg,iter,ifs,0⟩] scope pos) 0 itv acc { cenv with scope:=relabel scope X.env }) (R acc cenv.locals) s4) E s3) E s2:=by
 obtain⟨it,fp,tn,J,H2,rfl,I2,T,st2,f2,hloop⟩:=h2;refine wpAny_newObj_type (wpAny_newFunctionEnv co.nocell (by intro y hy;simp at hy) (λh1 hns hsb=>?_) co.kind);have fD:H2 s2⁻¹=none:=I2.hok.fresh (le_refl _);have I3:Inv X pq σ (upd H2 s2⁻¹ (.lst [])) { s2 with heap:=s2.heap.push { cls:=.type "list",data:=.seq ([]:List Value).toArray } }:=I2.laid (t':=s2.toks) (λb u e=>get?_push_of_some _ e) (le_refl _) ⟨zero_le _,[],0,.nil,get?_push_size _ rfl⟩;have hq:=hloop s2⁻¹ fD
 generalize hHD:s2⁻¹=D at *
 generalize hs3:s2.heap.push { cls:=.type "list",data:=.seq ([]:List Value).toArray }=h3 at *
 dsimp only at hns hsb ⊢;have hsz:h3.objs.size=D+1:=by rw[<-hs3,size_push,hHD]
 have ob2:∀b∈fp,∃o,s2.heap.get? b=some o:=λb hb'=>let ⟨o,e,_⟩:=T.obj _ _ st2 b hb';⟨o,e⟩
 have k23:∀b o,s2.heap.get? b=some o->h3.get? b=some o:=λb o e=>by rw[<-hs3];exact get?_push_of_some _ e
 have k34:∀b o,h3.get? b=some o->h1.get? b=some o:=λb o e=>(hsb.2 b (ne_of_lt (lt_size e))).trans (get?_push_of_some _ e)
 have f3:∀b∈fp,ZFR X pq (upd H2 D (.lst [])) b:=λb hb'=>by
  obtain⟨o,e⟩:=ob2 b hb';exact⟨by rw[ZG (ne_of_lt (by rw[<-hHD];exact lt_size e))];exact(f2 b hb').1,(f2 b hb').2⟩
 have ob3:∀b∈fp,∃o,h3.get? b=some o:=λb hb'=>let ⟨o,e⟩:=ob2 b hb';⟨o,k23 b o e⟩
 have hhas:∀x,((compEnvC scope cl h3.objs.size X.env).kindOf x=some .cell\/(compEnvC scope cl h3.objs.size X.env).kindOf x=some .free)->∃c,(compEnvC scope cl h3.objs.size X.env).cells.lookup x=some c:=λx hx=>by
  have q:∃k,(k=NameKind.cell\/k=NameKind.free)/\(relabel scope X.env).names.lookup x=some k:=by
   rcases hx with z|z
   .exact⟨_,.inl rfl,z⟩
   .exact⟨_,.inr rfl,z⟩
  obtain⟨k,hk,e⟩:=q;obtain⟨k0,e0,r0⟩:=ZDI e;have hm:=PySem.mem_of_lookup e0;have hf0:k0=.free:=by
   rcases r0 with z|z
   .rcases hk with y|y
    .exact absurd (z.symm.trans y) (co.nocell _ hm)
    .exact z.symm.trans y
   .exact z.1
  subst hf0;have:=hall x hm;exact Option.isSome_iff_exists.mp this
 have hcap:∀(i:Nat) (x:Str) (v:V),N[i]? = some x->(ZGm own cap σ)[i]? = some (some v)->((compEnvC scope cl h3.objs.size X.env).kindOf x=some .cell\/(compEnvC scope cl h3.objs.size X.env).kindOf x=some .free)/\X.env.kindOf x≠some .local/\Vis X.env.scope x/\∃j:Nat,X.N[j]? = some x/\σ[j]? = some (some v):=λi x v e1 e2=>by
  unfold ZGm at e2
  by_cases hi:i<own
  .rw[getElem?_append_left (by simpa using hi),getElem?_replicate] at e2
   split at e2 <;> cases e2
  .rw[getElem?_append_right (by simpa using hi),length_replicate,getElem?_map] at e2
   cases ej:cap[i-own]? with
   |none=>rw[ej] at e2;cases e2
   |some j =>
    rw[ej] at e2;have e3:(σ[j]?).join=some v:=Option.some.inj e2;have hd:(N.drop own)[i-own]? = some x:=by rw[List.getElem?_drop,show own+(i-own)=i by omega];exact e1
    have hz:(x,j)∈(N.drop own).zip cap:=mem_of_getElem? (i:=i-own) (by rw[List.getElem?_zip_eq_some];exact⟨hd,ej⟩);obtain⟨c1,c2,c3⟩:=co.caps (x,j) hz;have c3':X.env.kindOf x=some .cell\/X.env.kindOf x=some .free:=by unfold Env.kindOf;rw[hsc];exact c3
    refine⟨ZBV c2,λz=>?_,?_,j,by rw[hNX];exact c1,?_⟩
    .rcases c3' with y|y <;> (rw[y] at z;cases z)
    .rcases c3' with y|y
     .exact .inr (.inl y)
     .exact .inr (.inr y)
    .cases es : σ[j]? with
     |none=>rw[es] at e3;cases e3
     |some w=>rw[es] at e3;exact congrArg some e3
 have I4:Inv (blk X N (compEnvC scope cl h3.objs.size X.env) { s2 with heap:=h3 } (upd H2 D (.lst [])) fp) [] (ZGm own cap σ) (upd H2 D (.lst [])) { s2 with heap:=h1,toks:=s2.toks+([]:List (Str×Value)).length } :=
  ZRi I3 f3 ob3 (le_refl _) co.kind rfl rfl hsub hhas k34 hns (by unfold ZGm;rw[Xa,length_replicate,Xm,co.len]) hcap
 obtain⟨hg,ht,he⟩:=hb cl h3.objs.size { s2 with heap:=h3 } (upd H2 D (.lst [])) fp;have loop:codeAny (model X.prog X.w) X.A (.compLoop (.ListComp elt [⟨tg,iter,ifs,0⟩] scope pos) 0 (.ref it) (.ref D) (compEnvC scope cl h3.objs.size X.env)) (R (.ref D) h3.objs.size) { s2 with heap:=h1,toks:=s2.toks+([]:List (Str×Value)).length }:=by
  refine ZOE (Y:=blk X N (compEnvC scope cl h3.objs.size X.env) { s2 with heap:=h3 } (upd H2 D (.lst [])) fp) (Q:=Q) hc T (λH0 fr b hb'=>?_) hg ht he (λ_ _ z=>z) (λH' s' J' q=>?_) I4 (T.keep _ _ _ st2 λb _ o e=>k34 b o (k23 b o e)) (λb hb'=>(f3 b hb').1) hq
  .obtain⟨o,e⟩:=ob3 b hb'
   exact⟨fr b hb',ne_of_lt (lt_size e),λz=>(List.mem_cons.mp (I3.stkSub b z)).elim (f3 b hb').2.1 (f3 b hb').2.2.1,.inl hb',λx c ec=>(f3 b hb').2.2.2.2.1 x c (hsub x c ec),λp hp=>nomatch hp⟩
  .exact hR D h3.objs.size H' s' (I3.fpOk (le_refl _) J'.free) (let ⟨m,hm,_⟩:=J'.loc;⟨m,hm⟩) (λh' sb=>ZRg (env:=compEnvC scope cl h3.objs.size X.env) I3 f3 (le_refl _) J' sb) q
 exact codeAny_compStart_list loop (T.self _ 0 _ _ _ (T.keep _ _ _ st2 λb _ o e=>k34 b o (k23 b o e)) loop)
theorem ZSD(hc:X.calm=true)(hi:PI X tg iter wi)(hsc:X.env.scope=sc)(hNX:X.N=NX)
  (hb:∀cl C s0 H0 fp,PG (blk X N (compEnvC scope cl C X.env) s0 H0 fp) tg g/\PTs (blk X N (compEnvC scope cl C X.env) s0 H0 fp) ifs tt/\PE (blk X N (compEnvC scope cl C X.env) s0 H0 fp) elt te)
  (co:ZHI sc scope NX N own cap=true)(hs:∀x,foldedSetIterable iter X.env x=pure x:=by intro _;rfl):PE X (.ListComp elt [⟨tg,iter,ifs,0⟩] scope pos) (ZQ4 own cap wi g tt te):=by
 intro pq s σ H Q I h;have co:=ZJX co;obtain⟨cl,hcl,hsub,hall⟩:=ZDh (env:=X.env) (scope:=scope) λy hy e=>I.ok.has y.1 (by unfold Env.kindOf;rw[hsc];exact co.free y hy e)
 rw[eval_ListComp];refine wpAny_comprehension_free (use:=none) rfl hs hcl co.kind co.names (thn (hi pq s σ H _ I h) λv s1 h1=>thn h1 λitv s2 h2=>?_);refine ZGk (Q:=Q) (R:=λacc C=>compPost (model X.prog X.w) X.A X.xe none (EP X pq σ Q) acc C) hc hsc hNX co hsub hall hb h2 λD C H' s' _ ⟨m,hm⟩ hi' q=>?_
 exact⟨m,hm,λh' sb=>⟨.ref D,H',hi' h' sb,rfl,q⟩⟩
theorem ZR8{i:Nat}{x:Str}{py spos:Pos}(hN:X.N.Nodup)(hi:X.N[i]? = some x)(hx:Loc X.env.scope x)(hc:X.calm=true)(hit:PI X tg iter wi)(hsc:X.env.scope=sc)(hNX:X.N=NX)
  (hb:∀cl C s0 H0 fp,PG (blk X N (compEnvC scope cl C X.env) s0 H0 fp) tg g/\PTs (blk X N (compEnvC scope cl C X.env) s0 H0 fp) ifs tt/\PE (blk X N (compEnvC scope cl C X.env) s0 H0 fp) elt te)
  (co:ZHI sc scope NX N own cap=true)(hsw:swapsWith (.ListComp elt [⟨tg,iter,ifs,0⟩] scope pos) (some (.Name x py)) spos.line X.env=pure true:=by rfl)(hs:∀x,foldedSetIterable iter X.env x=pure x:=by intro _;rfl)
  (hf:Ye X x:=by first|exact .inl rfl|exact .inr rfl|assumption) :
  PS X (.Assign [.Name x py] (.ListComp elt [⟨tg,iter,ifs,0⟩] scope pos) spos) (ZUJ (ZQ4 own cap wi g tt te) (ZJU i)):=by
 intro pq s σ H D I h;have co:=ZJX co;obtain⟨cl,hcl,hsub,hall⟩:=ZDh (env:=X.env) (scope:=scope) λy hy e=>I.ok.has y.1 (by unfold Env.kindOf;rw[hsc];exact co.free y hy e)
 rw[exec_Assign_Name_used _ _ _ _ hsw];refine Xb (wpAny_standAt (Xb ?_));show Yk X (comprehension (.ListComp elt [⟨tg,iter,ifs,0⟩] scope pos) scope X.env _ (newList []) false (eval iter X.env) (some (assign (.Name x py) X.env)) >>= λ_=>pure ()) _ _ s;refine Xb (thn (wpAny_comprehension_free (use:=some (assign (.Name x py) X.env)) (Q:=λ_ s'=>SP X pq D .next s') rfl hs hcl co.kind co.names (thn (hit pq s σ H _ I h) λv s1 h1=>thn h1 λitv s2 h2=>?_)) λ_ s' q=>Xu (Xu q));refine ZGk (Q:=λv H1=>ZJU i v σ H1 D.nx) (R:=λacc C=>compPost (model X.prog X.w) X.A X.xe (some (assign (.Name x py) X.env)) (λ_ s'=>SP X pq D .next s') acc C) hc hsc hNX co hsub hall hb h2 λDa C H' s' fC ⟨m,hm⟩ hi' q=>?_
 have I1:Inv X pq σ H' s':=hi' s'.heap (Heap.SameBut.refl ..);show wpAny _ _ (assign (.Name x py) X.env (.ref Da)) _ _ s';refine wpAny_assign_Name (ZHT I1 hN hi hx (v:=.ref Da) rfl (λs3 I3 ⟨a,sb,ha⟩=>?_) hf);obtain⟨f0,f1,f2,f3,f4,f5⟩:=fC;have nC:C≠a:=by
  rcases ha with z|z
  .rw[z];exact f1
  .exact Ne.symm (f4 _ _ z)
 exact⟨m,hm.sameBut sb nC,λh' sb2=>⟨_,H',I3.turned (t':=s3.toks) (λb o hb' e=>(sb2.2 b hb').trans e) f0 f1 f3 f4 f5,q⟩⟩
end
section
variable{X:Cx}
theorem ZPs(hc:X.calm=true):Zi X (.builtin "all") (λxs H Q=>∃(p:Addr) (bs:List Bool),xs=[.ref p]/\SqL X.K H p (bs.map V.bl)/\Q (.bl (bs.all id)) H):=by
 intro pq s σ H xs us Q I r h;obtain⟨p,bs,rfl,hq,q⟩:=h;obtain⟨u,rfl,ru⟩:=ZBt r;cases ru;obtain⟨its,rv,pl,hz⟩:=I.list hq;have hlen:=rv.length;rw[Xm] at hlen;have hpl:p<s⁻¹:=by
  obtain⟨o,n,e,_⟩:=pl;exact lt_size e
 refine call_all_walk (wpAny_pyIter_list pl.isList ⟨s⁻¹,_,_,_,_,_,λi=>bs.getD i false,rfl,Walks.list (A:=X.A.in1) (show X.A.in1.handled=none from I.ok.hd hc) s⁻¹ p (ne_of_lt hpl) its.toArray,?_,?_,λh' tk k=>?_⟩)
 .exact⟨⟨_,get?_push_size _ rfl,rfl,rfl⟩,pl.isList.at λo e=>get?_push_of_some _ e⟩
 .intro i v s' Q' E' hv hQ
  have hv':its[i]? = some v:=by simpa using hv
  have hi:i<bs.length:=by rw[hlen];exact(List.getElem?_eq_some_iff.mp hv').1
  obtain⟨u,hu,ru⟩:=rv.get (i:=i) (x:=V.bl bs[i]) (by simp[hi]);rw[hv'] at hu;cases hu;cases ru;have e:bs.getD i false=bs[i]:=by simp[List.getD,hi]
  dsimp only at hQ;rw[e] at hQ;exact wpAny_truthy_bool hQ
 .have e:((List.range its.toArray.size).all λi=>bs.getD i false)=bs.all id:=by
   rw[Bool.eq_iff_iff,all_eq_true,all_eq_true];constructor
   .intro z b hb
    obtain⟨i,hi,rfl⟩:=List.mem_iff_getElem.mp hb;have:=z i (by simp[<-hlen,hi]);simpa [List.getD,hi] using this
   .intro z i hi
    have hi':i<bs.length:=by simpa [<-hlen] using hi
    have:=z bs[i] (getElem_mem hi');simpa [List.getD,hi'] using this
  rw[e];exact⟨.bl (bs.all id),H,I.kept λb o q=>k b o (by simp;exact ne_of_lt (lt_size q)) (get?_push_of_some _ q),rfl,q⟩
end
section
variable{X:Cx}
theorem ZKc:Zi X (.type "range") (λxs H Q=>∃j,xs=[.int j]/\∀p,H p=none->Q (.ref p) (upd H p (.rng 0 j))):=by
 intro pq s σ H xs us Q I r h;obtain⟨j,rfl,q⟩:=h;obtain⟨u,rfl,ru⟩:=ZBt r;obtain⟨t,rfl⟩:=ru;refine call_range_1 ⟨.ref s⁻¹,_,I.laid (t':=s.toks+1+1) (λb o e=>get?_push_of_some _ e) (le_refl _) (o:=.rng 0 j) ?_,rfl,q _ (I.hok.fresh (le_refl _))⟩;exact⟨_,_,_,get?_push_size _ rfl⟩
noncomputable def ZId(n:Nat):List V:=(List.range n).map λ(i:Nat)=>V.int (i:Int)
theorem ZJ7:∀{ns:List Int} {ys:List Value},CarriedAll ys (ns.map PyData.int)->Zb (ns.map V.int) ys
 |[],_,h=>by cases h;exact .nil
 |n::r,_,h=>by
  cases h with
  |cons a b =>
   cases a;exact .cons ⟨_,rfl⟩ (ZJ7 b)
end
end _L
namespace _L
open PySem PySem.Spec PyProof.Rows H1
noncomputable def ZP(w:Int×Int):PyData:=.tuple [.int w.1,.int w.2]
def ZZ(ws:List (Int×Int)):PyData:=.tuple (ws.map ZP)
def ZMU(n:Nat×(Int×Int)):PyData:=.tuple [.int (n.1:Int),ZP n.2]
def ZIY(ns:List (Nat×(Int×Int))):PyData:=.tuple (ns.map ZMU)
def gtW(a b:Int×Int):Bool:=HT.lexGt [a.1,a.2] [b.1,b.2]
theorem ZAD{a b:Int×Int}:gtW a b=true ↔ b.1<a.1\/(a.1=b.1/\b.2<a.2):=by
 have e:gtW a b=if a.1=b.1 then (if a.2=b.2 then false else decide (b.2<a.2)) else decide (b.1<a.1):=rfl
 rw[e]
 split
 .split
  .constructor
   .intro z;cases z
   .intro z;omega
  .rw[decide_eq_true_iff];omega
 .rw[decide_eq_true_iff];omega
end _L
namespace HI
open PySem PyProof.Rows
def ZBH(h:Heap)(z TI TO:Addr)(f0 f1:Value):Prop:=h.get? z=some { cls:=.type "zip",data:=.fields #[f0,f1,.bool false,.ref TI,.ref TO] }
variable{z i1 i2 l1 l2:Addr}{k1 k2 T i:Nat}{xs ys:Array Value}{x a b f0:Value}{o:Obj}{Q:Option Value->Shared->Prop}
section
variable{prog:Program}{w:World}{A:Around}{E:Yi}{s:Shared}{q qq:Bool}
theorem ZOx{TI TO:Addr}{y f1:Value}{Q:Yi}(ap:ZipApart z TI TO i1 i2 l1 l2)(hz:ZBH s.heap z TI TO f0 f1)(hfree:∀Q:Bool->Shared->Prop,Q true s->Yl prog w A (Builtin.SmallTypes.ownedTupleIsFree (.ref z)) Q E s)(hTI:IsPair s.heap TI (.ref i1) (.ref i2))(hTO:IsPair s.heap TO a b)
  (h1:IsIt q s.heap i1 l1 k1)(h2:IsIt qq s.heap i2 l2 k2)(hl1:IsSq q s.heap l1 xs)(hl2:IsSq qq s.heap l2 ys)(hx:xs[k1]? = some x)(hy:ys[k2]? = some y)
  (k:∀ h',ZBH h' z TI TO (rawInt s⁻¹) (.bool false)->IsPair h' TO x y->IsIt q h' i1 l1 (k1+1)->IsIt qq h' i2 l2 (k2+1)->IsPair h' s⁻¹ x y->h'.objs.size=s⁻¹+1 ->
   (∀c o,c≠z->c≠TO->c≠i1->c≠i2->s.heap.get? c=some o->h'.get? c=some o)->Q (.ref s⁻¹) { s with heap:=h' }) :
  Yl prog w A (Builtin.«zip.__next__» ⟨[.ref z],[]⟩) (λfin s'=>∃v,fin=.done (.ret v)/\Q v s') E s:=by
 unfold Builtin.«zip.__next__»;refine Xb (m:=slotArgs "__next__" 0 ⟨[.ref z],[]⟩) (wpAny_of_eq (a:=(Value.ref z,[])) (by rfl) ?_);refine Xb (m:=field (.ref z) 2) (wpAny_field hz rfl (x:=.bool false) rfl ?_);refine Xb (m:=field (.ref z) 3) (wpAny_field hz rfl (x:=.ref TI) rfl ?_);refine Xb (m:=seqItems? (.ref TI)) (wpAny_seqItems hTI rfl ?_);dsimp only;rw[Xn (by intro z;cases z)];refine Xb (m:=Builtin.SmallTypes.ownedTupleIsFree (.ref z)) (hfree _ ?_);rw[Xp rfl];refine Xb (wpAny_rule ?_);refine Xb (m:=field (.ref z) 4) (wpAny_field hz rfl (x:=.ref TO) rfl ?_);dsimp only;refine Xb (wpAny_setField hz rfl (by simp) ?_);have nz:=ap;obtain⟨TIz,TOz,i1z,i2z,TITO,TIi1,TIi2,TOi1,TOi2,i12,l1z,l1TO,l1i1,l1i2,l2z,l2TO,l2i1,l2i2⟩:=nz;have sA:=Heap.SameBut.update (h:=s.heap) z (Obj.mapFields λ(x:Array Value)=>x.setIfInBounds 0 Value.ellipsis);have zA:ZBH (s.heap.update z (Obj.mapFields λ(x:Array Value)=>x.setIfInBounds 0 Value.ellipsis)) z TI TO .ellipsis f1:=get?_update_self _ hz rfl
 generalize hHA:s.heap.update z (Obj.mapFields λ(x:Array Value)=>x.setIfInBounds 0 Value.ellipsis)=HA at *
 refine Xb ?_;show wpAny _ _ (forIn [(Value.ref i1,0),(Value.ref i2,1)] _ _) _ _ _;simp only[forIn_cons,forIn_nil];refine Xb (Xb (wpAny_onRaise ?_));show wpAny _ _ (Builtin.SmallTypes.nextOf (.ref i1) >>= λv=>pure (some v)) _ _ _;have h1A:IsIt q HA i1 l1 k1:=let ⟨o,e,r⟩:=h1;⟨o,(sA.2 i1 i1z).trans e,r⟩
 have h2A:IsIt qq HA i2 l2 k2:=let ⟨o,e,r⟩:=h2;⟨o,(sA.2 i2 i2z).trans e,r⟩
 have hl1A:IsSq q HA l1 xs:=let ⟨o,e,r⟩:=hl1;⟨o,(sA.2 l1 l1z).trans e,r⟩
 have hl2A:IsSq qq HA l2 ys:=let ⟨o,e,r⟩:=hl2;⟨o,(sA.2 l2 l2z).trans e,r⟩
 have hTOA:IsPair HA TO a b:=(sA.2 TO TOz).trans hTO;refine Xb (ZGi (s:={ s with heap:=HA }) h1A hl1A hx λHB h1B sB=>Xu ?_);dsimp only at sB ⊢;have h2B:IsIt qq HB i2 l2 k2:=let ⟨o,e,r⟩:=h2A;⟨o,(sB.2 i2 (Ne.symm i12)).trans e,r⟩
 have hl2B:IsSq qq HB l2 ys:=let ⟨o,e,r⟩:=hl2A;⟨o,(sB.2 l2 l2i1).trans e,r⟩
 have hTOB:IsPair HB TO a b:=(sB.2 TO TOi1).trans hTOA;have zB:ZBH HB z TI TO .ellipsis f1:=(sB.2 z (Ne.symm i1z)).trans zA;refine Xb (m:=seqItems? (.ref TO)) (wpAny_seqItems hTOB rfl ?_);dsimp only;refine Xb (wpAny_updateSeq hTOB rfl ?_ (by show 2<=sizeLine;decide) (by show 2<=_;decide));have sC:=Heap.SameBut.update (h:=HB) TO (Obj.mapSeq λ(x_2:Array Value)=>x_2.setIfInBounds 0 x);have hTOC:IsPair (HB.update TO (Obj.mapSeq λ(x_2:Array Value)=>x_2.setIfInBounds 0 x)) TO x b:=get?_update_self _ hTOB rfl
 generalize HB.update TO (Obj.mapSeq λ(x_2:Array Value)=>x_2.setIfInBounds 0 x)=HC at *
 refine Xb (wpAny_letGo (Xu ?_));dsimp only;have h1C:IsIt q HC i1 l1 (k1+1):=let ⟨o,e,r⟩:=h1B;⟨o,(sC.2 i1 (Ne.symm TOi1)).trans e,r⟩
 have h2C:IsIt qq HC i2 l2 k2:=let ⟨o,e,r⟩:=h2B;⟨o,(sC.2 i2 (Ne.symm TOi2)).trans e,r⟩
 have hl2C:IsSq qq HC l2 ys:=let ⟨o,e,r⟩:=hl2B;⟨o,(sC.2 l2 l2TO).trans e,r⟩
 have zC:ZBH HC z TI TO .ellipsis f1:=(sC.2 z (Ne.symm TOz)).trans zB;refine Xb (Xb (wpAny_onRaise ?_));show wpAny _ _ (Builtin.SmallTypes.nextOf (.ref i2) >>= λv=>pure (some v)) _ _ _;refine Xb (ZGi (s:={ s with heap:=HC }) h2C hl2C hy λHD h2D sD=>Xu ?_);dsimp only at sD ⊢;have h1D:IsIt q HD i1 l1 (k1+1):=let ⟨o,e,r⟩:=h1C;⟨o,(sD.2 i1 i12).trans e,r⟩
 have hTOD:IsPair HD TO x b:=(sD.2 TO TOi2).trans hTOC;have zD:ZBH HD z TI TO .ellipsis f1:=(sD.2 z (Ne.symm i2z)).trans zC;refine Xb (m:=seqItems? (.ref TO)) (wpAny_seqItems hTOD rfl ?_);dsimp only;refine Xb (wpAny_updateSeq hTOD rfl ?_ (by show 2<=sizeLine;decide) (by show 2<=_;decide));have sE:=Heap.SameBut.update (h:=HD) TO (Obj.mapSeq λ(x_2:Array Value)=>x_2.setIfInBounds 1 y);have hTOE:IsPair (HD.update TO (Obj.mapSeq λ(x_2:Array Value)=>x_2.setIfInBounds 1 y)) TO x y:=get?_update_self _ hTOD rfl
 generalize HD.update TO (Obj.mapSeq λ(x_2:Array Value)=>x_2.setIfInBounds 1 y)=HE at *
 refine Xb (wpAny_letGo (Xu (Xu ?_)));dsimp only;have h1E:IsIt q HE i1 l1 (k1+1):=let ⟨o,e,r⟩:=h1D;⟨o,(sE.2 i1 (Ne.symm TOi1)).trans e,r⟩
 have h2E:IsIt qq HE i2 l2 (k2+1):=let ⟨o,e,r⟩:=h2D;⟨o,(sE.2 i2 (Ne.symm TOi2)).trans e,r⟩
 have zE:ZBH HE z TI TO .ellipsis f1:=(sE.2 z (Ne.symm TOz)).trans zD;have hsz:HE.objs.size=s⁻¹:=by rw[sE.1,sD.1,sC.1,sB.1,sA.1]
 have kE:∀c o,c≠z->c≠TO->c≠i1->c≠i2->s.heap.get? c=some o->HE.get? c=some o:=λc o n1 n2 n3 n4 e=>by
  rw[sE.2 c n2,sD.2 c n4,sC.2 c n2,sB.2 c n3,sA.2 c n1];exact e
 refine Xb (m:=seqItems? (.ref TO)) (wpAny_seqItems hTOE rfl ?_);dsimp only;refine Xb (m:=newTuple [x,y]) (wpAny_newObj_type ?_ (by show 2<=sizeLine;decide));have hzs:z<HE.objs.size:=lt_size zE;have hF:IsPair (HE.push { cls:=.type "tuple",data:=.seq #[x,y] }) s⁻¹ x y:=by rw[<-hsz];exact get?_push_size _ rfl
 have kF:∀c o,HE.get? c=some o->(HE.push { cls:=.type "tuple",data:=.seq #[x,y] }).get? c=some o:=λc o e=>get?_push_of_some _ e
 have szF:(HE.push { cls:=.type "tuple",data:=.seq #[x,y] }).objs.size=s⁻¹+1:=by rw[size_push,hsz]
 have zF:=kF _ _ zE
 generalize hHF:HE.push { cls:=.type "tuple",data:=.seq #[x,y] }=HF at *
 dsimp only;rw[hsz];unfold Builtin.SmallTypes.ownedTupleHandOut;refine Xb (Xb (wpAny_setField zF rfl (by simp) ?_));have sG:=Heap.SameBut.update (h:=HF) z (Obj.mapFields λ(q:Array Value)=>q.setIfInBounds 0 (rawInt (s⁻¹:Int)));have zG:ZBH (HF.update z (Obj.mapFields λ(q:Array Value)=>q.setIfInBounds 0 (rawInt (s⁻¹:Int)))) z TI TO (rawInt (s⁻¹:Int)) f1:=get?_update_self _ zF rfl
 generalize HF.update z (Obj.mapFields λ(q:Array Value)=>q.setIfInBounds 0 (rawInt (s⁻¹:Int)))=HG at *
 refine wpAny_setField zG rfl (by simp) ?_;have sH:=Heap.SameBut.update (h:=HG) z (Obj.mapFields λ(q:Array Value)=>q.setIfInBounds 1 (.bool false));have zH:ZBH (HG.update z (Obj.mapFields λ(q:Array Value)=>q.setIfInBounds 1 (.bool false))) z TI TO (rawInt (s⁻¹:Int)) (.bool false):=get?_update_self _ zG rfl
 generalize HG.update z (Obj.mapFields λ(q:Array Value)=>q.setIfInBounds 1 (.bool false))=HH at *
 have kH:∀c o,c≠z->HF.get? c=some o->HH.get? c=some o:=λc o n e=>by
  rw[sH.2 c n,sG.2 c n];exact e
 have zlt:z≠s⁻¹:=ne_of_lt (by rw[<-hsz];exact hzs);refine Xu ⟨_,rfl,k HH zH (kH _ _ TOz (kF _ _ hTOE)) ?_ ?_ (kH _ _ (Ne.symm zlt) hF) (by rw[sH.1,sG.1,szF]) λc o n1 n2 n3 n4 e=>kH c o n1 (kF c o (kE c o n1 n2 n3 n4 e))⟩
 .obtain⟨o,e,r⟩:=h1E
  exact⟨o,kH _ _ i1z (kF _ _ e),r⟩
 .obtain⟨o,e,r⟩:=h2E
  exact⟨o,kH _ _ i2z (kF _ _ e),r⟩
theorem ZTe{M:Model}{a:Addr}{Q:Option Obj->Shared->Prop}(h:Q (s.heap.get? a) s):wpAny M A (loadIfAlive a) Q E s:=λΓ p _=>by
 unfold loadIfAlive;rw[Sem.wp_loadIfAlive];exact h
theorem ZHl{TI TO:Addr}{f1:Value}(hz:ZBH s.heap z TI TO .none f1)(Q:Bool->Shared->Prop)(q:Q true s):Yl prog w A (Builtin.SmallTypes.ownedTupleIsFree (.ref z)) Q E s:=by
 unfold Builtin.SmallTypes.ownedTupleIsFree;exact Xb (m:=field (.ref z) 0) (wpAny_field hz rfl (x:=.none) rfl (Xu q))
theorem ZHw{TI TO:Addr}{f1:Value}(hz:ZBH s.heap z TI TO (rawInt (T:Int)) f1)(hT:s.heap.get? T=none)(Q:Bool->Shared->Prop)(q:Q true s):Yl prog w A (Builtin.SmallTypes.ownedTupleIsFree (.ref z)) Q E s:=by
 unfold Builtin.SmallTypes.ownedTupleIsFree;refine Xb (m:=field (.ref z) 0) (wpAny_field hz rfl (x:=rawInt (T:Int)) rfl ?_);refine Xb (m:=loadIfAlive (T:Int).toNat) (ZTe ?_);rw[toNat_natCast,hT];exact Xu q
theorem ZWH{TI TO:Addr}{f1:Value}{Q:Bool->Shared->Prop}(hz:ZBH s.heap z TI TO (rawInt (T:Int)) f1)(hT:s.heap.get? T=some o)
  (q:∀h' f1',ZBH h' z TI TO (rawInt (T:Int)) f1'->Heap.SameBut z s.heap h'->Q false { s with heap:=h' }):Yl prog w A (Builtin.SmallTypes.ownedTupleIsFree (.ref z)) Q E s:=by
 unfold Builtin.SmallTypes.ownedTupleIsFree;refine Xb (m:=field (.ref z) 0) (wpAny_field hz rfl (x:=rawInt (T:Int)) rfl ?_);refine Xb (m:=loadIfAlive (T:Int).toNat) (ZTe ?_);rw[toNat_natCast,hT];show wpAny _ _ (field (.ref z) 1 >>= _) _ _ _;refine Xb (m:=field (.ref z) 1) (wpAny_field hz rfl (x:=f1) rfl ?_)
 by_cases c:(f1 != Value.bool true)=true
 .rw[Xp c]
  refine Xb (wpAny_setField hz rfl (by simp) (Xu (q _ (.bool true) ?_ (Heap.SameBut.update ..))));exact get?_update_self _ hz rfl
 .rw[Xn c]
  exact Xu (q s.heap f1 hz (Heap.SameBut.refl ..))
theorem ZQB{TI TO:Addr}{y f1:Value}{Q:Yi}(ap:ZipApart z TI TO i1 i2 l1 l2)(hz:ZBH s.heap z TI TO (rawInt (T:Int)) f1)(hT:s.heap.get? T=some o)(hTI:IsPair s.heap TI (.ref i1) (.ref i2))
  (h1:IsIt q s.heap i1 l1 k1)(h2:IsIt qq s.heap i2 l2 k2)(hl1:IsSq q s.heap l1 xs)(hl2:IsSq qq s.heap l2 ys)(hx:xs[k1]? = some x)(hy:ys[k2]? = some y)
  (k:∀ h' f1',ZBH h' z TI TO (rawInt (T:Int)) f1'->IsIt q h' i1 l1 (k1+1)->IsIt qq h' i2 l2 (k2+1)->IsPair h' s⁻¹ x y->h'.objs.size=s⁻¹+1 ->
   (∀c o,c≠z->c≠i1->c≠i2->s.heap.get? c=some o->h'.get? c=some o)->Q (.ref s⁻¹) { s with heap:=h' }) :
  Yl prog w A (Builtin.«zip.__next__» ⟨[.ref z],[]⟩) (λfin s'=>∃v,fin=.done (.ret v)/\Q v s') E s:=by
 unfold Builtin.«zip.__next__»;refine Xb (m:=slotArgs "__next__" 0 ⟨[.ref z],[]⟩) (wpAny_of_eq (a:=(Value.ref z,[])) (by rfl) ?_);refine Xb (m:=field (.ref z) 2) (wpAny_field hz rfl (x:=.bool false) rfl ?_);refine Xb (m:=field (.ref z) 3) (wpAny_field hz rfl (x:=.ref TI) rfl ?_);refine Xb (m:=seqItems? (.ref TI)) (wpAny_seqItems hTI rfl ?_);dsimp only;rw[Xn (by intro z;cases z)];obtain⟨TIz,TOz,i1z,i2z,TITO,TIi1,TIi2,TOi1,TOi2,i12,l1z,l1TO,l1i1,l1i2,l2z,l2TO,l2i1,l2i2⟩:=ap;refine Xb (m:=Builtin.SmallTypes.ownedTupleIsFree (.ref z)) (ZWH hz hT λHA f1' zA sA=>?_);rw[Xn (by intro z;cases z)];have h1A:IsIt q HA i1 l1 k1:=let ⟨o,e,r⟩:=h1;⟨o,(sA.2 i1 i1z).trans e,r⟩
 have h2A:IsIt qq HA i2 l2 k2:=let ⟨o,e,r⟩:=h2;⟨o,(sA.2 i2 i2z).trans e,r⟩
 have hl1A:IsSq q HA l1 xs:=let ⟨o,e,r⟩:=hl1;⟨o,(sA.2 l1 l1z).trans e,r⟩
 have hl2A:IsSq qq HA l2 ys:=let ⟨o,e,r⟩:=hl2;⟨o,(sA.2 l2 l2z).trans e,r⟩
 refine Xb ?_;rw[<-Array.forIn_toList];show wpAny _ _ (forIn [Value.ref i1,Value.ref i2] _ _) _ _ _;simp only[forIn_cons,forIn_nil];refine Xb (Xb (wpAny_holding ?_));show wpAny _ _ (Builtin.SmallTypes.nextOf (.ref i1) >>= λv=>pure (some v)) _ _ _;refine Xb (ZGi (s:={ s with heap:=HA }) h1A hl1A hx λHB h1B sB=>Xu ?_);dsimp only at sB ⊢;have h2B:IsIt qq HB i2 l2 k2:=let ⟨o,e,r⟩:=h2A;⟨o,(sB.2 i2 (Ne.symm i12)).trans e,r⟩
 have hl2B:IsSq qq HB l2 ys:=let ⟨o,e,r⟩:=hl2A;⟨o,(sB.2 l2 l2i1).trans e,r⟩
 have zB:ZBH HB z TI TO (rawInt (T:Int)) f1':=(sB.2 z (Ne.symm i1z)).trans zA;refine Xu (Xb (Xb (wpAny_holding ?_)));show wpAny _ _ (Builtin.SmallTypes.nextOf (.ref i2) >>= λv=>pure (some v)) _ _ _;refine Xb (ZGi (s:={ s with heap:=HB }) h2B hl2B hy λHC h2C sC=>Xu ?_);dsimp only at sC ⊢;have h1C:IsIt q HC i1 l1 (k1+1):=let ⟨o,e,r⟩:=h1B;⟨o,(sC.2 i1 i12).trans e,r⟩
 have zC:ZBH HC z TI TO (rawInt (T:Int)) f1':=(sC.2 z (Ne.symm i2z)).trans zB;refine Xu (Xu ?_);dsimp only;have hsz:HC.objs.size=s⁻¹:=by rw[sC.1,sB.1,sA.1]
 have kC:∀c o,c≠z->c≠i1->c≠i2->s.heap.get? c=some o->HC.get? c=some o:=λc o n1 n3 n4 e=>by
  rw[sC.2 c n4,sB.2 c n3,sA.2 c n1];exact e
 refine Xb (m:=newTuple [x,y]) (wpAny_newObj_type ?_ (by show 2<=sizeLine;decide));have hF:IsPair (HC.push { cls:=.type "tuple",data:=.seq #[x,y] }) s⁻¹ x y:=by rw[<-hsz];exact get?_push_size _ rfl
 have kF:∀c o,HC.get? c=some o->(HC.push { cls:=.type "tuple",data:=.seq #[x,y] }).get? c=some o:=λc o e=>get?_push_of_some _ e
 have szF:(HC.push { cls:=.type "tuple",data:=.seq #[x,y] }).objs.size=s⁻¹+1:=by rw[size_push,hsz]
 have zF:=kF _ _ zC;refine Xu ⟨_,rfl,?_⟩;dsimp only;rw[hsz];refine k _ f1' zF ?_ ?_ hF szF λc o n1 n3 n4 e=>kF c o (kC c o n1 n3 n4 e)
 .obtain⟨o,e,r⟩:=h1C
  exact⟨o,kF _ _ e,r⟩
 .obtain⟨o,e,r⟩:=h2C
  exact⟨o,kF _ _ e,r⟩
theorem ZMX{TI TO:Addr}{f1:Value}{Q:PySem.Fin->Shared->Prop}(hh:A.handled=none)(ap:ZipApart z TI TO i1 i2 l1 l2)(hz:ZBH s.heap z TI TO f0 f1)(hfree:∀Q:Bool->Shared->Prop,Q true s->Yl prog w A (Builtin.SmallTypes.ownedTupleIsFree (.ref z)) Q E s)(hTI:IsPair s.heap TI (.ref i1) (.ref i2))(hTO:IsPair s.heap TO a b)
  (h1:IsIt q s.heap i1 l1 k1)(h2:IsIt qq s.heap i2 l2 k2)(hl1:IsSq q s.heap l1 xs)(hl2:IsSq qq s.heap l2 ys)(hx:xs[k1]? = none\/ys[k2]? = none)
  (k:∀h' e,(∀c o,c≠z->c≠TO->c≠i1->c≠i2->s.heap.get? c=some o->h'.get? c=some o)->(∃o,h'.get? e=some o/\o.cls=.type "StopIteration")->E (.ref e) { s with heap:=h' }) :
  Yl prog w A (Builtin.«zip.__next__» ⟨[.ref z],[]⟩) Q E s:=by
 unfold Builtin.«zip.__next__»;refine Xb (m:=slotArgs "__next__" 0 ⟨[.ref z],[]⟩) (wpAny_of_eq (a:=(Value.ref z,[])) (by rfl) ?_);refine Xb (m:=field (.ref z) 2) (wpAny_field hz rfl (x:=.bool false) rfl ?_);refine Xb (m:=field (.ref z) 3) (wpAny_field hz rfl (x:=.ref TI) rfl ?_);refine Xb (m:=seqItems? (.ref TI)) (wpAny_seqItems hTI rfl ?_);dsimp only;rw[Xn (by intro z;cases z)];refine Xb (m:=Builtin.SmallTypes.ownedTupleIsFree (.ref z)) (hfree _ ?_);rw[Xp rfl];refine Xb (wpAny_rule ?_);refine Xb (m:=field (.ref z) 4) (wpAny_field hz rfl (x:=.ref TO) rfl ?_);dsimp only;refine Xb (wpAny_setField hz rfl (by simp) ?_);obtain⟨TIz,TOz,i1z,i2z,TITO,TIi1,TIi2,TOi1,TOi2,i12,l1z,l1TO,l1i1,l1i2,l2z,l2TO,l2i1,l2i2⟩:=ap;have sA:=Heap.SameBut.update (h:=s.heap) z (Obj.mapFields λ(x:Array Value)=>x.setIfInBounds 0 Value.ellipsis);have zA:ZBH (s.heap.update z (Obj.mapFields λ(x:Array Value)=>x.setIfInBounds 0 Value.ellipsis)) z TI TO .ellipsis f1:=get?_update_self _ hz rfl
 generalize hHA:s.heap.update z (Obj.mapFields λ(x:Array Value)=>x.setIfInBounds 0 Value.ellipsis)=HA at *
 refine Xb ?_;show wpAny _ _ (forIn [(Value.ref i1,0),(Value.ref i2,1)] _ _) _ _ _;simp only[forIn_cons,forIn_nil];refine Xb (Xb (wpAny_onRaise ?_));show wpAny _ _ (Builtin.SmallTypes.nextOf (.ref i1) >>= λv=>pure (some v)) _ _ _;have h1A:IsIt q HA i1 l1 k1:=let ⟨o,e,r⟩:=h1;⟨o,(sA.2 i1 i1z).trans e,r⟩
 have h2A:IsIt qq HA i2 l2 k2:=let ⟨o,e,r⟩:=h2;⟨o,(sA.2 i2 i2z).trans e,r⟩
 have hl1A:IsSq q HA l1 xs:=let ⟨o,e,r⟩:=hl1;⟨o,(sA.2 l1 l1z).trans e,r⟩
 have hl2A:IsSq qq HA l2 ys:=let ⟨o,e,r⟩:=hl2;⟨o,(sA.2 l2 l2z).trans e,r⟩
 have hTOA:IsPair HA TO a b:=(sA.2 TO TOz).trans hTO;have last:∀(h':Heap) (e:Addr) (g1:Value),ZBH h' z TI TO .ellipsis g1->(∀c o,c≠z->c≠TO->c≠i1->c≠i2->s.heap.get? c=some o->h'.get? c=some o)->(∃o,h'.get? e=some o/\o.cls=.type "StopIteration") ->
   Yl prog w A (setField (.ref z) 0 Value.none) (λ_ s''=>E (.ref e) s'') E { s with heap:=h' }:=λh' e g1 hz' kp he=>by
  have se:=Heap.SameBut.update (h:=h') z (Obj.mapFields λ(x:Array Value)=>x.setIfInBounds 0 Value.none);refine wpAny_setField hz' rfl (by simp) (k _ e (λc o n1 n2 n3 n4 q=>(se.2 c n1).trans (kp c o n1 n2 n3 n4 q)) ?_);obtain⟨o,ho,hc⟩:=he;have nz:e≠z:=by
   intro q;rw[q,hz'] at ho;cases ho;have hc':Value.type "zip" = Value.type "StopIteration":=hc;exact absurd hc' (by decide)
  exact⟨o,(se.2 e nz).trans ho,hc⟩
 cases hxk:xs[k1]? with
 |none =>
  refine Xb (ZBc (s:={ s with heap:=HA }) hh h1A hl1A hxk λh' e eb he=>?_);exact last h' e f1 (eb z _ (Ne.symm i1z) zA) (λc o n1 n2 n3 n4 q=>eb c o n3 ((sA.2 c n1).trans q)) he
 |some x =>
  have hyk:ys[k2]? = none:=by
   rcases hx with q|q
   .rw[hxk] at q;cases q
   .exact q
  refine Xb (ZGi (s:={ s with heap:=HA }) h1A hl1A hxk λHB h1B sB=>Xu ?_);dsimp only at sB ⊢;have h2B:IsIt qq HB i2 l2 k2:=let ⟨o,e,r⟩:=h2A;⟨o,(sB.2 i2 (Ne.symm i12)).trans e,r⟩
  have hl2B:IsSq qq HB l2 ys:=let ⟨o,e,r⟩:=hl2A;⟨o,(sB.2 l2 l2i1).trans e,r⟩
  have hTOB:IsPair HB TO a b:=(sB.2 TO TOi1).trans hTOA;have zB:ZBH HB z TI TO .ellipsis f1:=(sB.2 z (Ne.symm i1z)).trans zA;refine Xb (m:=seqItems? (.ref TO)) (wpAny_seqItems hTOB rfl ?_);dsimp only;refine Xb (wpAny_updateSeq hTOB rfl ?_ (by show 2<=sizeLine;decide) (by show 2<=_;decide));have sC:=Heap.SameBut.update (h:=HB) TO (Obj.mapSeq λ(x_2:Array Value)=>x_2.setIfInBounds 0 x)
  generalize HB.update TO (Obj.mapSeq λ(x_2:Array Value)=>x_2.setIfInBounds 0 x)=HC at *
  refine Xb (wpAny_letGo (Xu ?_));dsimp only;have h2C:IsIt qq HC i2 l2 k2:=let ⟨o,e,r⟩:=h2B;⟨o,(sC.2 i2 (Ne.symm TOi2)).trans e,r⟩
  have hl2C:IsSq qq HC l2 ys:=let ⟨o,e,r⟩:=hl2B;⟨o,(sC.2 l2 l2TO).trans e,r⟩
  have zC:ZBH HC z TI TO .ellipsis f1:=(sC.2 z (Ne.symm TOz)).trans zB;refine Xb (Xb (wpAny_onRaise ?_));show wpAny _ _ (Builtin.SmallTypes.nextOf (.ref i2) >>= λv=>pure (some v)) _ _ _;refine Xb (ZBc (s:={ s with heap:=HC }) hh h2C hl2C hyk λh' e eb he=>?_);exact last h' e f1 (eb z _ (Ne.symm i2z) zC) (λc o n1 n2 n3 n4 q=>eb c o n4 ((sC.2 c n2).trans ((sB.2 c n3).trans ((sA.2 c n1).trans q)))) he
theorem ZSN{TI TO:Addr}{f1:Value}{Q:PySem.Fin->Shared->Prop}(hh:A.handled=none)(ap:ZipApart z TI TO i1 i2 l1 l2)(hz:ZBH s.heap z TI TO (rawInt (T:Int)) f1)(hT:s.heap.get? T=some o)(hTI:IsPair s.heap TI (.ref i1) (.ref i2))
  (h1:IsIt q s.heap i1 l1 k1)(h2:IsIt qq s.heap i2 l2 k2)(hl1:IsSq q s.heap l1 xs)(hl2:IsSq qq s.heap l2 ys)(hx:xs[k1]? = none\/ys[k2]? = none)
  (k:∀h' e,(∀c o,c≠z->c≠TO->c≠i1->c≠i2->s.heap.get? c=some o->h'.get? c=some o)->(∃o,h'.get? e=some o/\o.cls=.type "StopIteration")->E (.ref e) { s with heap:=h' }) :
  Yl prog w A (Builtin.«zip.__next__» ⟨[.ref z],[]⟩) Q E s:=by
 unfold Builtin.«zip.__next__»;refine Xb (m:=slotArgs "__next__" 0 ⟨[.ref z],[]⟩) (wpAny_of_eq (a:=(Value.ref z,[])) (by rfl) ?_);refine Xb (m:=field (.ref z) 2) (wpAny_field hz rfl (x:=.bool false) rfl ?_);refine Xb (m:=field (.ref z) 3) (wpAny_field hz rfl (x:=.ref TI) rfl ?_);refine Xb (m:=seqItems? (.ref TI)) (wpAny_seqItems hTI rfl ?_);dsimp only;rw[Xn (by intro z;cases z)];obtain⟨TIz,TOz,i1z,i2z,TITO,TIi1,TIi2,TOi1,TOi2,i12,l1z,l1TO,l1i1,l1i2,l2z,l2TO,l2i1,l2i2⟩:=ap;refine Xb (m:=Builtin.SmallTypes.ownedTupleIsFree (.ref z)) (ZWH hz hT λHA f1' zA sA=>?_);rw[Xn (by intro z;cases z)];have h1A:IsIt q HA i1 l1 k1:=let ⟨o,e,r⟩:=h1;⟨o,(sA.2 i1 i1z).trans e,r⟩
 have h2A:IsIt qq HA i2 l2 k2:=let ⟨o,e,r⟩:=h2;⟨o,(sA.2 i2 i2z).trans e,r⟩
 have hl1A:IsSq q HA l1 xs:=let ⟨o,e,r⟩:=hl1;⟨o,(sA.2 l1 l1z).trans e,r⟩
 have hl2A:IsSq qq HA l2 ys:=let ⟨o,e,r⟩:=hl2;⟨o,(sA.2 l2 l2z).trans e,r⟩
 refine Xb ?_;rw[<-Array.forIn_toList];show wpAny _ _ (forIn [Value.ref i1,Value.ref i2] _ _) _ _ _;simp only[forIn_cons,forIn_nil];refine Xb (Xb (wpAny_holding ?_));show wpAny _ _ (Builtin.SmallTypes.nextOf (.ref i1) >>= λv=>pure (some v)) _ _ _;cases hxk:xs[k1]? with
 |none =>
  refine Xb (ZBc (s:={ s with heap:=HA }) hh h1A hl1A hxk λh' e eb he=>?_);exact k h' e (λc o n1 n2 n3 n4 q=>eb c o n3 ((sA.2 c n1).trans q)) he
 |some x =>
  have hyk:ys[k2]? = none:=by
   rcases hx with q|q
   .rw[hxk] at q;cases q
   .exact q
  refine Xb (ZGi (s:={ s with heap:=HA }) h1A hl1A hxk λHB h1B sB=>Xu ?_);dsimp only at sB ⊢;have h2B:IsIt qq HB i2 l2 k2:=let ⟨o,e,r⟩:=h2A;⟨o,(sB.2 i2 (Ne.symm i12)).trans e,r⟩
  have hl2B:IsSq qq HB l2 ys:=let ⟨o,e,r⟩:=hl2A;⟨o,(sB.2 l2 l2i1).trans e,r⟩
  refine Xu (Xb (Xb (wpAny_holding ?_)));show wpAny _ _ (Builtin.SmallTypes.nextOf (.ref i2) >>= λv=>pure (some v)) _ _ _;refine Xb (ZBc (s:={ s with heap:=HB }) hh h2B hl2B hyk λh' e eb he=>?_);exact k h' e (λc o n1 n2 n3 n4 q=>eb c o n4 ((sB.2 c n3).trans ((sA.2 c n1).trans q))) he
structure ZipS (q qq:Bool) (h:Heap) (z TI TO i1 i2 l1 l2:Addr) (i:Nat):Prop where
 zo:∃f0 f1,ZBH h z TI TO f0 f1/\(f0=.none\/∃T:Nat,f0=rawInt (T:Int))
 ti:IsPair h TI (.ref i1) (.ref i2)
 to:∃a b,IsPair h TO a b
 it1:IsIt q h i1 l1 i
 it2:IsIt qq h i2 l2 i
theorem nextZip{TI TO:Addr}{y:Value}(ap:ZipApart z TI TO i1 i2 l1 l2)(S:ZipS q qq s.heap z TI TO i1 i2 l1 l2 i)(hl1:IsSq q s.heap l1 xs)(hl2:IsSq qq s.heap l2 ys)(hx:xs[i]? = some x)(hy:ys[i]? = some y)
  (k:∀h',ZipS q qq h' z TI TO i1 i2 l1 l2 (i+1)->IsPair h' s⁻¹ x y->h'.objs.size=s⁻¹+1->(∀c o,c≠z->c≠TO->c≠i1->c≠i2->s.heap.get? c=some o->h'.get? c=some o)->Q (some (.ref s⁻¹)) { s with heap:=h' }) :
  Yl prog w A (pyNext (.ref z)) Q E s:=by
 obtain⟨⟨f0,f1,hz,hf⟩,hti,⟨a,b,hto⟩,h1,h2⟩:=S;have ty:s.TypeIs (.ref z) "zip":=⟨_,hz,rfl⟩;unfold pyNext;refine Xb (wpAny_attempt ?_);refine wpAny_callSpecial?_slot (name:=Str.ofString "__next__") ty F.slot_zip_next (wpAny_call_entry F.slot_zip_next ty F.entry_zip_next ?_ (F.args_zip_next_1 _));have own:∀(E':Yi) (A':Around),(∀Q:Bool->Shared->Prop,Q true s->wpAny (model prog w) A' (Builtin.SmallTypes.ownedTupleIsFree (.ref z)) Q E' s)->wpAny (model prog w) A' (Builtin.«zip.__next__» ⟨[.ref z],[]⟩) (λfin s'=>∃v,fin=.done (.ret v)/\Yl prog w A (pure (some v)) Q E s') E' s:=λE' A' fr=>by
  refine ZOx ap hz fr hti hto h1 h2 hl1 hl2 hx hy λh' z' to' t1 t2 pr sz kp=>Xu (k h' ⟨⟨_,_,z',.inr ⟨_,rfl⟩⟩,kp _ _ ap.TIz ap.TITO ap.TIi1 ap.TIi2 hti,⟨_,_,to'⟩,t1,t2⟩ pr sz kp)
 rcases hf with rfl|⟨T,rfl⟩
 .exact own _ _ λQ q=>ZHl hz Q q
 .cases hT:s.heap.get? T with
  |none=>exact own _ _ λQ q=>ZHw hz hT Q q
  |some o =>
   refine ZQB ap hz hT hti h1 h2 hl1 hl2 hx hy λh' f1' z' t1 t2 pr sz kp=>Xu (k h' ⟨⟨_,_,z',.inr ⟨_,rfl⟩⟩,kp _ _ ap.TIz ap.TIi1 ap.TIi2 hti,⟨a,b,kp _ _ ap.TOz ap.TOi1 ap.TOi2 hto⟩,t1,t2⟩ pr sz λc o n1 n2 n3 n4 q=>kp c o n1 n3 n4 q)
theorem endZip{TI TO:Addr}(hh:A.handled=none)(ap:ZipApart z TI TO i1 i2 l1 l2)(S:ZipS q qq s.heap z TI TO i1 i2 l1 l2 i)(hl1:IsSq q s.heap l1 xs)(hl2:IsSq qq s.heap l2 ys)(hx:xs[i]? = none\/ys[i]? = none)
  (k:∀h',(∀c o,c≠z->c≠TO->c≠i1->c≠i2->s.heap.get? c=some o->h'.get? c=some o)->Q none { s with heap:=h' }) :
  Yl prog w A (pyNext (.ref z)) Q E s:=by
 obtain⟨⟨f0,f1,hz,hf⟩,hti,⟨a,b,hto⟩,h1,h2⟩:=S;have ty:s.TypeIs (.ref z) "zip":=⟨_,hz,rfl⟩;unfold pyNext;refine Xb (wpAny_attempt ?_);refine wpAny_callSpecial?_slot (name:=Str.ofString "__next__") ty F.slot_zip_next (wpAny_call_entry F.slot_zip_next ty F.entry_zip_next ?_ (F.args_zip_next_1 _));have stop:∀(h':Heap) (e:Addr),(∀c o,c≠z->c≠TO->c≠i1->c≠i2->s.heap.get? c=some o->h'.get? c=some o)->(∃o,h'.get? e=some o/\o.cls=.type "StopIteration") ->
   Yl prog w A (isInstance (.ref e) (.type "StopIteration") >>= λd=>if d=true then pure none else throw (.ref e)) Q E { s with heap:=h' }:=λh' e kp he=>by
  obtain⟨o,ho,hc⟩:=he;refine Xb (wpAny_isInstance (T:="StopIteration") (b:=true) ⟨o,ho,hc⟩ rfl ?_);rw[Xp rfl];exact Xu (k h' kp)
 rcases hf with rfl|⟨T,rfl⟩
 .exact ZMX hh ap hz (λQ q=>ZHl hz Q q) hti hto h1 h2 hl1 hl2 hx stop
 .cases hT:s.heap.get? T with
  |none=>exact ZMX hh ap hz (λQ q=>ZHw hz hT Q q) hti hto h1 h2 hl1 hl2 hx stop
  |some o=>exact ZSN hh ap hz hT hti h1 h2 hl1 hl2 hx stop
theorem letGoZip{tg:Expr}{TI TO a:Addr}{Q:Unit->Shared->Prop}(ap:ZipApart z TI TO i1 i2 l1 l2)(S:ZipS q qq s.heap z TI TO i1 i2 l1 l2 i)(k:∀h',ZipS q qq h' z TI TO i1 i2 l1 l2 i->Heap.SameBut z s.heap h'->Q () { s with heap:=h' }) :
    Yl prog w A (letOwnedTupleGo tg (.ref z) (.ref a)) Q E s:=by
  have S':=S;obtain ⟨⟨f0,f1,hz,hf⟩,hti,⟨b,c,hto⟩,h1,h2⟩:=S';have way:Yl prog w A (load z >>= λ o=>match o.cls,o.data with
        |Value.type n,Data.fields vs=>if (["enumerate","zip","dict_itemiterator","dict_reverseitemiterator","odict_iterator","itertools.zip_longest","itertools.pairwise"].contains n && vs[0]? == some (rawInt (a:Int)))=true then do
            rule "for.unpacks-the-owned-tuple"
            updateField z 0 Value.none
          else pure ()
        |_,_=>pure ()) Q E s:=by
    refine Xb (wpAny_load hz ?_);dsimp only
    split
    · refine Xb (wpAny_rule ?_)
      have sA:=Heap.SameBut.update (h:=s.heap) z (Obj.mapFields λ(x:Array Value)=>x.setIfInBounds 0 Value.none);have zA:ZBH (s.heap.update z (Obj.mapFields λ(x:Array Value)=>x.setIfInBounds 0 Value.none)) z TI TO .none f1:=get?_update_self _ hz rfl;show wpAny _ _ (setField (.ref z) 0 Value.none) _ _ _;refine wpAny_setField hz rfl (by simp) (k _ ⟨⟨_,_,zA,.inl rfl⟩,(sA.2 _ ap.TIz).trans hti,⟨b,c,(sA.2 _ ap.TOz).trans hto⟩,?_,?_⟩ sA)
      · obtain⟨o,e,r⟩:=h1
        exact⟨o,(sA.2 _ ap.i1z).trans e,r⟩
      · obtain⟨o,e,r⟩:=h2
        exact⟨o,(sA.2 _ ap.i2z).trans e,r⟩
    · exact Xu (k _ S (Heap.SameBut.refl ..))
  cases tg with
  |Tuple=>exact way
  |List=>exact way
  |_=>exact Xu (k _ S (Heap.SameBut.refl ..))
theorem apart_new(n a b:Nat)(ha:a<n)(hb:b<n):ZipApart (n+4) (n+2) (n+3) n (n+1) a b:=by
 constructor <;> (intro q;have q':(_:Nat)=_:=q;omega)
theorem iterZip{TI TO:Addr}{f1:Value}{Q:Yi}(hz:ZBH s.heap z TI TO f0 f1)(q:Q (.ref z) s):Yl prog w A (pyIter (.ref z)) Q E s:=by
 have ty:s.TypeIs (.ref z) "zip":=⟨_,hz,rfl⟩;refine wpAny_pyIter_slot ty F.slot_zip_iter (wpAny_call_entry F.slot_zip_iter ty F.entry_zip_iter ?_ (F.args_zip_iter_1 _));unfold Builtin.«dict_keyiterator.__iter__»;refine Xb (m:=slotArgs "__iter__" 0 ⟨[.ref z],[]⟩) (wpAny_of_eq (a:=(Value.ref z,[])) (by rfl) ?_);exact Xu ⟨_,rfl,"zip",_,ty,F.slot_zip_next.lookup,q⟩
abbrev zT1(q:Bool)(h:Heap)(l1:Addr):Heap:=h.push { cls:=.type (nm q),data:=.fields #[.ref l1,.int 0 0] }
abbrev zT2(q qq:Bool)(h:Heap)(l1 l2:Addr):Heap:=(zT1 q h l1).push { cls:=.type (nm qq),data:=.fields #[.ref l2,.int 0 0] }
abbrev zT3(q qq:Bool)(h:Heap)(l1 l2:Addr):Heap:=(zT2 q qq h l1 l2).push { cls:=.type "tuple",data:=.seq #[.ref h.objs.size,.ref (zT1 q h l1).objs.size] }
abbrev zT4(q qq:Bool)(h:Heap)(l1 l2:Addr):Heap:=(zT3 q qq h l1 l2).push { cls:=.type "tuple",data:=.seq #[.none,.none] }
abbrev zT5(q qq:Bool)(h:Heap)(l1 l2:Addr):Heap:=(zT4 q qq h l1 l2).push { cls:=.type "zip",data:=.fields #[.none,.bool false,.bool false,.ref (zT2 q qq h l1 l2).objs.size,.ref (zT3 q qq h l1 l2).objs.size] }
theorem ZR6(q qq:Bool)(l1 l2:Addr)(xs ys:Array Value) :
  Meets (Builtin.«zip.__new__» ⟨[.type "zip",.ref l1,.ref l2],[]⟩) (λ_ R s=>IsSq q s.heap l1 xs/\IsSq qq s.heap l2 ys/\R (.ok (.ret (.ref (zT4 q qq s.heap l1 l2).objs.size))) { s with heap:=zT5 q qq s.heap l1 l2 }) :=
 .of_wp λprog w A R s h=>by
  obtain⟨hp,g,d,tk,os⟩:=s;obtain⟨hl1,hl2,h⟩:=h;have hsub:=sub_zip;have hT2:IsSq qq (zT1 q hp l1) l2 ys:=let ⟨o,e,r⟩:=hl2;⟨o,get?_push_of_some _ e,r⟩
  wp_walk using itG hl1,itG (s:=⟨zT1 q hp l1,g,d,tk,os⟩) hT2
  exact⟨_,rfl,h⟩
theorem callZipT{Q:Yi}(hL1:IsSq q s.heap l1 xs)(hL2:IsSq qq s.heap l2 ys)
  (k:∀h',ZipS q qq h' (s⁻¹+4) (s⁻¹+2) (s⁻¹+3) s⁻¹ (s⁻¹+1) l1 l2 0->h'.objs.size=s⁻¹+5->(∀c o,s.heap.get? c=some o->h'.get? c=some o)->Q (.ref (s⁻¹+4)) { s with heap:=h' }) :
  Yl prog w A (call (.type "zip") [.ref l1,.ref l2]) Q E s:=by
 refine callType_new F.called_zip (by decide) (F.typeCall_zip_2 _ _) (F.newCall_zip_2 _ _) (λobj=>F.args_object_init_3 obj _ _) F.entry_zip_new (ZR6 q qq l1 l2 xs ys) ⟨hL1,hL2,?_⟩;have z1:(zT1 q s.heap l1).objs.size=s⁻¹+1:=size_push ..;have z2:(zT2 q qq s.heap l1 l2).objs.size=s⁻¹+2:=by rw[size_push,z1]
 have z3:(zT3 q qq s.heap l1 l2).objs.size=s⁻¹+3:=by rw[size_push,z2]
 have z4:(zT4 q qq s.heap l1 l2).objs.size=s⁻¹+4:=by rw[size_push,z3]
 have e1:(zT1 q s.heap l1).get? s⁻¹=some { cls:=.type (nm q),data:=.fields #[.ref l1,.int 0 0] }:=get?_push_size _ rfl;have e2:(zT2 q qq s.heap l1 l2).get? (s⁻¹+1)=some { cls:=.type (nm qq),data:=.fields #[.ref l2,.int 0 0] }:=by rw[<-z1];exact get?_push_size _ rfl
 have e3:(zT3 q qq s.heap l1 l2).get? (s⁻¹+2)=some { cls:=.type "tuple",data:=.seq #[.ref s⁻¹,.ref (zT1 q s.heap l1).objs.size] }:=by rw[<-z2];exact get?_push_size _ rfl
 have e4:(zT4 q qq s.heap l1 l2).get? (s⁻¹+3)=some { cls:=.type "tuple",data:=.seq #[.none,.none] }:=by rw[<-z3];exact get?_push_size _ rfl
 have e5:(zT5 q qq s.heap l1 l2).get? (s⁻¹+4)=some { cls:=.type "zip",data:=.fields #[.none,.bool false,.bool false,.ref (zT2 q qq s.heap l1 l2).objs.size,.ref (zT3 q qq s.heap l1 l2).objs.size] }:=by rw[<-z4];exact get?_push_size _ rfl
 rw[z2,z3] at e5;rw[z1] at e3;have up:∀{h:Heap} {o u:Obj} {c:Addr},h.get? c=some u->(h.push o).get? c=some u:=λq=>get?_push_of_some _ q
 show _/\_;rw[z4];refine⟨⟨_,e5,rfl⟩,k _ ⟨⟨_,_,e5,.inl rfl⟩,up (up e3),⟨_,_,up e4⟩,⟨_,up (up (up (up e1))),rfl,rfl⟩,⟨_,up (up (up e2)),rfl,rfl⟩⟩ (by rw[size_push,z4]) λc o q=>up (up (up (up (up q))))⟩
end
end HI
namespace _L
open PySem PySem.Spec PyProof.Rows
def ZUn(q qq:Bool)(K:Frag)(a b:Addr):It :=
 ⟨λi H=>∃xs ys x y,SqG q K H a xs/\SqG qq K H b ys/\xs[i]? = some x/\ys[i]? = some y,λi H v H'=>∃p x y,v=.ref p/\H p=none/\H'=upd H p (.tup [x,y])/\∀xs ys,SqG q K H a xs->SqG qq K H b ys->xs[i]? = some x/\ys[i]? = some y,
  λi H=>∃xs ys,SqG q K H a xs/\SqG qq K H b ys/\(xs.length<=i\/ys.length<=i)⟩
variable{q qq:Bool}{tg:Expr}
theorem ZQd{P:Program}{w:World}{K:Frag}(a b z TI TO i1 i2:Addr)(ap:ZipApart z TI TO i1 i2 a b) :
  Turn P w K tg (ZUn q qq K a b) [z,TI,TO,i1,i2] z (λi h=>HI.ZipS q qq h z TI TO i1 i2 a b i) where
 mem:=by simp
 obj:=λi h st c hc=>by
  obtain⟨⟨f0,f1,hz,_⟩,hti,⟨u,v,hto⟩,⟨o1,e1,c1,d1⟩,⟨o2,e2,c2,d2⟩⟩:=st;simp only[mem_cons,not_mem_nil,or_false] at hc;rcases hc with rfl|rfl|rfl|rfl|rfl
  .exact⟨_,hz,λv q=>by cases q⟩
  .exact⟨_,hti,λv q=>by cases q⟩
  .exact⟨_,hto,λv q=>by cases q⟩
  .exact⟨_,e1,λv q=>by rw[d1] at q;cases q⟩
  .exact⟨_,e2,λv q=>by rw[d2] at q;cases q⟩
 keep:=λi h h' st kk=>by
  obtain⟨⟨f0,f1,hz,hf⟩,hti,⟨u,v,hto⟩,⟨o1,e1,r1⟩,⟨o2,e2,r2⟩⟩:=st;exact⟨⟨f0,f1,kk z (by simp) _ hz,hf⟩,kk TI (by simp) _ hti,⟨u,v,kk TO (by simp) _ hto⟩,⟨o1,kk i1 (by simp) _ e1,r1⟩,⟨o2,kk i2 (by simp) _ e2,r2⟩⟩
 item:=by
  intro X hP hw hK hc i pq s σ H E I hf st hg;subst hP hw hK;obtain⟨xs,ys,x,y,hq,hq2,hx,hy⟩:=hg;obtain⟨its,rv,p,hz⟩:=I.sq hq;obtain⟨its2,rv2,p2,hz2⟩:=I.sq hq2;obtain⟨u,hu,ru⟩:=rv.get hx;obtain⟨u2,hu2,ru2⟩:=rv2.get hy;refine HI.nextZip (xs:=its.toArray) (ys:=its2.toArray) ap st p p2 (by simpa using hu) (by simpa using hu2) λh' S' pr sz kp=>?_
  refine⟨_,rfl,HI.letGoZip ap S' λh2 S2 sb=>?_⟩;have nT:H s⁻¹=none:=I.hok.fresh (le_refl _);have zlt:z<s⁻¹:=by obtain⟨⟨f0,f1,q,_⟩,_⟩:=st;exact lt_size q
  have kk:∀c o,c∉[z,TI,TO,i1,i2]->s.heap.get? c=some o->h2.get? c=some o:=λc o hn q=>by
   simp only[mem_cons,not_mem_nil,or_false,not_or] at hn;exact(sb.2 c hn.1).trans (kp c o hn.1 hn.2.2.1 hn.2.2.2.1 hn.2.2.2.2 q)
  have nit:∀c v,H c=some v->c∉[z,TI,TO,i1,i2]:=λc v q hm=>by
   have:=(hf c hm).1;rw[this] at q;cases q
  have hT2:h2.get? s⁻¹=some { cls:=.type "tuple",data:=.seq #[u,u2] }:=(sb.2 _ (ne_of_gt zlt)).trans pr;have ne1:∀c v,H c=some v->c≠s⁻¹:=λc v q=>ZJ q nT
  have hok:HOk X.prog X.w (upd H s⁻¹ (.tup [x,y])) h2:=λc ob q=>by
   by_cases hb:c=s⁻¹
   .subst hb
    rw[Za] at q;cases q;exact⟨by show 2<=sizeLine;decide,[u,u2],.cons ru (.cons ru2 .nil),⟨_,hT2,rfl,_,rfl⟩⟩
   .rw[ZG hb] at q
    refine(I.hok c ob q).stay (λd v hd r=>?_) (λd r=>by rw[ZG (ne1 _ _ r)];exact r) λd ys r=>by rw[ZG (ne1 _ _ r)];exact r
    have nc:d∉[z,TI,TO,i1,i2]:=by
     rcases hd with e|e
     .rw[e];exact nit c ob q
     .exact nit d _ e
    exact kk d v nc r
  have I2:Inv X pq σ (upd H s⁻¹ (.tup [x,y])) { s with heap:=h2 }:=by
   refine I.step (g':=s.gens) (d':=s.drawn) (t':=s.toks) (ch:=[z,TI,TO,i1,i2]) (λc hc'=>?_) (λc o _ _ hc' q _=>kk c o hc' q) (λc o _ _ hc' q _=>⟨o.slots,kk c o hc' q⟩)
    (λc o _ q n=>by rw[ZG (ne_of_lt (lt_size q))];exact n) (λc o hc' q=>⟨o,kk c o hc' q⟩) (λc ys q=>by rw[ZG (ne1 _ _ q)];exact q) (λc o u q=>by rw[ZG (ne1 _ _ q)];exact q)
    (λc ps q=>⟨#[],by rw[ZG (ne1 _ _ q),q];simp⟩) (λm hm=>?_) hok I.bare
   .obtain⟨f0,f1,f2,f3,f4,f5⟩:=hf c hc'
    exact⟨f3,f1,f4,f5⟩
   .obtain⟨o,es',ep,ho',r⟩:=hm
    refine⟨o,es',ep,kk _ o (λhm'=>?_) ho',r⟩;exact(hf _ hm').2.1 rfl
  refine⟨.ref s⁻¹,_,I2,rfl,⟨_,x,y,rfl,nT,rfl,λzs ws hz' hw'=>by rw[I.sq_inj hz' hq,I.sq_inj hw' hq2];exact⟨hx,hy⟩⟩,S2,λc hc'=>?_⟩;have h0:=(hf c hc').1;have hlt:c<s⁻¹:=by
   obtain⟨⟨f0,f1,q,_⟩,hti,⟨_,_,hto⟩,⟨o1,e1,_⟩,⟨o2,e2,_⟩⟩:=st;simp only[mem_cons,not_mem_nil,or_false] at hc';rcases hc' with rfl|rfl|rfl|rfl|rfl
   .exact lt_size q
   .exact lt_size hti
   .exact lt_size hto
   .exact lt_size e1
   .exact lt_size e2
  rw[ZG (ne_of_lt hlt)];exact h0
 done:=by
  intro X hP hw hK hc i pq s σ H E I hf st hg;subst hP hw hK;obtain ⟨xs,ys,hq,hq2,hx⟩:=hg;obtain ⟨its,rv,p,hz⟩:=I.sq hq;obtain ⟨its2,rv2,p2,hz2⟩:=I.sq hq2;have l1:=rv.length;have l2:=rv2.length;refine HI.endZip (xs:=its.toArray) (ys:=its2.toArray) (I.ok.hd hc) ap st p p2 (by
   rcases hx with q|q
   .exact .inl (by simp;omega)
   .exact .inr (by simp;omega)) λh' kp=>⟨rfl,?_⟩
  refine I.step (g':=s.gens) (d':=s.drawn) (t':=s.toks) (ch:=[z,TI,TO,i1,i2]) (H':=H) (λc hc'=>?_) (λc o _ _ hc' q _=>?_) (λc o _ _ hc' q _=>?_) (λc o _ q n=>n) (λc o hc' q=>?_) (λc ys q=>q) (λc o u q=>q) (λc ps q=>⟨#[],by rw[q];simp⟩) (λm hm=>?_) (λc ob q=>?_) I.bare
  .obtain⟨f0,f1,f2,f3,f4,f5⟩:=hf c hc'
   exact⟨f3,f1,f4,f5⟩
  .simp only[mem_cons,not_mem_nil,or_false,not_or] at hc'
   exact kp c o hc'.1 hc'.2.2.1 hc'.2.2.2.1 hc'.2.2.2.2 q
  .simp only[mem_cons,not_mem_nil,or_false,not_or] at hc'
   exact⟨o.slots,kp c o hc'.1 hc'.2.2.1 hc'.2.2.2.1 hc'.2.2.2.2 q⟩
  .simp only[mem_cons,not_mem_nil,or_false,not_or] at hc'
   exact⟨o,kp c o hc'.1 hc'.2.2.1 hc'.2.2.2.1 hc'.2.2.2.2 q⟩
  .obtain⟨o,es',ep,ho',r⟩:=hm
   have nl:∀c∈[z,TI,TO,i1,i2],X.env.locals≠c:=λc hc' e=>(hf c hc').2.1 e.symm
   exact⟨o,es',ep,kp _ o (nl z (by simp)) (nl TO (by simp)) (nl i1 (by simp)) (nl i2 (by simp)) ho',r⟩
  .refine(I.hok c ob q).stay (λd v hd r=>?_) (λd r=>r) λd ys r=>r
   have nd:∀e,H d=some e->∀c∈[z,TI,TO,i1,i2],d≠c:=λe q' c hc' e'=>by
    have:=(hf c hc').1;rw[<-e',q'] at this
    cases this
   have hd':∃e,H d=some e:=by
    rcases hd with e|e
    .rw[e];exact⟨_,q⟩
    .exact⟨_,e⟩
   obtain⟨e,he⟩:=hd';exact kp d v (nd e he z (by simp)) (nd e he TO (by simp)) (nd e he i1 (by simp)) (nd e he i2 (by simp)) r
 self:=λ_ _ _ _ _ st h=>by
  obtain⟨⟨f0,f1,hz,_⟩,_⟩:=st;exact HI.iterZip hz h
variable{a b:Expr}{ta:TA}
section
variable{X:Cx}
def iZipG(q qq:Bool)(K:Frag)(ta:TA):TI:=λσ H R=>ta σ H λvs H1=>∃a b,vs=[.ref a,.ref b]/\(∃xs ys,SqG q K H1 a xs/\SqG qq K H1 b ys)/\R (ZUn q qq K a b) H1
theorem ZTv{p pos:Pos}(hg:Gl X "zip")(hm:X.mg "zip" = none)(ha:PA X [a,b] ta)(hs:Yc X a b:=by rfl)(hs2:Yd X b:=by rfl) :
  PI X tg (.Call (.Name "zip" p) [a,b] [] pos) (iZipG q qq X.K ta):=by
 intro pq s σ H R I h;refine Call_ (ZDr I hg hm boot_zip (PyProof.Rows.callWith_type1 (thn (ha pos pq s σ H _ I h) λus s1 ⟨vs,H1,I1,r1,q1⟩=>?_) (by rw[hs,hs2]) (by rw[hs2];rfl)));obtain⟨l1,l2,e,⟨xs,ys,hq1,hq2⟩,q⟩:=q1;subst e;cases r1 with
 |cons r rr =>
  cases rr with
  |cons r' rr =>
   cases rr;cases r;cases r';obtain⟨its,rv,pt,hz⟩:=I1.sq hq1;obtain⟨its2,rv2,pt2,hz2⟩:=I1.sq hq2;have lt1:l1<s1⁻¹:=by obtain⟨o,e,_⟩:=pt;exact lt_size e
   have lt2:l2<s1⁻¹:=by obtain⟨o,e,_⟩:=pt2;exact lt_size e
   refine HI.callZipT (show HI.IsSq _ s1.heap l1 its.toArray from pt) (show HI.IsSq _ s1.heap l2 its2.toArray from pt2) λh' S' hsz hk=>?_
   have I2:Inv X pq σ H1 { s1 with heap:=h' }:=I1.kept (t':=s1.toks) hk;obtain⟨f0,f1,zo,hf⟩:=S'.zo;have ap:ZipApart (s1⁻¹+4) (s1⁻¹+2) (s1⁻¹+3) s1⁻¹ (s1⁻¹+1) l1 l2:=HI.apart_new _ _ _ lt1 lt2;refine HI.iterZip zo ⟨s1⁻¹+4,[s1⁻¹+4,s1⁻¹+2,s1⁻¹+3,s1⁻¹,s1⁻¹+1],_,_,H1,rfl,I2,ZQd l1 l2 _ _ _ _ _ ap,S',λb hb=>?_,q⟩;have hb':s1⁻¹<=b:=by
    simp only[mem_cons,not_mem_nil,or_false] at hb;rcases hb with rfl|rfl|rfl|rfl|rfl
    .exact le_add_right _ _
    .exact le_add_right _ _
    .exact le_add_right _ _
    .exact le_refl _
    .exact le_add_right _ _
   exact I1.fpOk hb' (I1.hok.fresh hb')
end
abbrev Itz:=ZUn true true
section
variable{X:Cx}{pos:Pos}
def ZTY(i j l:Nat)(ta:TA):TS:=λD σ H=>ta σ H λvs H1=>∃v w z,vs=[v,w,z]/\D.nx (((σ.set l (some z)).set j (some w)).set i (some v)) H1
theorem ZRZ{i j l:Nat}{x y z:Str}{c:Expr}{px py pz pt:Pos}{kt k2 pt2}(hc:X.calm=true)(hN:X.N.Nodup)(hi:X.N[i]? = some x)(hj:X.N[j]? = some y)(hl:X.N[l]? = some z)
  (hx:Yg X x)(hy:Yg X y)(hz:Yg X z)(ha:PA X [a,b,c] ta)
  (hw:swappedStores [.Tuple [.Name x px,.Name y py,.Name z pz] kt pt] (.Tuple [a,b,c] k2 pt2) X.env=pure (some [x,y,z]):=by rfl)
  (hs:swapsWithSole [.Tuple [.Name x px,.Name y py,.Name z pz] kt pt] (.Tuple [a,b,c] k2 pt2) pos.line X.env=pure false:=by rfl) :
  PS X (.Assign [.Tuple [.Name x px,.Name y py,.Name z pz] kt pt] (.Tuple [a,b,c] k2 pt2) pos) (ZTY i j l ta):=by
 intro pq s σ H D I h;rw[exec_Assign_arm];refine Xb (wpAny_standAt ?_);rw[hs];refine Xb (Xu ?_);rw[Xn (by decide)];refine Xb (Tuple_ (thn (ha _ pq s σ H _ I h) λus s1 ⟨vs,H1,I1,r1,q1⟩=>?_));obtain⟨v,w,v3,e1,q1⟩:=q1;subst e1;obtain⟨u1,u2,u3,rfl,rv,rw',rz⟩:∃u1 u2 u3,us=[u1,u2,u3]/\Zq v u1/\Zq w u2/\Zq v3 u3:=by
  cases r1 with
  |cons p q =>
   cases q with
   |cons p' q' =>
    cases q' with
    |cons p2 q2 =>
     cases q2;exact⟨_,_,_,rfl,p,p',p2⟩
 refine wpAny_newObj_type ?_ (by show 3<=sizeLine;decide);have I2:Inv X pq σ H1 { s1 with heap:=s1.heap.push { cls:=.type "tuple",data:=.seq [u1,u2,u3].toArray } }:=I1.kept (t':=s1.toks) λb o e=>get?_push_of_some _ e
 rw[hw];refine Xb (Xu ?_);show Yk X (do rule "assign.swapped-stores";let items <-unpackItems (.ref s1⁻¹) 3 none;assignInOrder [λv=>bindName X.env z v,λv=>bindName X.env y v,λv=>bindName X.env x v] items.reverse;pure Flow.next) _ _ _;refine Xb (wpAny_rule (Xb (unpackItems_tuple (items:=#[u1,u2,u3]) (I.ok.hd hc) (IsTup.new s1.heap _) λh' hx'=>?_)));have I3:=I2.kept (h':=h') (t':=s1.toks) λb o e=>hx' b o (ne_of_lt (lt_size e)) e
 show wpAny _ _ (assignInOrder [λv=>bindName X.env z v,λv=>bindName X.env y v,λv=>bindName X.env x v] [u3,u2,u1] >>= λ_=>pure Flow.next) _ _ _;refine Xb (assignInOrder_cons (wpAny_bindName (ZBK I3 hN hl (.inl hz) rz (λs2 I4=>?_) (.inr hz))));refine assignInOrder_cons (wpAny_bindName (ZBK I4 hN hj (.inl hy) rw' (λs3 I5=>?_) (.inr hy)));refine assignInOrder_cons (wpAny_bindName (ZBK I5 hN hi (.inl hx) rv (λs4 I6=>assignInOrder_nil (Xu ?_)) (.inr hx)));exact⟨_,H1,I6,q1⟩
end
end _L
namespace HT
open PySem PyProof.Rows
section
variable{prog:Program}{w:World}{A:Around}{E:Yi}{s:Shared}
theorem getItem_tuple_whole{t sl:Addr}{items:Array Value}{vl vu:Value}{lo hi:Option Int}{Q:Yi}(ht:IsTup s.heap t items)(hs:s.heap.IsSliceOf sl vl vu .none)(pl:IsPart vl lo)(pu:IsPart vu hi)
  (hw:sIx items.size 0 lo=0/\sIx items.size items.size hi=items.size)(h:Q (.ref t) s):Yl prog w A (getItem (.ref t) (.ref sl)) Q E s:=by
 obtain⟨os,hos,hcs,hds⟩:=id hs;have hTs:s.TypeIs (.ref sl) "slice":=⟨os,hos,hcs⟩;unfold getItem
 try with_reducible refine wpAny_holding ?_
 first|refine Xb (Xu ?_)|skip
 refine Xb (wpAny_sequenceKey ht.typeIs (by decide) ?_);refine Xb (wpAny_callSpecial?_slot (name:=Str.ofString "__getitem__") ht.typeIs PyProof.Rows.slot_tuple_getitem
  (wpAny_call_entry PyProof.Rows.slot_tuple_getitem ht.typeIs entry_tuple_getitem ?_ (args_tuple_getitem _ _)))
 show wpAny _ _ (Builtin.Tuple.tupleItemsOf (.ref t) >>= _) _ _ s;refine Xb (tupleItemsOf_ ht ?_);refine Xb (wpAny_typeOf hTs ?_);rw[Xp (by decide)];refine Xb (ZCA hs pl pu ?_);show wpAny _ _ (if (((sIx items.size 0 lo:Nat):Int) == 0 && (1:Int) == 1 && (sIx items.size items.size hi-sIx items.size 0 lo) == items.size)=true then _ else _) _ _ s;have hyes:(((sIx items.size 0 lo:Nat):Int) == 0 && (1:Int) == 1 && (sIx items.size items.size hi-sIx items.size 0 lo) == items.size)=true:=by
  rw[hw.1,hw.2];simp
 rw[Xp hyes];unfold Builtin.Tuple.tupleIsExact;refine Xb (Xb (wpAny_typeOf ht.typeIs (Xu ?_)));rw[Xp (by rfl)];exact Xb (wpAny_rule (Xu ⟨_,rfl,Xu h⟩))
end
end HT
namespace _L
open PySem PySem.Spec PyProof.Rows
section
variable{X:Cx}
theorem ZSj:SlR X (λx lo hi H Q=>∃a xs,x=.ref a/\SqT X.K H a xs/\((HT.sIx xs.length 0 lo=0/\HT.sIx xs.length xs.length hi=xs.length)->Q (.ref a) H) /\
  (¬(HT.sIx xs.length 0 lo=0/\HT.sIx xs.length xs.length hi=xs.length)->∀p,H p=none->Q (.ref p) (upd H p (.tup (ZIV xs lo hi))))):=by
 intro pq s σ H x v vl vu lo hi sl Q I rx hs pl pu h;obtain⟨a,xs,rfl,hx,q1,q2⟩:=h
 by_cases hw:HT.sIx xs.length 0 lo=0/\HT.sIx xs.length xs.length hi=xs.length
 .cases rx
  obtain⟨its,r,ht,hz⟩:=I.tuple hx;have hlen:its.toArray.size=xs.length:=by rw[size_toArray];exact r.length.symm
  refine⟨"tuple",_,PyProof.Rows.slot_tuple_getitem.lookup,ht.typeIs,?_⟩;exact HT.getItem_tuple_whole ht hs pl pu (by rw[hlen];exact hw) ⟨.ref a,H,I,rfl,q1 hw⟩
 .exact ZVR pq s σ H (.ref a) v vl vu lo hi sl Q I rx hs pl pu ⟨a,xs,rfl,hx,hw,q2 hw⟩
theorem ZPR(hc:X.calm=true):Zi X (.builtin "any") (λxs H Q=>∃(p:Addr) (bs:List Bool),xs=[.ref p]/\SqL X.K H p (bs.map V.bl)/\Q (.bl (bs.any id)) H):=by
 intro pq s σ H xs us Q I r h;obtain⟨p,bs,rfl,hq,q⟩:=h;obtain⟨u,rfl,ru⟩:=ZBt r;cases ru;obtain⟨its,rv,pl,hz⟩:=I.list hq;have hlen:=rv.length;rw[Xm] at hlen;have hpl:p<s⁻¹:=by
  obtain⟨o,n,e,_⟩:=pl;exact lt_size e
 refine call_any_walk (wpAny_pyIter_list pl.isList ⟨s⁻¹,_,_,_,_,_,λi=>bs.getD i false,rfl,Walks.list (A:=X.A.in1) (show X.A.in1.handled=none from I.ok.hd hc) s⁻¹ p (ne_of_lt hpl) its.toArray,?_,?_,λh' tk k=>?_⟩)
 .exact⟨⟨_,get?_push_size _ rfl,rfl,rfl⟩,pl.isList.at λo e=>get?_push_of_some _ e⟩
 .intro i v s' Q' E' hv hQ
  have hv':its[i]? = some v:=by simpa using hv
  have hi:i<bs.length:=by rw[hlen];exact(List.getElem?_eq_some_iff.mp hv').1
  obtain⟨u,hu,ru⟩:=rv.get (i:=i) (x:=V.bl bs[i]) (by simp[hi]);rw[hv'] at hu;cases hu;cases ru;have e:bs.getD i false=bs[i]:=by simp[List.getD,hi]
  dsimp only at hQ;rw[e] at hQ;exact wpAny_truthy_bool hQ
 .have e:((List.range its.toArray.size).any λi=>bs.getD i false)=bs.any id:=by
   rw[Bool.eq_iff_iff,any_eq_true,any_eq_true];constructor
   .rintro ⟨i,hi,z⟩
    have hi':i<bs.length:=by simpa [<-hlen] using hi
    exact⟨bs[i],getElem_mem hi',by simpa [List.getD,hi'] using z⟩
   .rintro ⟨b,hb,z⟩
    obtain⟨i,hi,rfl⟩:=List.mem_iff_getElem.mp hb;exact⟨i,by simp[<-hlen,hi],by simpa [List.getD,hi] using z⟩
  rw[e];exact⟨.bl (bs.any id),H,I.kept λb o q=>k b o (by simp;exact ne_of_lt (lt_size q)) (get?_push_of_some _ q),rfl,q⟩
end
noncomputable def ZO9(a:Addr):HO:=.ext λh=>∃o,h.get? a=some o/\o.cls=.type "dict"/\∃es n,o.data=.dict es n
inductive Kd (K:Frag) (H:Hp):V->String->Prop
 |non:Kd K H .non "NoneType"
 |bl (b:Bool):Kd K H (.bl b) "bool"
 |int (i:Int):Kd K H (.int i) "int"
 |str (x:Str):Kd K H (.str x) "str"
 |lst {a:Addr} {xs:List V}:H a=some (.lst xs)->Kd K H (.ref a) "list"
 |tup {a:Addr} {xs:List V}:SqT K H a xs->Kd K H (.ref a) "tuple"
 |dct {a:Addr}:H a=some (ZO9 a)->Kd K H (.ref a) "dict"
noncomputable def isi(k T:String):Bool:=decide (k=T) || (decide (k = "bool") && decide (T = "int"))
section
variable{X:Cx}{pos p2:Pos}
theorem ZNv:Zi X (.builtin "isinstance") (λxs H Q=>∃(x:V) (T k:String),xs=[x,.ty T]/\Kd X.K H x k/\(T = "int"\/T = "bool"\/T = "tuple"\/T = "str")/\Q (.bl (isi k T)) H):=by
 intro pq s σ H xs us Q I r h;obtain⟨x,T,k,rfl,kd,hT,q⟩:=h;obtain⟨u,w',rfl,ru,rw'⟩:=ZPS r;cases rw';have fin:∀(t:Value),PySem.W.kitOne X.K t (.type T)=some (isi k T)->∀{HH:Heap->Prop},PySem.W.KitX X.K u t HH->HH s.heap->(u≠Value.builtin "__main__.__loader__#opaque")->Yk X (call (.builtin "isinstance") [u,.type T]) (EP X pq σ Q) X.xe s:=λt e _ kx hh hu =>
  PySem.W.kia_one kx I.kIn hh e hu λtk=>⟨.bl _,H,I.tok tk,rfl,q⟩
 cases kd with
 |non=>cases ru;exact fin (.type "NoneType") (by rcases hT with rfl|rfl|rfl|rfl <;> rfl) PySem.W.kitx_none True.intro (λz=>nomatch z)
 |bl y=>cases ru;exact fin (.type "bool") (by rcases hT with rfl|rfl|rfl|rfl <;> rfl) PySem.W.kitx_bool True.intro (λz=>nomatch z)
 |int i=>obtain⟨t,rfl⟩:=ru;exact fin (.type "int") (by rcases hT with rfl|rfl|rfl|rfl <;> rfl) PySem.W.kitx_int True.intro (λz=>nomatch z)
 |str y=>obtain⟨t,rfl⟩:=ru;exact fin (.type "str") (by rcases hT with rfl|rfl|rfl|rfl <;> rfl) PySem.W.kitx_str True.intro (λz=>nomatch z)
 |@lst a xs ea =>
  cases ru;obtain⟨_,_,n,_,h1⟩:=(show ZBI X.prog X.w H s.heap a (.lst xs) from I.hok a _ ea);exact fin (.type "list") (by rcases hT with rfl|rfl|rfl|rfl <;> rfl) PySem.W.kitx_list ⟨_,h1,rfl⟩ (λz=>nomatch z)
 |@tup a xs ea =>
  cases ru;obtain⟨_,_,⟨o,h1,h2,_⟩,_⟩:=I.tuple ea;exact fin (.type "tuple") (by rcases hT with rfl|rfl|rfl|rfl <;> rfl) PySem.W.kitx_tuple ⟨o,h1,h2⟩ (λz=>nomatch z)
 |@dct a ea =>
  cases ru;obtain⟨⟨o,h1,h2,_⟩,_⟩:=(show ZBI X.prog X.w H s.heap a (ZO9 a) from I.hok a _ ea);exact fin (.type "dict") (by rcases hT with rfl|rfl|rfl|rfl <;> rfl) PySem.W.kitx_dict ⟨o,h1,h2⟩ (λz=>nomatch z)
def ZLG(mg:Yj)(x:Str)(n:Int):Prop:=∃t,mg x=some (.int n t)
theorem ZPo{x:Str}{n:Int}(hg:Gl X x)(h:ZLG X.mg x n)(hd:Yf x:=by decide):PE X (.Name x pos) (tC (.int n)):=by
 obtain⟨t,e⟩:=h;exact ZSl hg e ⟨t,rfl⟩ hd
end
end _L
namespace HT
open PySem PyProof.Rows
open Builtin
section
variable{prog:Program}{w:World}{A:Around}{E:Yi}{s:Shared}
theorem cat_tupA{t b:Addr}{vs ws:List Value}{Q:Yi}(ht:IsTup s.heap t vs.toArray)(hb:IsTup s.heap b ws.toArray)
  (h0:vs=[]->Q (.ref b) s)(h1:vs≠[]->ws=[]->Q (.ref t) s)(h2:vs≠[]->ws≠[]->Q (.ref s⁻¹) { s with heap:=s.heap.push { cls:=.type "tuple",data:=.seq (vs++ws).toArray } })
  (hsz:vs.length+ws.length<=sizeLine):Yl prog w A (binaryOp .Add (.ref t) (.ref b)) Q E s:=by
 by_cases hv:vs=[]
 .obtain⟨⟨cls,dd,data,sl⟩,ho,hc,n,hd⟩:=id ht
  obtain⟨⟨cls2,dd2,data2,sl2⟩,ho2,hc2,n2,hd2⟩:=id hb;simp only at hc hd hc2 hd2;subst hc hd hc2 hd2;exact concat_meets ⟨_,ho,rfl⟩ ⟨_,ho2,rfl⟩ noFill_tuple_add seq_tuple_add PySem.F.slot_tuple_add PySem.F.entry_tuple_add (PySem.F.args_tuple_add_2 _ _)
   (tuple_addW0 t b vs.toArray ws.toArray n n2 dd dd2 sl sl2 (by simp[hv])) ⟨ho,ho2,h0 hv⟩
 .exact ZRM ht hb hv (h1 hv) (h2 hv) hsz
theorem noFill_tuple_mul:fillsNumberSlot (.type "tuple") "mul" = pure false :=
 PySem.fillsNumberSlot_seq (id:="tuple.__mul__") (r:=some (.builtin "tuple.__rmul__")) F.slot_tuple_mul.lookup (by decide +kernel) F.slot_tuple_rmul.lookup (by decide +kernel)
theorem repeat_tuple:seqRepeat? (.type "tuple")=pure (some (.builtin "tuple.__mul__")):=by
 unfold seqRepeat?;rw[PySem.seqSlot_of (T:="tuple") (name:="__mul__") (id:="tuple.__mul__") F.slot_tuple_mul.lookup (by decide +kernel),PySem.seqSlot_of (T:="tuple") (name:="__rmul__") (id:="tuple.__rmul__") F.slot_tuple_rmul.lookup (by decide +kernel)];rfl
theorem rmul_tup(a:Int)(t:Tok)(l:Addr)(items:Array Value)(n:Nat)(dd:Option Addr)(sl:Array (Option Value)) :
  Meets (Builtin.«int.__rmul__» ⟨[.int a t,.ref l],[]⟩) (λ_ R s=>s.heap.get? l=some { cls:=.type "tuple",dict:=dd,data:=.seq items n,slots:=sl }/\R (.ok (.ret Value.notImplemented)) s) :=
 .of_wp λprog w A R s h=>by obtain⟨hp,g,d,tk,os⟩:=s;obtain⟨hl,h⟩:=h;wp_walk;exact⟨_,rfl,h⟩
theorem tuple_mulW(l:Addr)(items:Array Value)(n:Nat)(dd:Option Addr)(sl:Array (Option Value))(k:Int)(t:Tok)(hc0 : ¬(decide (k < -(2 ^ 63)) || decide (k ≥ 2 ^ 63))=true)(hc1 : ¬(items.isEmpty || k == 1)=true)(hc2 : ¬(decide (k<=0) || items.isEmpty)=true)
  (hc3 : ¬((items.size:Int)*k > (2 ^ 63-1) / 8))(hc4 : ¬Builtin.Tuple.tupleTooMany ((items.size:Int)*k)=true)(hsz:((List.replicate k.toNat items).foldl (·++·) #[]).size<=sizeLine) :
  Meets (Builtin.«tuple.__mul__» ⟨[.ref l,.int k t],[]⟩) (λ_ R s=>s.heap.get? l=some { cls:=.type "tuple",dict:=dd,data:=.seq items n,slots:=sl }/\R (.ok (.ret (Value.ref s⁻¹))) { s with heap:=s.heap.push { cls:=Value.type "tuple",data:=Data.seq ((List.replicate k.toNat items).foldl (·++·) #[]) },toks:=s.toks }) :=
 .of_wp λprog w A R s h=>by
  obtain⟨hp,g,d,tk,os⟩:=s;obtain⟨hl,h⟩:=h;have f1:=AutoSeq1.idx_int;have f2:=AutoSeq1.sub_tuple_tuple
  wp_walk using wpAny_loadPart' hl
  rw[Xn hc0]
  wp_walk using wpAny_loadPart' hl
  rw[Xn hc3]
  wp_walk using wpAny_loadPart' hl
  exact⟨_,rfl,h⟩
end
end HT
namespace _L
open PySem PySem.Spec PyProof.Rows H1
abbrev Hs:=Int×List (Int×Int)×List Int×List Int
noncomputable def ZI(ns:List Int):PyData:=.tuple (ns.map .int)
def Zl(h:Hs):PyData:=.tuple [.int h.1,ZZ h.2.1,ZI h.2.2.1,ZI h.2.2.2]
def Zm(t:Int)(hs:List Hs):PyData:=.tuple [.int t,.tuple (hs.map Zl)]
structure Ru where
 o:Int
 w:Int
 t:Int
 c:Int
 cl:List Str
noncomputable def clD(cl:List Str):PyData:=.tuple (cl.map .str)
def ruD(r:Ru):PyData:=.tuple [.int r.o,.int r.w,.int r.t,.int r.c,clD r.cl]
structure RuOk (r:Ru):Prop where
 o : 0<=r.o/\r.o<=3
 w : 1<=r.w/\r.w<=9
 t : 0<=r.t/\r.t<=9
 c : 0<=r.c/\r.c<=8
 l:r.cl.length<=7
def ZAs(c:Int×Int):Prop:=1<=c.1/\c.1<=4/\0<=c.2/\c.2<c.1
def ZS(cl:List Str)(x:Str):Bool:=inV (.str x) (cl.map V.str)
theorem ZPg(a b:Int×Int):(ZP a).eqv (ZP b)=decide (a=b):=by
 show((a.1 == b.1) && ((a.2 == b.2) && true))=decide (a=b);rw[Bool.eq_iff_iff,Bool.and_true,Bool.and_eq_true,beq_iff_eq,beq_iff_eq,decide_eq_true_iff,Prod.ext_iff]
def ZCl(cl:List Str)(old word:Int×Int):Bool:=if ZS cl "newer" = true then gtW word old else !decide (word=old)
def ZCv(cl:List Str)(h:Hs)(y:Nat)(w:Int×Int):Hs:=if h.1=1/\ZS cl "refute" = true/\gtW w (h.2.1.getD y (0,0))=true then (h.1,h.2.1.set y (w.1+1,0),h.2.2.1.set y 0,h.2.2.2) else h
def ZCu(cl:List Str)(h:Hs)(o:Nat)(w:Int×Int):Hs:=if ZCl cl (h.2.1.getD o (0,0)) w=true then (h.1,h.2.1.set o w,h.2.2.1.set o 0,if w.2=1 then h.2.2.2 else h.2.2.2.set o 0) else h
def ZY(cl:List Str)(y:Nat)(h:Hs)(n:Nat×(Int×Int)):Hs:=if n.1=y then ZCv cl h y n.2 else ZCu cl h n.1 n.2
def ZW(cl:List Str)(y:Nat)(h:Hs)(ns:List (Nat×(Int×Int))):Hs:=ns.foldl (ZY cl y) h
variable{i:Nat}
theorem ZLQ{α:Type}{xs:List α}{x y:α}{P:α->Prop}(h:∀z∈xs,P z)(hx:P x):y∈xs.set i x->P y:=λhy=>by
 rcases List.mem_or_eq_of_mem_set hy with z|z
 .exact h y z
 .rw[z];exact hx
theorem ZJ4{cl:List Str}{y:Nat}{h:Hs}{ns:List (Nat×(Int×Int))}{x:Nat×(Int×Int)}(e:ns[i]? = some x):ZW cl y h (ns.take (i+1))=ZY cl y (ZW cl y h (ns.take i)) x:=by
 unfold ZW;rw[take_add_one,e,foldl_append];rfl
noncomputable def ZAN(t:Int)(n:Nat):Hs:=(1,List.replicate n (0,0),List.replicate n t,List.replicate n 0)
end _L
namespace _L
open PySem PySem.W PyProof.Rows H1
noncomputable def ZNg{α:Type}(f:Nat->Nat->Option Bool):KasT α->Option α
 |.ret a=>some a
 |.ask i j k=>match f i j with
  |some b=>ZNg f (k b)
  |none=>none
theorem ZMg{α:Type}{cmp:Nat->Nat->(Bool->Shared->Prop)->Shared->Prop}{f:Nat->Nat->Option Bool}{s:Shared}{Q : α->Shared->Prop}(hc:∀i j b (C:Bool->Shared->Prop),f i j=some b->C b s->cmp i j C s):∀(t:KasT α) {a : α},ZNg f t=some a->Q a s->t.kasWp cmp Q s
 |.ret a,b,h,q=>by
  cases h;exact q
 |.ask i j k,a,h,q=>by
  show cmp i j (λb s'=>(k b).kasWp cmp Q s') s;unfold ZNg at h;cases hf:f i j with
  |none=>rw[hf] at h;cases h
  |some b =>
   rw[hf] at h;exact hc i j b _ hf (ZMg hc (k b) h q)
noncomputable def rkF(π : List Nat)(i j:Nat):Option Bool:=if (Nat.blt i π.length && Nat.blt j π.length)=true then some (Nat.blt (π.getD i 0) (π.getD j 0)) else none
def chk(π : List Nat):Bool:=match ZNg (rkF π) (kas_sort π.length) with
 |none=>false
 |some p=>p.toList.isPerm (List.range π.length) && (p.toList.map (λi=>π.getD i 0) == List.range π.length)
noncomputable def pl(n:Nat):Nat->List (List Nat)
 |0=>[[]]
 |k+1=>(pl n k).flatMap λl=>((List.range n).filter λx=>!l.contains x).map λx=>x::l
theorem ZQZ{n:Nat}:∀{π : List Nat},π.Nodup->(∀x∈π,x<n)->π∈pl n π.length
 |[],_,_=>List.mem_singleton.mpr rfl
 |x::r,hn,hl=>by
  obtain⟨h1,h2⟩:=List.nodup_cons.mp hn;show x::r∈(pl n r.length).flatMap _;rw[List.mem_flatMap];refine⟨r,ZQZ h2 λy hy=>hl y (Xo _ hy),List.mem_map.mpr ⟨x,List.mem_filter.mpr ⟨List.mem_range.mpr (hl x (Xs ..)),?_⟩,rfl⟩⟩;simpa using h1
theorem chk2:(pl 2 2).all chk=true:=by decide +kernel
theorem chk3:(pl 3 3).all chk=true:=by decide +kernel
theorem chk4:(pl 4 4).all chk=true:=by decide +kernel
theorem chk5:(pl 5 5).all chk=true:=by decide +kernel
theorem chk6:(pl 6 6).all chk=true:=by decide +kernel
theorem ZRh{n:Nat}(h2 : 2<=n)(h6:n<=6):(pl n n).all chk=true:=by
 obtain rfl|rfl|rfl|rfl|rfl:n=2\/n=3\/n=4\/n=5\/n=6:=⋯
 .exact chk2
 .exact chk3
 .exact chk4
 .exact chk5
 .exact chk6
theorem ZAj{α:Type}{p q : α->Bool}:∀{l:List α},(∀x∈l,p x=true->q x=true)->(∃x,x∈l/\q x=true/\p x=false)->l.countP p<l.countP q
 |[],_,⟨_,z,_⟩=>nomatch z
 |a::r,h,⟨x,hx,hq,hp⟩=>by
  rw[List.countP_cons,List.countP_cons];have hle:r.countP p<=r.countP q:=List.countP_mono_left λy hy=>h y (Xo _ hy)
  have ha:=h a (Xs ..);rcases List.mem_cons.mp hx with rfl|hx
  .rw[hq,hp,Xp rfl,Xn (by decide)]
   omega
  .have:=ZAj (λy hy=>h y (Xo _ hy)) ⟨x,hx,hq,hp⟩
   by_cases c:p a=true
   .rw[c,ha c]
    omega
   .rw[Xn c]
    omega
theorem ZEK(a:Int×Int):gtW a a=false:=by
 cases h:gtW a a with
 |false=>rfl
 |true =>
  rcases ZAD.mp h with z|z
  .omega
  .omega
variable{a b:Int×Int}
theorem ZOI{c:Int×Int}(h1:gtW a b=true)(h2:gtW b c=true):gtW a c=true:=by
 rw[ZAD] at *;omega
theorem ZMP(h:a≠b):gtW a b=true\/gtW b a=true:=by
 rw[ZAD,ZAD]
 by_cases c:a.1=b.1
 .by_cases d:a.2=b.2
  .exact absurd (Prod.ext c d) h
  .omega
 .omega
def ZCr(ks:List (Int×Int))(k:Int×Int):Nat:=ks.countP λx=>gtW k x
variable{ks:Qi}
theorem ZTK{k:Int×Int}(h:k∈ks):ZCr ks k<ks.length:=by
 have:=ZAj (p:=λx=>gtW k x) (q:=λ_=>true) (l:=ks) (λ_ _ _=>rfl) ⟨k,h,rfl,ZEK k⟩;rw[List.countP_true] at this
 exact this
theorem ZDX(h:a∈ks)(g:gtW b a=true):ZCr ks a<ZCr ks b :=
 ZAj (λ_ _ e=>ZOI g e) ⟨a,h,g,ZEK a⟩
theorem ZJ3(ha:a∈ks)(hb:b∈ks):Nat.blt (ZCr ks a) (ZCr ks b)=gtW b a:=by
 cases h:gtW b a with
 |true=>exact Nat.blt_eq.mpr (ZDX ha h)
 |false =>
  cases c:Nat.blt (ZCr ks a) (ZCr ks b) with
  |false=>rfl
  |true =>
   have c:=Nat.blt_eq.mp c
   by_cases e:a=b
   .rw[e] at c
    exact absurd c (lt_irrefl _)
   .rcases ZMP e with z|z
    .have:=ZDX hb z
     omega
    .rw[h] at z
     cases z
def ZOC(ks:List (Int×Int))(i j:Nat):Option Bool:=if (Nat.blt i ks.length && Nat.blt j ks.length)=true then some (gtW (ks.getD j (0,0)) (ks.getD i (0,0))) else none
variable{i:Nat}
theorem ZFB{α:Type}{xs:List α}{d:α}(h:i<xs.length):xs.getD i d∈xs:=by
 rw[Xq,getElem?_eq_getElem h];exact getElem_mem h
theorem ZDQ{g:Int×Int->Nat}(h:i<ks.length):(ks.map g).getD i 0=g (ks.getD i (0,0)):=by
 rw[Xq,Xq,getElem?_map,getElem?_eq_getElem h];rfl
theorem ZRx(ks:Qi):ZOC ks=rkF (ks.map (ZCr ks)):=by
 funext i j
 unfold ZOC rkF;rw[Xm]
 by_cases c:(Nat.blt i ks.length && Nat.blt j ks.length)=true
 .rw[Xp c,Xp c]
  have c':=c;rw[Bool.and_eq_true,blt_eq,blt_eq] at c';rw[ZDQ c'.1,ZDQ c'.2,ZJ3 (ZFB c'.1) (ZFB c'.2)]
 .rw[Xn c,Xn c]
theorem ZLd(hn:ks.Nodup)(h2 : 2<=ks.length)(h6:ks.length<=6):∃p:Array Nat,ZNg (ZOC ks) (kas_sort ks.length)=some p/\p.toList.Perm (List.range ks.length)/\(p.toList.map λi=>ks.getD i (0,0)).Pairwise (λa b=>gtW b a=true):=by
 have hN:(ks.map (ZCr ks)).Nodup:=by
  unfold List.Nodup;rw[pairwise_map];refine List.Pairwise.imp_of_mem (λ{a b} ha hb hab e=>?_) hn;rcases ZMP hab with z|z
  .have:=ZDX hb z
   omega
  .have:=ZDX ha z
   omega
 have hL:∀x∈ks.map (ZCr ks),x<ks.length:=λx hx=>by
  obtain⟨k,hk,rfl⟩:=List.mem_map.mp hx;exact ZTK hk
 have hm:=ZQZ hN hL;rw[Xm] at hm;have hc:=List.all_eq_true.mp (ZRh h2 h6) _ hm;unfold chk at hc;rw[<-ZRx,Xm] at hc;cases hr:ZNg (ZOC ks) (kas_sort ks.length) with
 |none=>rw[hr] at hc;cases hc
 |some p =>
  rw[hr] at hc;have hc:=Bool.and_eq_true_iff.mp hc;have hp:p.toList.Perm (List.range ks.length):=List.isPerm_iff.mp hc.1;have he:p.toList.map (λi=>(ks.map (ZCr ks)).getD i 0)=List.range ks.length:=eq_of_beq hc.2;refine⟨p,rfl,hp,?_⟩;have hw:(p.toList.map (λi=>(ks.map (ZCr ks)).getD i 0)).Pairwise (· < ·):=by
   rw[he];exact List.pairwise_lt_range
  rw[pairwise_map] at hw ⊢;refine List.Pairwise.imp_of_mem (λ{a b} ha hb hab=>?_) hw;have ha':=List.mem_range.mp (hp.mem_iff.mp ha);have hb':=List.mem_range.mp (hp.mem_iff.mp hb);rw[ZDQ ha',ZDQ hb'] at hab;rw[<-ZJ3 (ZFB ha') (ZFB hb')];exact Nat.blt_eq.mpr hab
end _L
namespace _L
open PySem PySem.Spec PySem.W PyProof.Rows H1
inductive PairsIn (h:Heap):List Value->List (Int×Int)->Prop
 |nil:PairsIn h [] []
 |cons {a:Addr} {k:Int×Int} {t u:Tok} {vs:List Value} {ks:List (Int×Int)}:IsTup h a #[.int k.1 t,.int k.2 u]->PairsIn h vs ks->PairsIn h (.ref a::vs) (k::ks)
theorem PairsIn.keep{h h':Heap}(g:∀a its,IsTup h a its->IsTup h' a its):∀{vs:List Value} {ks:Qi},PairsIn h vs ks->PairsIn h' vs ks
 |_,_,.nil=>.nil
 |_,_,.cons a b=>.cons (g _ _ a) (PairsIn.keep g b)
theorem PairsIn.len{h:Heap}:∀{vs:List Value} {ks:Qi},PairsIn h vs ks->vs.length=ks.length
 |_,_,.nil=>rfl
 |_,_,.cons _ b=>congrArg Nat.succ b.len
theorem PairsIn.at{h:Heap}:∀{vs:List Value} {ks:Qi},PairsIn h vs ks->∀{i:Nat},i<ks.length->∃a t u,vs.getD i Value.none=.ref a/\IsTup h a #[.int (ks.getD i (0,0)).1 t,.int (ks.getD i (0,0)).2 u]
 |_,_,.nil,i,z=>absurd z (not_lt_zero _)
 |_,_,.cons a b,0,_=>⟨_,_,_,rfl,a⟩
 |_,_,.cons a b,i+1,z=>b.at (Nat.lt_of_succ_lt_succ z)
theorem PairsIn.firsts{h:Heap}:∀{vs:List Value} {ks:Qi},PairsIn h vs ks->∃fs,KatTups h vs fs/\fs.length=ks.length/\∀v∈fs,∃n t,v=Value.int n t
 |_,_,.nil=>⟨[],KatTups.nil,rfl,λ_ z=>nomatch z⟩
 |_,_,.cons a b=>by
  obtain⟨o,h1,h2,n,h3⟩:=a;obtain⟨fs,f1,f2,f3⟩:=b.firsts;refine⟨_::fs,KatTups.cons h1 h2 h3 rfl f1,congrArg Nat.succ f2,λv hv=>?_⟩;rcases List.mem_cons.mp hv with rfl|hv
  .exact⟨_,_,rfl⟩
  .exact f3 v hv
variable{a:Addr}{vs:List Value}{ks:Qi}
section
variable{prog:Program}{w:World}{A:Around}{E:Yi}{s:Shared}
theorem ZS5{b:Addr}{x y:Int×Int}{t u t' u':Tok}{C:Bool->Shared->Prop}(ha:IsTup s.heap a #[.int x.1 t,.int x.2 u])(hb:IsTup s.heap b #[.int y.1 t',.int y.2 u'])(h:C (gtW y x) s) :
  Yl prog w A (keyLt' (tuples' true) (.ref a) (.ref b)) C E s:=by
 obtain⟨o,h1,_,n,h2⟩:=ha;obtain⟨o',h1',_,n',h2'⟩:=hb;refine kat_lt h1 h2 h1' h2' ?_;show KatLex prog w A true (decide ((2:Nat)<2)) C [(.int x.1 t,.int y.1 t'),(.int x.2 u,.int y.2 u')] 0 s;refine kat_cons (wpAny_eqBool_int (kat_go (λe=>kat_yes (kat_cons (wpAny_eqBool_int (kat_go (λe2=>kat_yes (kat_nil ?_)) (λe2=>kat_no (kat_one _ _ (wpAny_lt_int ?_))))))) (λe=>kat_no ?_)))
 .have e:=eq_of_beq e
  have e2:=eq_of_beq e2;have:gtW y x=false:=by
   rw[show y=x from (Prod.ext e e2).symm];exact ZEK x
  rw[this] at h;exact h
 .have e:=eq_of_beq e
  show C (decide (x.2<y.2)) s;have:gtW y x=decide (x.2<y.2):=by
   rw[Bool.eq_iff_iff,ZAD,decide_eq_true_eq];omega
  rw[<-this];exact h
 .have e : ¬x.1=y.1:=by simpa using e
  show Yl prog w A (oneLt' true (.int x.1 t) (.int y.1 t')) C (λ_ _=>False) s;refine oneLt_int ?_;have:gtW y x=decide (x.1<y.1):=by
   rw[Bool.eq_iff_iff,ZAD,decide_eq_true_eq];omega
  rw[<-this];exact h
theorem ZK2{Q:SortKind->Shared->Prop}(hp:PairsIn s.heap vs ks)(h0 : 0<ks.length)(h:Q (tuples' true) s):Yl prog w A (keyKind' vs.toArray) Q E s:=by
 obtain⟨fs,f1,f2,f3⟩:=hp.firsts;refine kat_kind (T:=.type "int") f1 ⋯ (λv hv=>?_) rfl h;obtain⟨n,t,rfl⟩:=f3 v hv;exact λA Q E s _ q=>Xu q
theorem ZBj{α:Type}(xs:List α)(d : α):(List.range xs.length).map (λi=>xs.getD i d)=xs:=by
 refine ext_getElem (by simp) λi h1 h2=>?_
 simp[h2]
theorem ZFQ{n:Nat}{P:PySem.Fin->Shared->Prop}(ho:s.heap.get? a=some (seqObj "list" vs.toArray n))(hp:PairsIn s.heap vs ks)(hn:ks.Nodup)(h6:ks.length<=6)
  (h:∀p:List Nat,p.Perm (List.range ks.length)->(p.map λi=>ks.getD i (0,0)).Pairwise (λa b=>gtW b a=true)->P (.done (.ret .none)) { s with heap:=sortedHeap s.heap a vs (p.map λi=>vs.getD i Value.none).toArray }) :
  Yl prog w A (Builtin.«list.sort» ⟨[.ref a],[]⟩) P E s:=by
 have hlen:=hp.len;rw[list_sort_plain];have ha:a<s⁻¹:=lt_size ho;refine Xb (listItems_at ho rfl ?_);refine Xb (listUpdate_at ho rfl ?_);obtain⟨e1,ho1⟩:∃e1,(s.heap.update a (Obj.mapSeq λ_=>#[])).get? a=some (seqObj "list" #[] e1):=⟨_,get?_update_seq ho (λ_=>#[])⟩;refine Xb (seqEpoch_at ho1 rfl ?_);refine Xb (wpAny_newTuple ?_);refine Xb (wpAny_newList ?_);refine wpAny_holding ?_;have old:∀b,b≠a->b<s⁻¹->(((s.heap.update a (Obj.mapSeq λ_=>#[])).push (seqObj "tuple" vs.toArray 0)).push (seqObj "list" #[] 0)).get? b=s.heap.get? b:=λb hb hlt=>by
  rw[get?_push_ne _ _ _ (by rw[size_push',size_update];exact ne_of_lt (lt_succ_of_lt hlt)),get?_push_ne _ _ _ (by rw[size_update];exact ne_of_lt hlt),Heap.get?_update_ne _ _ _ _ hb]
 have ho6:(((s.heap.update a (Obj.mapSeq λ_=>#[])).push (seqObj "tuple" vs.toArray 0)).push (seqObj "list" #[] 0)).get? a=some (seqObj "list" #[] e1):=by
  rw[get?_push_ne _ _ _ (by rw[size_push',size_update];exact ne_of_lt (lt_succ_of_lt ha)),get?_push_ne _ _ _ (by rw[size_update];exact ne_of_lt ha)];exact ho1
 have hp6:PairsIn (((s.heap.update a (Obj.mapSeq λ_=>#[])).push (seqObj "tuple" vs.toArray 0)).push (seqObj "list" #[] 0)) vs ks:=hp.keep λb its hb=>by
  obtain⟨o,h1,h2,h3⟩:=hb;refine⟨o,?_,h2,h3⟩;rw[old b (λe=>?_) (lt_size h1)]
  .exact h1
  .rw[e,ho] at h1
   cases h1;exact absurd (show Value.type "list" = Value.type "tuple" from h2) (by decide)
 show Yl prog w A _ P E { s with heap:=((s.heap.update a (Obj.mapSeq λ_=>#[])).push (seqObj "tuple" vs.toArray 0)).push (seqObj "list" #[] 0) };dsimp only;have hsz:vs.toArray.size=vs.length:=by simp
 by_cases h2:vs.toArray.size<2
 .rw[Xp h2,Xp h2]
  refine Xb (Xu ?_);rw[StateT.run_pure];refine Xb (Xu ?_);dsimp only;refine Xb (seqEpoch_at ho6 rfl ?_);refine Xb (listUpdate_at ho6 rfl ?_ (hsz2:=by rw[Array.size_map];show(pairsOf vs).size<=_;rw[pairsOf_size,sizeLine_eq];omega));simp only[bne_self_eq_false,Bool.false_eq_true,if_false];have e:(arrOf (SortSt.mk' general' (vs.toArray.zip vs.toArray) #[] 7 none)).map (·.2)=((List.range ks.length).map λi=>vs.getD i Value.none).toArray:=by
   rw[<-hlen,ZBj];show(vs.toArray.zip vs.toArray).map (·.2)=vs.toArray;apply Array.toList_inj.mp;simp;rw[<-List.unzip_snd,List.unzip_zip rfl]
  have q:=h (List.range ks.length) (List.Perm.refl _) (by
   rw[ZBj]
   match ks,(show ks.length<2 by omega) with
   |[],_=>exact .nil
   |[x],_=>exact List.pairwise_singleton _ _
   |x::y::r,z=>exact absurd z (by simp))
  rw[<-e] at q;exact Xu q
 .rw[Xn h2,Xn h2]
  obtain ⟨p,hr,hpp,hps⟩:=ZLd hn ⋯ h6;refine Xb (ZK2 (s:={ s with heap:=((s.heap.update a (Obj.mapSeq λ _=>#[])).push (seqObj "tuple" vs.toArray 0)).push (seqObj "list" #[] 0) }) hp6 ⋯ ?_);refine Xb (wpAny_mono (kat_run (ks:=vs) (vs:=vs) (κ:=tuples' true) (G:=λ p' s'=>p'=p/\s'={ s with heap:=((s.heap.update a (Obj.mapSeq λ _=>#[])).push (seqObj "tuple" vs.toArray 0)).push (seqObj "list" #[] 0) })
   (Q:=λst' s'=>s'={ s with heap:=((s.heap.update a (Obj.mapSeq λ_=>#[])).push (seqObj "tuple" vs.toArray 0)).push (seqObj "list" #[] 0) }/\failedOf st'=none/\(arrOf st').map (·.2)=(p.toList.map λi=>vs.getD i Value.none).toArray) rfl ⋯ ⋯ (λp' st' s' hz har hf hG=>⟨hG.2,hf,by rw[<-hG.1];exact kat_snds rfl har⟩)
   (ZMg (f:=ZOC ks) (λi j b C hf hC=>?_) _ (by rw[hlen];exact hr) ⟨rfl,rfl⟩)) (λr s' hr'=>?_) λ_ _ e=>e)
  .unfold ZOC at hf
   by_cases c:(Nat.blt i ks.length && Nat.blt j ks.length)=true
   .rw[Xp c] at hf
    cases hf;rw[Bool.and_eq_true,blt_eq,blt_eq] at c;obtain⟨x,t,u,e,hx⟩:=hp6.at c.1;obtain⟨y,t',u',e',hy⟩:=hp6.at c.2;unfold kas_ask;rw[e,e'];exact ZS5 hx hy hC
   .rw[Xn c] at hf
    cases hf
  .obtain⟨⟨⟩,st'⟩:=r
   obtain⟨rfl,hf,hm⟩:=hr';dsimp only at hf hm ⊢;have hpl:p.toList.length=ks.length:=by rw[hpp.length_eq,length_range]
   refine Xb (seqEpoch_at ho6 rfl ?_);refine Xb (listUpdate_at ho6 rfl ?_ (hsz2:=by rw[hm];simp;rw[sizeLine_eq,<-Array.length_toList];omega));rw[hf];simp only[bne_self_eq_false,Bool.false_eq_true,if_false];have q:=h p.toList hpp hps;rw[<-hm] at q;exact Xu q
theorem ZIT{l:Addr}{Q:Yi}(hl:s.heap.IsList l vs.toArray)(hp:PairsIn s.heap vs ks)(hn:ks.Nodup)(h6:ks.length<=6)
  (h:∀p:List Nat,p.Perm (List.range ks.length)->(p.map λi=>ks.getD i (0,0)).Pairwise (λa b=>gtW b a=true)->Q (.ref (s⁻¹+1)) { s with heap:=sortedAll s.heap vs (p.map λi=>vs.getD i Value.none).toArray }) :
  Yl prog w A (call (.builtin "sorted") [.ref l]) Q E s:=by
 have hlen:=hp.len;refine Calls.call_function_entry kind_sorted plain_sorted entry_sorted (args_sorted1 _) ?_;unfold Builtin.«sorted»;refine Xb (m:=checkCount "sorted" 1 1 _) (Xu ?_);refine Xb (collect_list hl ?_ (by rw[sizeLine_eq];omega));refine Xb (wpAny_newList ?_ (by rw[sizeLine_eq];omega));have hsz:((s.heap.push (seqObj "list" #[] 0)).update s⁻¹ (Obj.mapSeq (·++vs.toArray))).objs.size=s⁻¹+1:=by
  rw[size_update,size_push']
 have hoL:(((s.heap.push (seqObj "list" #[] 0)).update s⁻¹ (Obj.mapSeq (·++vs.toArray))).push (seqObj "list" vs.toArray 0)).get? (s⁻¹+1)=some (seqObj "list" vs.toArray 0):=by
  rw[<-hsz];exact get?_push_size _ rfl
 have hp2:PairsIn (((s.heap.push (seqObj "list" #[] 0)).update s⁻¹ (Obj.mapSeq (·++vs.toArray))).push (seqObj "list" vs.toArray 0)) vs ks:=hp.keep λb its hb=>by
  obtain⟨o,h1,h2⟩:=hb;have hlt:b<s⁻¹:=lt_size h1;refine⟨o,?_,h2⟩;rw[get?_push_ne _ _ _ (by rw[hsz];exact ne_of_lt (lt_succ_of_lt hlt)),Heap.get?_update_ne _ _ _ _ (ne_of_lt hlt),get?_push_ne _ _ _ (ne_of_lt hlt)];exact h1
 show wpAny _ _ _ _ _ { s with heap:=((s.heap.push (seqObj "list" #[] 0)).update s⁻¹ (Obj.mapSeq (·++vs.toArray))).push (seqObj "list" vs.toArray 0) };rw[hsz];refine Xb (wpAny_holding (wpAny_call_entry slot_list_sort ⟨_,hoL,rfl⟩ entry_list_sort (ZFQ hoL hp2 hn h6 λp a1 a2=>⟨_,rfl,?_⟩) (args_list_sort _)));exact Xu ⟨_,rfl,h p a1 a2⟩
end
end _L
namespace _L
open PySem PySem.Spec PyProof.Rows H1
section
variable{X:Cx}{pq:Yh}{σ:St}{H:Hp}{s:Shared}
theorem ZMA:∀{ys:List V} {its:List Value},Zb ys its->∀{i:Nat},i<ys.length->Zq (ys.getD i .non) (its.getD i .none)
 |_,_,.nil,_,z=>absurd z (not_lt_zero _)
 |_,_,.cons r _,0,_=>r
 |_,_,.cons _ r,i+1,z=>ZMA r (Nat.lt_of_succ_lt_succ z)
theorem ZHW{ys:List V}{its:List Value}(r:Zb ys its):∀{p:List Nat},(∀i∈p,i<ys.length)->Zb (p.map λi=>ys.getD i .non) (p.map λi=>its.getD i .none)
 |[],_=>.nil
 |i::p,h=>.cons (ZMA r (h i (Xs ..))) (ZHW r λj hj=>h j (Xo _ hj))
end
noncomputable def ZAE(c:Int×Int)(n:Int):Int:=if n<c.2 then 0 else (n-c.2) / c.1+1
def ZAg(cl:List Str)(x y a:Int):List Int:=(y::if ZS cl "own" = true then [x] else [])++if ZS cl "about" = true/\a≠x then [a] else []
noncomputable def ZDC(told:List Int)(most x:Int)(due:List Int)(m:Nat):List (Int×Int):=((List.range m).filter λj=>decide (told.getD j 0<most) && (!decide ((j:Int)=x) && !due.contains (j:Int))).map λj=>(told.getD j 0,(j:Int))
def Z6(told:List Int)(most x:Int)(due:List Int):List (Int×Int):=ZDC told most x due told.length
theorem ZEJ(told:List Int)(most x:Int)(due:List Int):(Z6 told most x due).Nodup:=by
 unfold Z6 ZDC List.Nodup;rw[pairwise_map];refine List.Pairwise.imp (λ{a b} h e=>?_) (List.Pairwise.filter _ List.pairwise_lt_range);have:=congrArg Prod.snd e;have:(a:Int)=(b:Int):=this
 omega
variable{most x:Int}{due:List Int}
theorem ZOO{told:List Int}{y:Int}{i j:Nat}(hx:x=(i:Int))(hy:y=(j:Int))(hi:i<told.length)(hj:j<told.length)(hne:j≠i)(hm:y∈due):(Z6 told most x due).length+2<=told.length:=by
 unfold Z6 ZDC;rw [Xm,<- List.countP_eq_length_filter];have h1:=ZAj (l:=List.range told.length) (p:=λ j=>decide (told.getD j 0 < most) && (!decide ((j:Int)=x) && !due.contains (j:Int))) (q:=λ j=>!decide ((j:Int)=x)) (λ z _ e=>by
  rw[Bool.and_eq_true,Bool.and_eq_true] at e;exact e.2.1) ⟨j,List.mem_range.mpr hj,by rw[hx,decide_eq_false ⋯];rfl,by
   rw[<-hy,List.contains_iff_mem.mpr hm];simp⟩
 have h2:=ZAj (l:=List.range told.length) (p:=λj:Nat=>!decide ((j:Int)=x)) (q:=λ_=>true) (λ_ _ _=>rfl) ⟨i,List.mem_range.mpr hi,rfl,by rw[hx,Xe rfl];rfl⟩;rw[List.countP_true,length_range] at h2;omega
noncomputable def ZAO(book:List (Int×Int))(due news:List Int)(m:Nat):List (Nat×(Int×Int)):=((List.range m).filter λj:Nat=>due.contains (j:Int) || news.contains (j:Int)).map λj=>(j,book.getD j (0,0))
noncomputable def Z9(told:List Int)(news:List Int):List Int:=news.foldl (λt k=>t.set k.toNat (t.getD k.toNat 0+1)) told
theorem ZBb:∀{news told:List Int},(Z9 told news).length=told.length
 |[],_=>rfl
 |k::r,told=>by
  show(Z9 (told.set k.toNat (told.getD k.toNat 0+1)) r).length=told.length;rw[ZBb,length_set]
theorem ZNQ{told:List Int}{p:Int×Int}(h:p∈Z6 told most x due) : 0<=p.2/\p.2.toNat<told.length:=by
 unfold Z6 ZDC at h;obtain⟨j,hj,rfl⟩:=List.mem_map.mp h;have:=List.mem_range.mp (List.mem_filter.mp hj).1;exact⟨by show(0:Int)<=(j:Int);omega,by show(j:Int).toNat<_;omega⟩
theorem ZKr(told news:List Int)(k:Int):Z9 told (news++[k])=(Z9 told news).set k.toNat ((Z9 told news).getD k.toNat 0+1):=by
 unfold Z9;rw[foldl_append];rfl
end _L
namespace _L
open PySem PySem.Spec PyProof.Rows
section
variable{X:Cx}
theorem ZKi:Zi X (.builtin "sorted") (λxs H Q=>∃(p:Addr) (ns:List Int),xs=[.ref p]/\SqL X.K H p (ns.map V.int)/\ns.length<64/\∀l (ms:List Int),H l=none->ms.Perm ns->ms.Pairwise (· <= ·)->Q (.ref l) (upd H l (.lst (ms.map V.int)))):=by
 intro pq s σ H xs us Q I r h;obtain⟨p,ns,rfl,hq,hn,q⟩:=h;obtain⟨u,rfl,ru⟩:=ZBt r;cases ru;obtain⟨its,rv,pl,hz⟩:=I.list hq;have hlen:=rv.length;rw[Xm] at hlen;refine sorted_ints (vs:=its) (ns:=ns) pl.isList (ZDw rv) ⋯ λout ns' ia pm pw=>?_
 obtain⟨e,he⟩:=sortedAll_at s.heap its out;have rv':Zb (ns'.map V.int) out.toList:=by
  clear pm pw he
  generalize out.toList=l at ia
  induction ia with
  |nil=>exact .nil
  |cons a t h ih=>exact .cons ⟨t,rfl⟩ ih
 refine⟨.ref (s⁻¹+1),_,I.laid (t':=s.toks) (λb o e=>sortedAll_old e) (le_succ _) (o:=.lst (ns'.map V.int)) ⟨?_,out.toList,e,rv',by simpa using he⟩,rfl,q _ ns' (I.hok.fresh (le_succ _)) pm pw⟩;rw[Xm,pm.length_eq];exact le_of_lt (Zt ⋯)
end
end _L
namespace _L
open PySem PySem.Spec PyProof.Rows H1
variable{js:Qi}
theorem ZLL(ps:js.Pairwise (λa b=>gtW b a=true)){c:Nat}{p h:Int×Int}(hp:p∈js)(hn:p∉js.take c)(hh:h∈js.take c):gtW p h=true:=by
 rw[<-List.take_append_drop c js] at ps hp;rcases List.mem_append.mp hp with z|z
 .exact absurd z hn
 .exact(List.pairwise_append.mp ps).2.2 h hh p z
variable{α:Type}
theorem ZOu{js:List α}{c:Nat}(h:(js.take c).length<c):js.take c=js:=by
 rw[length_take] at h;exact take_of_length_le ⋯
variable{most:Int}{due:List Int}
theorem ZLA{told:List Int}{x:Int}{c:Nat}(pm:js.Perm (Z6 told most x due)):((js.take c).map λp=>p.2).Nodup:=by
 have h1:(js.map λp=>p.2).Nodup:=by
  refine(pm.map λp=>p.2).nodup_iff.mpr ?_;unfold Z6 ZDC List.Nodup;rw[map_map,pairwise_map];refine List.Pairwise.imp (λ{a b} h e=>?_) (List.Pairwise.filter _ List.pairwise_lt_range);have e:(a:Int)=(b:Int):=e;omega
 exact h1.sublist ((List.take_sublist c js).map λp=>p.2)
theorem ZLE{told:List Int}{x:Int}{p:Int×Int}(h:p∈Z6 told most x due):∃j:Nat,p=(told.getD j 0,(j:Int))/\j<told.length/\told.getD j 0<most/\(j:Int)≠x/\(j:Int)∉due:=by
 unfold Z6 ZDC at h;obtain⟨j,hj,rfl⟩:=List.mem_map.mp h;obtain⟨h1,h2⟩:=List.mem_filter.mp hj;rw[Bool.and_eq_true,Bool.and_eq_true] at h2;exact⟨j,rfl,List.mem_range.mp h1,Xd h2.1,by simpa using h2.2.1,by simpa using h2.2.2⟩
theorem ZF0{told:List Int}{x:Int}{j:Nat}(h1:j<told.length)(h2:told.getD j 0<most)(h3:(j:Int)≠x)(h4:(j:Int)∉due):(told.getD j 0,(j:Int))∈Z6 told most x due:=by
 unfold Z6 ZDC;refine List.mem_map.mpr ⟨j,List.mem_filter.mpr ⟨List.mem_range.mpr h1,?_⟩,rfl⟩;rw[Bool.and_eq_true,Bool.and_eq_true];exact⟨Xe h2,by simpa using h3,by simpa using h4⟩
theorem ZGT{c:Int×Int}{n:Int}(h:ZAs c)(h0 : 0<=n):ZAE c n=(n-c.2) / c.1+1:=by
 obtain⟨h1,h2,h3,h4⟩:=h;unfold ZAE
 by_cases z:n<c.2
 .rw[Xp z]
  have:(n-c.2) / c.1 = -1:=by
   rw[Int.ediv_eq_iff_of_pos ⋯];constructor <;> omega
  omega
 .rw[Xn z]
theorem ZN8:typeLookup (.type "list") "keys" = pure none:=am_miss_of_fast (by decide +kernel)
variable{a:Addr}{items:Array Value}{ps:List (Key×Value)}{ns:List Int}
section
variable{prog:Program}{w:World}{A:Around}{E:Yi}{s:Shared}
theorem ZKC{Q:Option Value->Shared->Prop}{xs:Array Value}{k:Nat}(hx:s.heap.get? a=some { cls:=.type "list",dict:=none,data:=.seq xs k })(hA:A.handled=none)
  (h:∀h' tk,(∀b o,s.heap.get? b=some o->h'.get? b=some o)->Q none { s with heap:=h',toks:=tk }):wpAny (model prog w) A (getAttr? (.ref a) "keys") Q E s:=by
 obtain⟨hp,g,d,tk,os⟩:=s;have hT:∀tk',(⟨hp,g,d,tk',os⟩:Shared).TypeIs (.ref a) "list":=λ_=>⟨_,hx,rfl⟩
 have f1:=sub_AttributeError;have f3:=F.slot_list_getattribute.lookup;have f4:=F.slot_list_getattribute.bind (.ref a);have f5:=am_list_getattr_none;unfold getAttr? getAttrBy? getAttrBy
 repeat (any_goals (first|assumption|exact hT _|((with_reducible show wpAny _ _ (call (Value.builtin "list.__getattribute__") _ _) _ _ _);refine call_meets F.slot_list_getattribute (hT _) am_entry_list_getattribute (F.args_list_getattribute_2 _ _) (meets_getattribute_miss_list a xs k _ "keys" _ ZN8 (by decide +kernel) (by decide +kernel)) ⟨hx,hA,λh' tk' e hx'=>?_⟩)|wp_step))
 obtain⟨t',u',he⟩:=hx'.there;show wpAny _ _ (getattributeRaised _ _ _ _ _ _ _) _ _ _;unfold getattributeRaised
 repeat (any_goals (first|assumption|wp_step))
 exact h _ _ hx'.keeps
theorem ZCs:entryFor table "dict.update.loop" = some Builtin.«dict.update.loop»:=entryFor_of_tree (by kernel_rfl)
theorem ZAn:plainId "dict.update.loop" = true:=by decide +kernel
theorem ZGo{R:Result->Shared->Prop}{d I l:Addr}{h0:Heap}{St:Nat->Heap->Prop}(hdI:d≠I)(hdl:d≠l)(W:Walks prog w A.in1 I [I,l] [I] items.size (λi v=>items[i]? = some v) St)
  (hps:ps.length=items.size)(hz:items.size<=sizeLine)(ht:∀(i:Nat) (v:Value),items[i]? = some v->∃p a kv,ps[i]? = some p/\v=.ref a/\ZEW p.1 kv=true/\a≠d/\a≠I/\IsTup h0 a #[kv,p.2]) :
  ∀(k i:Nat) (t:Tok) (s:Shared),items.size-i=k->i<=items.size->St i s.heap->(∀b o,b≠d->b≠I->h0.get? b=some o->s.heap.get? b=some o)->s.heap.DictOf (ZBE prog w) d (merged [] (ps.take i)) ->
  (∀h' tk,h'.DictOf (ZBE prog w) d (merged [] ps)->(∀b o,b≠d->b≠I->h0.get? b=some o->h'.get? b=some o)->R (.ok (.ret .none)) { s with heap:=h',toks:=tk }) ->
  codeAny (model prog w) A (.builtin "dict.update.loop" ⟨[.ref d,.ref I,.int i t,.none],[]⟩) R s:=by
 intro k
 induction k with
 |zero =>
  intro i t s hk hi hst hh hd hR;have hin:i=items.size:=⋯
  subst hin;refine codeAny_builtin ZCs ?_;rw[Around.under_plainId ZAn _];show wpAny _ A.in1 (pyNext (.ref I) >>= _) _ _ s;refine Xb (W.done s _ _ hst λh' tk hm=>?_);show wpAny _ A.in1 (Builtin.Dict.addKeywords d [] >>= _) _ _ _;refine Xb (Xu (Xu (hR h' tk ?_ λb o h1 h2 e=>hm b o (by simp only[mem_singleton];exact h2) (hh b o h1 h2 e))));rw[<-hps,take_length] at hd;obtain⟨o,es,ep,ho,r⟩:=hd;exact⟨o,es,ep,hm d o (by simp only[mem_singleton];exact hdI) ho,r⟩
 |succ k ih =>
  intro i t s hk hi hst hh hd hR;have hlt:i<items.size:=⋯
  refine codeAny_builtin ZCs ?_;rw[Around.under_plainId ZAn _];show wpAny _ A.in1 (pyNext (.ref I) >>= _) _ _ s;refine Xb (W.item i s _ _ hlt hst λv h' tk hP hst' hm=>?_);obtain⟨p,a,kv,hp,rfl,hkv,had,haI,⟨oa,hoa,hca,na,hda⟩⟩:=ht i v hP;have hoa':h'.get? a=some oa:=hm a oa (by simp only[mem_singleton];exact haI) (hh a oa had haI hoa);have hd':h'.DictOf (ZBE prog w) d (merged [] (ps.take i)):=by
   obtain⟨o,es,ep,ho,r⟩:=hd;exact⟨o,es,ep,hm d o (by simp only[mem_singleton];exact hdI) ho,r⟩
  show wpAny _ A.in1 (holding [Value.ref a] _ >>= _) _ _ _;refine Xb (wpAny_holding ?_);refine Xb ?_;refine wpAny_tryCatch ?_;unfold Builtin.Dict.pairItems;refine Xb (wpAny_typeOf (T:="tuple") ⟨oa,hoa',hca⟩ ?_);rw[Xp (by decide)];refine Xb (wpAny_seqItems hoa' hda (Xu ?_));show wpAny _ A.in1 (holding [kv,p.2] (dictSet d kv p.2)) _ _ _;refine wpAny_holding ?_;have hml:=merged_length_le [] (ps.take i);have hl0:(ps.take i).length<=i:=by rw[length_take];omega
  refine wpAny_dictSet_pairs (knd:=ZBE prog w) hkv hd' (λh2 hd2 hsb=>?_) (by rw[length_nil] at hml;omega);rw[<-merged_take_succ [] ps i p hp] at hd2;refine Xu ⟨plainId_quiet ZAn _,?_⟩;refine ih (i+1) _ _ ⋯ hlt (W.frame _ _ _ hst' λb hb o e=>?_) (λb o h1 h2 e=>?_) hd2 λh3 tk3 hd3 hh3=>hR h3 tk3 hd3 hh3
  .rw[hsb.2 b ?_]
   .exact e
   .rintro rfl
    simp only[mem_cons,not_mem_nil,or_false] at hb;rcases hb with hb|hb
    .exact hdI hb
    .exact hdl hb
  .rw[hsb.2 b h1]
   exact hm b o (by simp only[mem_singleton];exact h2) (hh b o h1 h2 e)
theorem ZFO{l:Addr}{n:Nat}{Q:Yi}(hh:A.handled=none)(hl:s.heap.get? l=some { cls:=.type "list",data:=.seq items n })(hps:ps.length=items.size)(hz:items.size<=sizeLine)
  (ht:∀(i:Nat) (v:Value),items[i]? = some v->∃p a kv,ps[i]? = some p/\v=.ref a/\ZEW p.1 kv=true/\IsTup s.heap a #[kv,p.2])
  (h:∀h' tk,h'.DictOf (ZBE prog w) s⁻¹ (merged [] ps)->(∀b o,s.heap.get? b=some o->h'.get? b=some o)->Q (.ref s⁻¹) { s with heap:=h',toks:=tk }) :
  Yl prog w A (call (.type "dict") [.ref l]) Q E s:=by
 refine callType_codes (Q₁:=λobj s₁=>obj=.ref s⁻¹/\s₁ = { s with heap:=s.heap.push { cls:=.type "dict",data:=.dict #[] } }) F.kt_called_dict (F.kt_typeCall_dict_1 _) F.entry_dict_init (kt_code_dict_new _ ⟨rfl,rfl⟩) ?_
 rintro obj s₁ ⟨rfl,rfl⟩
 have hnew:(s.heap.push { cls:=.type "dict",data:=.dict #[] }).DictOf (ZBE prog w) s⁻¹ []:=Heap.DictOf.new s.heap;refine⟨hnew.typeIs,F.args_dict_init_2 _ _,?_⟩;unfold Builtin.«dict.__init__»;refine Xb ?_;unfold Builtin.Dict.selfAndRest;refine Xb (wpAny_notOrdered_dict hnew.typeIs ?_);show wpAny _ _ (pure (s⁻¹,[Value.ref l])) _ _ _;refine Xu ?_;show wpAny _ _ (Builtin.Dict.updateFrom "dict.__init__" s⁻¹ (.ref l) [] .none) _ _ _;unfold Builtin.Dict.updateFrom;have hl1:(s.heap.push { cls:=.type "dict",data:=.dict #[] }).get? l=some { cls:=.type "list",data:=.seq items n }:=get?_push_of_some _ hl;refine Xb (wpAny_typeOf (T:="list") ⟨_,hl1,rfl⟩ ?_);rw[Xp (by decide)];refine Xb (ZKC (s:={ s with heap:=s.heap.push { cls:=.type "dict",data:=.dict #[] } }) hl1 (by simpa using hh) λh' tk hk=>?_);refine wpAny_ite_split (λ_=>?_) (λhab=>absurd rfl hab);refine Xb (wpAny_rule ?_);have hl2:=hk _ _ hl1;have hi:h'.IsList l items:=⟨_,hl2,rfl,n,rfl⟩;refine Xb (wpAny_pyIter_list hi (Xu ⟨plainId_quiet ZAn _,?_⟩));have s1:s⁻¹<h'.objs.size:=by
  obtain⟨o,es,ep,ho,r⟩:=hnew;exact lt_size (hk _ _ ho)
 have hll:l<s⁻¹:=lt_size hl;refine ZGo (l:=l) (h0:=h') (ps:=ps) (ne_of_lt s1) (ne_of_gt hll) (Walks.list (by simpa using hh) h'.objs.size l (ne_of_lt (lt_trans hll s1)) items) hps hz ?_ items.size 0 0 _ ⋯ (zero_le _) ⟨⟨_,get?_push_size _ rfl,rfl,rfl⟩,hi.push _⟩ (λb o h1 h2 e=>get?_push_of_some _ e) ?_ ?_
 .intro i v hv
  obtain⟨p,a,kv,h1,h2,h3,h4⟩:=ht i v hv;have ha:=h4.lt;exact⟨p,a,kv,h1,h2,h3,ne_of_lt ha,ne_of_lt (lt_trans ha s1),(h4.push _).keeps hk⟩
 .obtain⟨o,es,ep,ho,r⟩:=hnew
  exact⟨o,es,ep,get?_push_of_some _ (hk _ _ ho),r⟩
 .intro h2 tk2 hd2 hk2
  refine⟨rfl,h h2 tk2 hd2 λb o e=>?_⟩;have hb:=lt_size e;exact hk2 b o (ne_of_lt hb) (ne_of_lt (lt_trans hb s1)) (hk _ _ (get?_push_of_some _ e))
theorem ZJ2{d:Addr}{kvs:List (Key×Value)}{ep:Nat}{Q:Yi}(hh:A.handled=none)(lo:(d == sysModules)=false)(hm:s.heap.DictAt (ZBE prog w) d kvs ep)(hk:kvs.map (·.1)=ns.map Sum.inl)(h64:kvs.length<64)
  (h:∀(h1 h':Heap) (tk e:Nat) (out:Array Value) (ns':List Int),(∀b o,s.heap.get? b=some o->h1.get? b=some o)->(∀b o,h1.get? b=some o->h'.get? b=some o)->h'.get? h1.objs.size=some (seqObj "list" out e)->IntsAre out.toList ns'->ns'.Perm ns->ns'.Pairwise (· <= ·)->Q (.ref h1.objs.size) { s with heap:=h',toks:=tk }) :
  Yl prog w A (call (.builtin "sorted") [.ref d]) Q E s:=by
 have hkl:ns.length=kvs.length:=by have:=congrArg List.length hk;simpa using this.symm
 have hz:kvs.length<=sizeLine:=by rw[sizeLine_eq];omega
 refine Calls.call_function_entry kind_sorted plain_sorted entry_sorted (args_sorted1 _) ?_;unfold Builtin.«sorted»;refine Xb (m:=checkCount "sorted" 1 1 _) (Xu ?_);refine Xb (PySem.W.kdu_collect (A:=A.in1) (PySem.W.kdl_dict (knd:=ZBE prog w) (kvs:=kvs) (ep:=ep) lo) hh hm hz λh' tk acc kp hacc=>?_);have hl:acc.toList.length=kvs.length:=by rw[Array.length_toList];exact hacc.1
 have hI:IntsAre acc.toList ns:=by
  have:∀(vs:List Value) (ms:List Int),vs.length=ms.length->(∀(j:Nat) (v:Value),vs[j]? = some v->∃m t,ms[j]? = some m/\v=Value.int m t)->IntsAre vs ms:=by
   intro vs
   induction vs with
   |nil=>intro ms e _;cases ms with
    |nil=>exact .nil
    |cons _ _=>cases e
   |cons v vs ih=>intro ms e q;cases ms with
    |nil=>cases e
    |cons m ms =>
     obtain⟨m',t,e1,rfl⟩:=q 0 v rfl;cases e1;exact .cons _ _ (ih ms (by simpa using e) λj u hu=>by simpa using q (j+1) u (by simpa using hu))
  refine this _ _ ⋯ λj v hv=>?_
  obtain⟨k,x,e1,e2⟩:=hacc.2 j v (by rw[<-Array.getElem?_toList];exact hv);have e3:(ns.map Sum.inl)[j]? = some k:=by rw[<-hk,getElem?_map,e1];rfl
  rw[getElem?_map] at e3;cases q:ns[j]? with
  |none=>rw[q] at e3;cases e3
  |some m =>
   rw[q] at e3;cases e3;rcases Z1 (k:=Sum.inl m) (v:=v) e2 with ⟨i,t,h1,h2⟩|⟨x,t,h1,h2⟩
   .cases h1;exact⟨_,t,rfl,h2⟩
   .cases h1
 refine Xb (wpAny_newList ?_ (by rw[hl];exact hz));have hoL:(h'.push (seqObj "list" acc.toList.toArray 0)).get? h'.objs.size=some (seqObj "list" acc.toList.toArray 0):=get?_push_size _ rfl;refine Xb (wpAny_holding (wpAny_call_entry slot_list_sort ⟨_,hoL,rfl⟩ entry_list_sort (list_sort_tree hoL hI ⋯ λout ns' a1 a2 a3=>⟨_,rfl,?_⟩) (args_list_sort _)));obtain⟨e,he⟩:=sortedHeap_at (out:=out) hoL;refine Xu ⟨_,rfl,h h' _ _ e out ns' kp (λb o q=>?_) he a1 a2 a3⟩;have hb:=lt_size q;rw[sortedHeap_old (ne_of_lt hb) (by rw[size_push'];exact lt_succ_of_lt hb)];exact get?_push_of_some _ q
end
variable{u:Value}
section
variable{κ : Type}[DecidableEq κ]
noncomputable def ZEj{α:Type}(kvs:List (κ×α))(k : κ)(v : α):List (κ×α):=if kvs.any (λkv=>decide (kv.1=k))=true then kvs.map (λkv=>if kv.1=k then (kv.1,v) else kv) else kvs++[(k,v)]
def ZAU{α:Type}(kvs more:List (κ×α)):List (κ×α):=more.foldl (λacc kv=>ZEj acc kv.1 kv.2) kvs
theorem KV.keys{kvs:List (κ×V)}{vs:List (κ×Value)}(r:KV kvs vs):kvs.map (·.1)=vs.map (·.1):=by
 unfold KV at r
 induction r with
 |nil=>rfl
 |cons h t ih=>rw[map_cons,map_cons,ih,h.1]
theorem KV.repl{kvs:List (κ×V)}{vs:List (κ×Value)}(r:KV kvs vs)(k : κ){y:V}(ry:Zq y u) :
  KV (kvs.map λkv=>if kv.1=k then (kv.1,y) else kv) (vs.map λkv=>if kv.1=k then (kv.1,u) else kv):=by
 unfold KV at r ⊢
 induction r with
 |nil=>exact .nil
 |@cons p q ps qs h t ih =>
  rw[map_cons,map_cons];refine .cons ?_ ih;obtain⟨h1,h2⟩:=h
  by_cases e:p.1=k
  .rw[Xp e,Xp (h1.symm.trans e)];exact⟨h1,ry⟩
  .rw[Xn e,Xn (λz=>e (h1.trans z))];exact⟨h1,h2⟩
theorem KV.put{kvs:List (κ×V)}{vs:List (κ×Value)}(r:KV kvs vs)(k : κ){y:V}(ry:Zq y u):KV (ZEj kvs k y) (stored vs k u):=by
 have ha:(kvs.any λkv=>decide (kv.1=k))=vs.any λkv=>decide (kv.1=k):=by
  unfold KV at r
  induction r with
  |nil=>rfl
  |cons h t ih=>rw[any_cons,any_cons,ih,h.1]
 unfold ZEj stored;rw[ha]
 split
 .exact r.repl k ry
 .exact Paired.snoc r ⟨rfl,ry⟩
theorem KV.merge:∀{more:List (κ×V)} {rs:List (κ×Value)} {kvs:List (κ×V)} {vs:List (κ×Value)},KV more rs->KV kvs vs->KV (ZAU kvs more) (merged vs rs):=by
 intro more rs kvs vs r;unfold KV at r
 induction r generalizing kvs vs with
 |nil=>intro q;exact q
 |@cons p q ps qs h t ih =>
  intro r0;have e:KV (ZEj kvs p.1 p.2) (stored vs q.1 q.2):=by
   have:=r0.put p.1 h.2;rw[<-h.1];exact this
  exact ih e
end
variable{σ:St}{H:Hp}
section
variable{X:Cx}
theorem Inv.big{pq:Yh}{s:Shared}(I:Inv X pq σ H s):sysModules<s⁻¹:=by
 have h:mainGlobals<s⁻¹:=(I.mod.glob.keeps I.bk).lt;exact lt_trans (by decide) h
theorem ZL6(hc:X.calm=true):Zi X (.type "dict") (λxs H Q=>∃(p:Addr) (ys:List V) (kvs:List (Key×V)),xs=[.ref p]/\H p=some (.lst ys)/\ys.length<=1000/\Paired (λy (q:Key×V)=>∃a,y=.ref a/\SqT X.K H a [kV q.1,q.2]) ys kvs/\∀d,H d=none->Q (.ref d) (upd H d (.dK (ZAU [] kvs)))):=by
 intro pq s σ H xs us Q I r h;obtain⟨p,ys,kvs,rfl,hp,hl,hk,q⟩:=h;obtain⟨u,rfl,ru⟩:=ZBt r;cases ru;obtain⟨hz,its,n,rv,ho⟩:=I.hok p _ hp;have hps:∃ps:List (Key×Value),KV kvs ps/\ps.length=its.length/\∀(i:Nat) (v:Value),its[i]? = some v->∃p a kv,ps[i]? = some p/\v=.ref a/\ZEW p.1 kv=true/\IsTup s.heap a #[kv,p.2]:=by
  clear ho hp hz hl q
  induction hk generalizing its with
  |nil=>cases rv;exact⟨[],.nil,rfl,λi v e=>by simp at e⟩
  |@cons y k ys ks h t ih =>
   cases rv with
   |@cons _ u _ us r1 r2 =>
    obtain⟨a,rfl,hs⟩:=h;cases r1;obtain⟨ps,g1,g2,g3⟩:=ih _ r2;obtain⟨jts,v,it,_⟩:=I.tuple hs;cases v with
    |@cons _ kv _ _ v1 v2=>cases v2 with
     |@cons _ vv _ _ v2 v3 =>
      cases v3;refine⟨(k.1,vv)::ps,.cons ⟨rfl,v2⟩ g1,by rw[Xc,Xc,g2],λi v e=>?_⟩;cases i with
      |zero =>
       cases e;refine⟨_,a,kv,rfl,rfl,?_,it⟩;obtain⟨k1,k2⟩:=k;cases k1 with
       |inl i=>obtain⟨t,rfl⟩:=v1;exact ZNV _ _
       |inr x=>obtain⟨t,rfl⟩:=v1;exact ZNu _ _
      |succ i=>simpa using g3 i v (by simpa using e)
 obtain⟨ps,g1,g2,g3⟩:=hps;have hil:its.length=ys.length:=rv.length.symm;refine ZFO (I.ok.hd hc) ho (by rw[size_toArray];exact g2) (by rw[size_toArray,hil,sizeLine_eq];omega) (λi v e=>g3 i v (by simpa using e)) λh' tk hd kp=>?_
 have hm:=g1.merge (kvs:=[]) (vs:=[]) .nil;have hlm:=merged_length_le [] ps;have hkl:(ZAU [] kvs).length=(merged [] ps).length:=Paired.length hm;refine⟨.ref s⁻¹,_,I.laid (a:=s⁻¹) (o:=.dK (ZAU [] kvs)) kp (le_refl _) ⟨?_,?_,_,hm,hd⟩,rfl,q _ (I.hok.fresh (le_refl _))⟩
 .rw[hkl,sizeLine_eq]
  rw[length_nil] at hlm;omega
 .exact beq_eq_false_iff_ne.mpr (Ne.symm (ne_of_lt I.big))
theorem ZIC(hc:X.calm=true):Zi X (.builtin "sorted") (λxs H Q=>∃(p:Addr) (kvs:List (Key×V)) (ns:List Int),xs=[.ref p]/\H p=some (.dK kvs)/\kvs.map (·.1)=ns.map Sum.inl/\ns.length<64/\∀l (ms:List Int),H l=none->ms.Perm ns->ms.Pairwise (· <= ·)->Q (.ref l) (upd H l (.lst (ms.map V.int)))):=by
 intro pq s σ H xs us Q I r h;obtain⟨p,kvs,ns,rfl,hp,hk,hn,q⟩:=h;obtain⟨u,rfl,ru⟩:=ZBt r;cases ru;obtain⟨hz,lo,vs,rk,hd⟩:=I.hok p _ hp;obtain⟨ep,hat⟩:=hd.dictAt;have hvl:vs.length=ns.length:=by
  have:=congrArg List.length hk;rw[Xm,Xm,Paired.length rk] at this
  exact this
 refine ZJ2 (I.ok.hd hc) lo hat (ns:=ns) (by rw[<-rk.keys];exact hk) ⋯ λh1 h' tk e out ns' kp kp2 he ia pm pw=>?_
 have rv':Zb (ns'.map V.int) out.toList:=by
  clear pm pw he
  generalize out.toList=l at ia
  induction ia with
  |nil=>exact .nil
  |cons a t h ih=>exact .cons ⟨t,rfl⟩ ih
 have I1:Inv X pq σ H { s with heap:=h1,toks:=tk }:=I.kept (t':=tk) kp;refine⟨.ref h1.objs.size,_,I1.laid (t':=tk) kp2 (le_refl _) (o:=.lst (ns'.map V.int)) ⟨?_,out.toList,e,rv',by simpa using he⟩,rfl,q _ ns' (I1.hok.fresh (le_refl _)) pm pw⟩;rw[Xm,pm.length_eq];exact le_of_lt (Zt ⋯)
theorem ZH3(ns:List Int):∀k,k<=ns.length->preSum (λi=>ns.getD i 0) k=(ns.take k).sum
 |0,_=>by simp[preSum]
 |k+1,h=>by
  show preSum (λi=>ns.getD i 0) k+ns.getD k 0=_;rw[ZH3 ns k ⋯,take_add_one,List.sum_append,List.getD,getElem?_eq_getElem ⋯];simp
theorem ZOM(hc:X.calm=true):Zi X (.builtin "sum") (λxs H Q=>∃(p:Addr) (ns:List Int),xs=[.ref p]/\SqL X.K H p (ns.map V.int)/\Q (.int ns.sum) H):=by
 intro pq s σ H xs us Q I r h;obtain⟨p,ns,rfl,hq,q⟩:=h;obtain⟨u,rfl,ru⟩:=ZBt r;cases ru;obtain⟨its,rv,pl,hz⟩:=I.list hq;have hl:=rv.length;rw[Xm] at hl;have hi:s.heap.IsList p its.toArray:=pl.isList;have hne:p≠s⁻¹:=ne_of_lt (let ⟨_,ho,_⟩:=hi;lt_size ho);refine call_sum_walkAnyS (wpAny_pyIter_list hi ⟨s⁻¹,_,_,_,its.toArray.size,_,_,λi=>ns.getD i 0,rfl,(Walks.list (A:=X.A.in1) (I.ok.hd hc) s⁻¹ p hne its.toArray).toS,⟨⟨_,get?_push_size _ rfl,rfl,rfl⟩,hi.push _⟩,λb hb=>?_,λi v e=>?_,λs' t' hm=>?_⟩)
 .show b<(s.heap.push _).objs.size
  rw[size_push'];rcases List.mem_cons.mp hb with e|hb
  .rw[e];exact lt_succ_self _
  .rw[List.mem_singleton.mp hb];exact lt_succ_of_lt (let ⟨_,ho,_⟩:=hi;lt_size ho)
 .have e':its[i]? = some v:=by simpa using e
  have hi':i<ns.length:=by have:=(List.getElem?_eq_some_iff.mp e').1;omega
  obtain⟨u,e2,t,rfl⟩:=rv.get (i:=i) (x:=V.int (ns.getD i 0)) (by rw[getElem?_map,getElem?_eq_getElem hi',List.getD,getElem?_eq_getElem hi'];rfl);rw[e'] at e2;cases e2;exact⟨t,rfl⟩
 .rw[Moved.eq_with hm]
  refine⟨.int ns.sum,H,I.kept (t':=s'.toks) λb o e=>hm.heap b o (λz=>?_) (get?_push_of_some _ e),⟨t',?_⟩,q⟩
  .exact absurd (lt_size e) (by rw[List.mem_singleton.mp z];exact lt_irrefl _)
  .rw[size_toArray,<-hl,ZH3 ns ns.length (le_refl _),take_length]
end
noncomputable def XO(x C:Addr)(od:Option Addr)(tb:Value):HO:=.ext λh=>∃o us,h.get? x=some o/\o.cls=.ref C/\o.dict=od/\o.data=.fields us/\us[1]? = some tb
inductive W where
 |dat (d:PyData)
 |ref (n:Nat)
 |inp (ns:List Int)
 |ty (n:String)
 |tup (ws:List W)
 |exc (nm:Str) (t:Option Int)
structure CD where
 nm:Str
 fs:List Str
inductive Cell where
 |pl (ds:List PyData)
 |rl (ws:List W)
 |ob (c:CD) (ws:List W)
 |dk (kvs:List (Key×W))
 |fd (kvs:List (Key×W))
abbrev G:=List Cell
abbrev FW:=List W->G->Option (W×G)
structure Rh where
 c:List Addr
 h:List Addr
def Rh.mem(ρ : Rh)(a:Addr):Prop:=a∈ρ.c\/a∈ρ.h
abbrev Sd:=List (Option W)
def KL(K:Frag)(a:Addr)(xs:List V):Prop:=∃(o:Obj) (its:Array Value) (n:Nat),K.lookup a=some o/\o.cls=.type "list"/\o.dict=none/\o.data=.seq its n/\its.size<=sizeLine/\Zb xs its.toList
def KT(K:Frag)(a:Addr)(xs:List V):Prop:=∃(o:Obj) (its:Array Value) (n:Nat),K.lookup a=some o/\o.cls=.type "tuple"/\o.data=.seq its n/\its.size<=sizeLine/\Zb xs its.toList
def FzL(K:Frag)(ρ : Rh)(H:Hp)(a:Addr)(xs:List V):Prop:=(Rd H a (.lst xs)/\¬ρ.mem a)\/KL K a xs
def FzT(K:Frag)(ρ : Rh)(H:Hp)(a:Addr)(xs:List V):Prop:=(Rd H a (.tup xs)/\¬ρ.mem a)\/KT K a xs
variable{K:Frag}{ρ:Rh}{xs:List V}
theorem FzL.sq(h:FzL K ρ H a xs):SqL K H a xs:=h.elim (λz=>.inl z.1) .inr
theorem FzT.sq(h:FzT K ρ H a xs):SqT K H a xs:=h.elim (λz=>.inl z.1) .inr
mutual
inductive RelD (K:Frag) (ρ : Rh) (H:Hp):V->PyData->Prop
 |non:RelD K ρ H .non .none
 |bl (b:Bool):RelD K ρ H (.bl b) (.bool b)
 |int (i:Int):RelD K ρ H (.int i) (.int i)
 |str (x:Str):RelD K ρ H (.str x) (.str x)
 |tup {a:Addr} {xs:List V} {ds:List PyData}:FzT K ρ H a xs->RelDL K ρ H xs ds->RelD K ρ H (.ref a) (.tuple ds)
 |lst {a:Addr} {xs:List V} {ds:List PyData}:H a=some (.lst xs)->¬ρ.mem a->RelDL K ρ H xs ds->RelD K ρ H (.ref a) (.list ds)
 |dct {a:Addr}:H a=some (ZO9 a)->¬ρ.mem a->RelD K ρ H (.ref a) (.dict [])
inductive RelDL (K:Frag) (ρ : Rh) (H:Hp):List V->List PyData->Prop
 |nil:RelDL K ρ H [] []
 |cons {x:V} {d:PyData} {xs:List V} {ds:List PyData}:RelD K ρ H x d->RelDL K ρ H xs ds->RelDL K ρ H (x::xs) (d::ds)
end
def ZE1(K:Frag)(ρ : Rh)(H:Hp)(x:Addr)(nm:Str)(t:Option Int):Prop:=∃C od y,nsIn K mainGlobals nm=some (some (.ref C))/\(H x=some (XO x C od (.ref y))/\¬ρ.mem x) /\
 (t=none->od=none)/\∀n,t=some n->∃dx,od=some dx/\H dx=some (.xd [("turn",.int n)])/\¬ρ.mem dx
mutual
inductive Rel (K:Frag) (ρ : Rh) (H:Hp):V->W->Prop
 |dat {v:V} {d:PyData}:RelD K ρ H v d->Rel K ρ H v (.dat d)
 |ref {a:Addr} {n:Nat} : ρ.c[n]? = some a->Rel K ρ H (.ref a) (.ref n)
 |inp {a:Addr} {ns:List Int}:FzL K ρ H a (ns.map V.int)->Rel K ρ H (.ref a) (.inp ns)
 |ty {n:String}:Rel K ρ H (.ty n) (.ty n)
 |exc {x:Addr} {nm:Str} {t:Option Int}:ZE1 K ρ H x nm t->Rel K ρ H (.ref x) (.exc nm t)
 |tup {a:Addr} {xs:List V} {ws:List W}:FzT K ρ H a xs->RelL K ρ H xs ws->Rel K ρ H (.ref a) (.tup ws)
inductive RelL (K:Frag) (ρ : Rh) (H:Hp):List V->List W->Prop
 |nil:RelL K ρ H [] []
 |cons {v:V} {x:W} {vs:List V} {xs:List W}:Rel K ρ H v x->RelL K ρ H vs xs->RelL K ρ H (v::vs) (x::xs)
end
inductive RelF (K:Frag) (ρ : Rh) (H:Hp):List Str->List (Str×V)->List W->Prop
 |nil {ns:List Str}:RelF K ρ H ns [] []
 |cons {f:Str} {ns:List Str} {v:V} {x:W} {vs:List (Str×V)} {xs:List W}:Rel K ρ H v x->RelF K ρ H ns vs xs->RelF K ρ H (f::ns) ((f,v)::vs) (x::xs)
inductive RelK (K:Frag) (ρ : Rh) (H:Hp):List (Key×V)->List (Key×W)->Prop
 |nil:RelK K ρ H [] []
 |cons {k:Key} {v:V} {x:W} {vs:List (Key×V)} {xs:List (Key×W)}:Rel K ρ H v x->RelK K ρ H vs xs->RelK K ρ H ((k,v)::vs) ((k,x)::xs)
def ZAS(K:Frag)(ρ : Rh)(H:Hp)(a:Addr):Cell->Prop
 |.pl ds=>∃vs,H a=some (.lst vs)/\RelDL K ρ H vs ds
 |.rl ws=>∃vs,H a=some (.lst vs)/\RelL K ρ H vs ws
 |.ob c fs=>∃C dx vs,nsIn K mainGlobals c.nm=some (some (.ref C))/\H a=some (.ins C dx vs)/\RelF K ρ H c.fs vs fs
 |.dk ws=>∃vs,H a=some (.dK vs)/\RelK K ρ H vs ws
 |.fd ws=>∃od vs,H a=some (.frz od (.dK vs))/\RelK K ρ H vs ws
noncomputable def kdO:HO->Nat ⊕ Obj×HO
 |.lst _=>.inl 0
 |.ins _ _ _=>.inl 1
 |.frz o u=>.inr (o,u)
 |_=>.inl 2
structure Stp (ρ : Rh) (H:Hp) (ρ':Rh) (H':Hp):Prop where
 pre:∃r,ρ'.c = ρ.c++r
 hid : ρ'.h = ρ.h
 frm:∀a o,H a=some o->a∉ρ.c->H' a=some o
 fre:∀a∈ρ'.c,a∈ρ.c\/H a=none
 kd:∀a o,H a=some o->∃o',H' a=some o'/\kdO o'=kdO o
structure Sty (ρ : Rh) (H:Hp) (ρ':Rh) (H':Hp):Prop where
 pre:∃r,ρ'.c = ρ.c++r
 hid : ρ'.h = ρ.h
 frm:∀a o,H a=some o->a∉ρ.c->H' a=some o
 fre:∀a∈ρ'.c,a∈ρ.c\/H a=none
variable{ρ':Rh}{H':Hp}
theorem Stp.y(s:Stp ρ H ρ' H'):Sty ρ H ρ' H':=⟨s.pre,s.hid,s.frm,s.fre⟩
variable{p x:Addr}{d:PyData}{vs:List V}{o:HO}{t:Option Int}{v:V}{ds:Qd}{g:G}
section
variable{K:Frag}{ρ ρ' ρ2:Rh}{H H' H2:Hp}
theorem Stp.refl:Stp ρ H ρ H:=⟨⟨[],(append_nil _).symm⟩,rfl,λ_ _ h _=>h,λ_ h=>.inl h,λa o h=>⟨o,h,rfl⟩⟩
theorem Sty.ninc(s:Sty ρ H ρ' H')(h:H a=some o)(n:a∉ρ.c):a∉ρ'.c:=λz=>(s.fre a z).elim n λe=>by rw[h] at e;cases e
theorem Sty.nin(s:Sty ρ H ρ' H')(h:H a=some o)(n : ¬ρ.mem a) : ¬ρ'.mem a:=λz=>z.elim (s.ninc h λq=>n (.inl q)) λz=>n (.inr (by rw[<-s.hid];exact z))
theorem Stp.ninc{a:Addr}{o:HO}(s:Stp ρ H ρ' H')(h:H a=some o)(n:a∉ρ.c):a∉ρ'.c:=s.y.ninc h n
theorem Stp.trans(s:Stp ρ H ρ' H')(t:Stp ρ' H' ρ2 H2):Stp ρ H ρ2 H2:=by
 refine⟨?_,t.hid.trans s.hid,λa o h n=>t.frm a o (s.frm a o h n) (s.ninc h n),λa h=>?_,λa o h=>?_⟩
 .obtain⟨r,e⟩:=s.pre
  obtain⟨q,e'⟩:=t.pre;exact⟨r++q,by rw[e',e,append_assoc]⟩
 .rcases t.fre a h with z|z
  .exact s.fre a z
  .by_cases n:a∈ρ.c
   .exact .inl n
   .cases e:H a with
    |none=>exact .inr rfl
    |some o=>rw[s.frm a o e n] at z;cases z
 .obtain⟨o1,h1,k1⟩:=s.kd a o h
  obtain⟨o2,h2,k2⟩:=t.kd a o1 h1;exact⟨o2,h2,k2.trans k1⟩
theorem Stp.same(s:Same H H'):Stp ρ H ρ H':=⟨⟨[],(append_nil _).symm⟩,rfl,λa o h _=>s a o h,λ_ h=>.inl h,λa o h=>⟨o,s a o h,rfl⟩⟩
theorem Rd.sty{u:HO}(s:Sty ρ H ρ' H')(h:Rd H a u)(n : ¬ρ.mem a):Rd H' a u/\¬ρ'.mem a:=by
 rcases h with h|⟨o,h⟩
 .exact⟨.inl (s.frm _ _ h λz=>n (.inl z)),s.nin h n⟩
 .exact⟨.inr ⟨o,s.frm _ _ h λz=>n (.inl z)⟩,s.nin h n⟩
theorem FzL.monoY(s:Sty ρ H ρ' H')(h:FzL K ρ H a xs):FzL K ρ' H' a xs:=h.elim (λz=>.inl (Rd.sty s z.1 z.2)) .inr
theorem FzT.monoY(s:Sty ρ H ρ' H')(h:FzT K ρ H a xs):FzT K ρ' H' a xs:=h.elim (λz=>.inl (Rd.sty s z.1 z.2)) .inr
mutual
theorem RelD.monoY(s:Sty ρ H ρ' H'):∀{v:V} {d:PyData},RelD K ρ H v d->RelD K ρ' H' v d
 |_,_,.non=>.non
 |_,_,.bl b=>.bl b
 |_,_,.int i=>.int i
 |_,_,.str x=>.str x
 |_,_,.tup h hl=>.tup (h.monoY s) (RelDL.monoY s hl)
 |_,_,.lst h n hl=>.lst (s.frm _ _ h λz=>n (.inl z)) (s.nin h n) (RelDL.monoY s hl)
 |_,_,.dct h n=>.dct (s.frm _ _ h λz=>n (.inl z)) (s.nin h n)
theorem RelDL.monoY(s:Sty ρ H ρ' H'):∀{vs:List V} {ds:Qd},RelDL K ρ H vs ds->RelDL K ρ' H' vs ds
 |_,_,.nil=>.nil
 |_,_,.cons h hl=>.cons (RelD.monoY s h) (RelDL.monoY s hl)
end
theorem ZE1.monoY{nm:Str}(s:Sty ρ H ρ' H')(h:ZE1 K ρ H x nm t):ZE1 K ρ' H' x nm t:=by
 obtain⟨C,od,y,e,⟨hx,nx⟩,h0,ha⟩:=h;refine⟨C,od,y,e,⟨s.frm _ _ hx λz=>nx (.inl z),s.nin hx nx⟩,h0,λn q=>?_⟩;obtain⟨dx,e1,e2,e3⟩:=ha n q;exact⟨dx,e1,s.frm _ _ e2 λz=>e3 (.inl z),s.nin e2 e3⟩
theorem ZE1.less{nm:Str}(s:∀a,ρ'.mem a->ρ.mem a)(h:ZE1 K ρ H x nm t):ZE1 K ρ' H x nm t:=by
 obtain⟨C,od,y,e,⟨hx,nx⟩,h0,ha⟩:=h;refine⟨C,od,y,e,⟨hx,λz=>nx (s _ z)⟩,h0,λn q=>?_⟩;obtain⟨dx,e1,e2,e3⟩:=ha n q;exact⟨dx,e1,e2,λz=>e3 (s _ z)⟩
theorem ZHa(s:Sty ρ H ρ' H'){n:Nat}(h : ρ.c[n]? = some a) : ρ'.c[n]? = some a:=by
 obtain⟨r,e⟩:=s.pre;rw[e,getElem?_append_left (List.getElem?_eq_some_iff.mp h).1];exact h
mutual
theorem Rel.monoY(s:Sty ρ H ρ' H'):∀{v:V} {x:W},Rel K ρ H v x->Rel K ρ' H' v x
 |_,_,.dat h=>.dat (h.monoY s)
 |_,_,.ref h=>.ref (ZHa s h)
 |_,_,.inp h=>.inp (h.monoY s)
 |_,_,.ty=>.ty
 |_,_,.exc h=>.exc (h.monoY s)
 |_,_,.tup h t=>.tup (h.monoY s) (RelL.monoY s t)
theorem RelL.monoY(s:Sty ρ H ρ' H'):∀{vs:List V} {xs:List W},RelL K ρ H vs xs->RelL K ρ' H' vs xs
 |_,_,.nil=>.nil
 |_,_,.cons h t=>.cons (Rel.monoY s h) (RelL.monoY s t)
end
theorem RelF.monoY(s:Sty ρ H ρ' H'):∀{ns:List Str} {vs:List (Str×V)} {xs:List W},RelF K ρ H ns vs xs->RelF K ρ' H' ns vs xs
 |_,_,_,.nil=>.nil
 |_,_,_,.cons h t=>.cons (h.monoY s) (t.monoY s)
theorem RelK.monoY(s:Sty ρ H ρ' H'):∀{vs:List (Key×V)} {xs:List (Key×W)},RelK K ρ H vs xs->RelK K ρ' H' vs xs
 |_,_,.nil=>.nil
 |_,_,.cons h t=>.cons (h.monoY s) (t.monoY s)
theorem FzL.mono(s:Stp ρ H ρ' H')(h:FzL K ρ H a xs):FzL K ρ' H' a xs:=h.monoY s.y
theorem FzT.mono(s:Stp ρ H ρ' H')(h:FzT K ρ H a xs):FzT K ρ' H' a xs:=h.monoY s.y
theorem RelD.mono(s:Stp ρ H ρ' H')(h:RelD K ρ H v d):RelD K ρ' H' v d:=h.monoY s.y
theorem RelDL.mono(s:Stp ρ H ρ' H')(h:RelDL K ρ H vs ds):RelDL K ρ' H' vs ds:=h.monoY s.y
theorem Rel.mono(s:Stp ρ H ρ' H'){x:W}(h:Rel K ρ H v x):Rel K ρ' H' v x:=h.monoY s.y
theorem RelL.mono(s:Stp ρ H ρ' H'){xs:List W}(h:RelL K ρ H vs xs):RelL K ρ' H' vs xs:=h.monoY s.y
theorem RelF.mono(s:Stp ρ H ρ' H'){ns:List Str}{vs:List (Str×V)}{xs:List W}(h:RelF K ρ H ns vs xs):RelF K ρ' H' ns vs xs:=h.monoY s.y
theorem RelK.mono(s:Stp ρ H ρ' H'){vs:List (Key×V)}{xs:List (Key×W)}(h:RelK K ρ H vs xs):RelK K ρ' H' vs xs:=h.monoY s.y
theorem FzL.less{a:Addr}(s:∀a,ρ'.mem a->ρ.mem a)(h:FzL K ρ H a xs):FzL K ρ' H a xs:=h.elim (λz=>.inl ⟨z.1,λq=>z.2 (s _ q)⟩) .inr
theorem FzT.less{a:Addr}(s:∀a,ρ'.mem a->ρ.mem a)(h:FzT K ρ H a xs):FzT K ρ' H a xs:=h.elim (λz=>.inl ⟨z.1,λq=>z.2 (s _ q)⟩) .inr
mutual
theorem RelD.less(s:∀a,ρ'.mem a->ρ.mem a):∀{v:V} {d:PyData},RelD K ρ H v d->RelD K ρ' H v d
 |_,_,.non=>.non
 |_,_,.bl b=>.bl b
 |_,_,.int i=>.int i
 |_,_,.str x=>.str x
 |_,_,.tup h hl=>.tup (h.less s) (RelDL.less s hl)
 |_,_,.lst h n hl=>.lst h (λz=>n (s _ z)) (RelDL.less s hl)
 |_,_,.dct h n=>.dct h λz=>n (s _ z)
theorem RelDL.less(s:∀a,ρ'.mem a->ρ.mem a):∀{vs:List V} {ds:Qd},RelDL K ρ H vs ds->RelDL K ρ' H vs ds
 |_,_,.nil=>.nil
 |_,_,.cons h hl=>.cons (RelD.less s h) (RelDL.less s hl)
end
mutual
theorem Rel.less(hc : ρ'.c = ρ.c)(s:∀a,ρ'.mem a->ρ.mem a):∀{v:V} {x:W},Rel K ρ H v x->Rel K ρ' H v x
 |_,_,.dat h=>.dat (h.less s)
 |_,_,.ref h=>.ref (by rw[hc];exact h)
 |_,_,.inp h=>.inp (h.less s)
 |_,_,.ty=>.ty
 |_,_,.exc h=>.exc (h.less s)
 |_,_,.tup h t=>.tup (h.less s) (RelL.less hc s t)
theorem RelL.less(hc : ρ'.c = ρ.c)(s:∀a,ρ'.mem a->ρ.mem a):∀{vs:List V} {xs:List W},RelL K ρ H vs xs->RelL K ρ' H vs xs
 |_,_,.nil=>.nil
 |_,_,.cons h t=>.cons (Rel.less hc s h) (RelL.less hc s t)
end
theorem RelF.less(hc : ρ'.c = ρ.c)(s:∀a,ρ'.mem a->ρ.mem a):∀{ns:List Str} {vs:List (Str×V)} {xs:List W},RelF K ρ H ns vs xs->RelF K ρ' H ns vs xs
 |_,_,_,.nil=>.nil
 |_,_,_,.cons h t=>.cons (h.less hc s) (t.less hc s)
theorem RelK.less(hc : ρ'.c = ρ.c)(s:∀a,ρ'.mem a->ρ.mem a):∀{vs:List (Key×V)} {xs:List (Key×W)},RelK K ρ H vs xs->RelK K ρ' H vs xs
 |_,_,.nil=>.nil
 |_,_,.cons h t=>.cons (h.less hc s) (t.less hc s)
theorem RelDL.length:∀{vs:List V} {ds:Qd},RelDL K ρ H vs ds->vs.length=ds.length
 |_,_,.nil=>rfl
 |_,_,.cons _ h=>by rw[Xc,Xc,h.length]
theorem RelDL.getD:∀{vs:List V} {ds:Qd} {i:Nat} {d:PyData},RelDL K ρ H vs ds->ds[i]? = some d->∃v,vs[i]? = some v/\RelD K ρ H v d
 |_,_,_,_,.nil,h=>by simp at h
 |_,_,0,_,.cons t _,h=>by cases h;exact⟨_,rfl,t⟩
 |_,_,i+1,_,.cons _ t,h=>t.getD (i:=i) (by simpa using h)
theorem RelDL.append:∀{vs us:List V} {ds es:Qd},RelDL K ρ H vs ds->RelDL K ρ H us es->RelDL K ρ H (vs++us) (ds++es)
 |_,_,_,_,.nil,h=>h
 |_,_,_,_,.cons t r,h=>.cons t (r.append h)
theorem RelDL.set{v:V}{d:PyData}(t:RelD K ρ H v d):∀{vs:List V} {ds:Qd} (i:Nat),RelDL K ρ H vs ds->RelDL K ρ H (vs.set i v) (ds.set i d)
 |_,_,_,.nil=>.nil
 |_,_,0,.cons _ r=>.cons t r
 |_,_,i+1,.cons u r=>.cons u (RelDL.set t i r)
theorem RelDL.take:∀{vs:List V} {ds:Qd} (n:Nat),RelDL K ρ H vs ds->RelDL K ρ H (vs.take n) (ds.take n)
 |_,_,0,_=>.nil
 |_,_,_+1,.nil=>.nil
 |_,_,n+1,.cons r t=>.cons r (RelDL.take n t)
theorem RelDL.drop:∀{vs:List V} {ds:Qd} (n:Nat),RelDL K ρ H vs ds->RelDL K ρ H (vs.drop n) (ds.drop n)
 |_,_,0,r=>r
 |_,_,_+1,.nil=>.nil
 |_,_,n+1,.cons _ t=>RelDL.drop n t
theorem RelDL.rep{vs:List V}{ds:Qd}(t:RelDL K ρ H vs ds):∀k:Nat,RelDL K ρ H (List.replicate k vs).flatten (List.replicate k ds).flatten
 |0=>.nil
 |k+1=>by rw[replicate_succ,replicate_succ,flatten_cons,flatten_cons];exact t.append (t.rep k)
theorem RelDL.ints:∀{vs:List V},RelDL K ρ H vs (ns.map .int)->vs=ns.map V.int:=by
 induction ns with
 |nil=>intro vs t;cases t;rfl
 |cons n r ih =>
  intro vs t;cases t with
  |cons h t=>cases h;rw[ih t];rfl
theorem RelDL.ofInts:∀{ns:List Int},RelDL K ρ H (ns.map V.int) (ns.map .int)
 |[]=>.nil
 |n::ns=>.cons (.int n) RelDL.ofInts
theorem RelL.length:∀{vs:List V} {ws:List W},RelL K ρ H vs ws->vs.length=ws.length
 |_,_,.nil=>rfl
 |_,_,.cons _ h=>by rw[Xc,Xc,h.length]
theorem RelL.append:∀{vs us:List V} {ds es:List W},RelL K ρ H vs ds->RelL K ρ H us es->RelL K ρ H (vs++us) (ds++es)
 |_,_,_,_,.nil,h=>h
 |_,_,_,_,.cons t r,h=>.cons t (r.append h)
theorem RelL.set{v:V}{d:W}(t:Rel K ρ H v d):∀{vs:List V} {ds:List W} (i:Nat),RelL K ρ H vs ds->RelL K ρ H (vs.set i v) (ds.set i d)
 |_,_,_,.nil=>.nil
 |_,_,0,.cons _ r=>.cons t r
 |_,_,i+1,.cons u r=>.cons u (RelL.set t i r)
theorem RelL.getD:∀{vs:List V} {ds:List W} {i:Nat} {d:W},RelL K ρ H vs ds->ds[i]? = some d->∃v,vs[i]? = some v/\Rel K ρ H v d
 |_,_,_,_,.nil,h=>by simp at h
 |_,_,0,_,.cons t _,h=>by cases h;exact⟨_,rfl,t⟩
 |_,_,i+1,_,.cons _ t,h=>t.getD (i:=i) (by simpa using h)
theorem ZAS.monoY(s:Sty ρ H ρ' H'){a:Addr}{c:Cell}(e:H' a=H a)(h:ZAS K ρ H a c):ZAS K ρ' H' a c:=by
 cases c with
 |pl ds=>obtain⟨vs,h1,h2⟩:=h;exact⟨vs,by rw[e];exact h1,h2.monoY s⟩
 |rl ws=>obtain⟨vs,h1,h2⟩:=h;exact⟨vs,by rw[e];exact h1,h2.monoY s⟩
 |dk ws=>obtain⟨vs,h1,h2⟩:=h;exact⟨vs,by rw[e];exact h1,h2.monoY s⟩
 |fd ws=>obtain⟨od,vs,h1,h2⟩:=h;exact⟨od,vs,by rw[e];exact h1,h2.monoY s⟩
 |ob c fs=>obtain⟨C,dx,vs,h0,h1,h2⟩:=h;exact⟨C,dx,vs,h0,by rw[e];exact h1,h2.monoY s⟩
theorem ZER(s:Stp ρ H ρ' H'){n:Nat}(h : ρ.c[n]? = some a) : ρ'.c[n]? = some a:=ZHa s.y h
theorem ZAS.mono(s:Stp ρ H ρ' H'){c:Cell}(e:H' a=H a)(h:ZAS K ρ H a c):ZAS K ρ' H' a c:=h.monoY s.y e
theorem ZAS.less(hc : ρ'.c = ρ.c)(s:∀a,ρ'.mem a->ρ.mem a){a:Addr}{c:Cell}(h:ZAS K ρ H a c):ZAS K ρ' H a c:=by
 cases c with
 |pl ds=>obtain⟨vs,h1,h2⟩:=h;exact⟨vs,h1,h2.less s⟩
 |rl ws=>obtain⟨vs,h1,h2⟩:=h;exact⟨vs,h1,h2.less hc s⟩
 |dk ws=>obtain⟨vs,h1,h2⟩:=h;exact⟨vs,h1,h2.less hc s⟩
 |fd ws=>obtain⟨od,vs,h1,h2⟩:=h;exact⟨od,vs,h1,h2.less hc s⟩
 |ob c fs=>obtain⟨C,dx,vs,h0,h1,h2⟩:=h;exact⟨C,dx,vs,h0,h1,h2.less hc s⟩
theorem ZAS.has{c:Cell}(h:ZAS K ρ H a c):∃o,H a=some o:=by
 cases c with
 |pl ds=>obtain⟨vs,h1,h2⟩:=h;exact⟨_,h1⟩
 |rl ws=>obtain⟨vs,h1,h2⟩:=h;exact⟨_,h1⟩
 |dk ws=>obtain⟨vs,h1,h2⟩:=h;exact⟨_,h1⟩
 |fd ws=>obtain⟨od,vs,h1,h2⟩:=h;exact⟨_,h1⟩
 |ob c fs=>obtain⟨C,dx,vs,h0,h1,h2⟩:=h;exact⟨_,h1⟩
structure HR (K:Frag) (ρ : Rh) (H:Hp) (g:G):Prop where
 len : ρ.c.length=g.length
 nd : ρ.c.Nodup
 ce:∀(n:Nat) (c:Cell),g[n]? = some c->∃a,ρ.c[n]? = some a/\ZAS K ρ H a c
 hid:∀a∈ρ.h,a∉ρ.c/\∃o,H a=some o
theorem HR.at_(h:HR K ρ H g):∀(n:Nat) (ds:Qd),g[n]? = some (.pl ds)->∃a vs,ρ.c[n]? = some a/\H a=some (.lst vs)/\RelDL K ρ H vs ds:=λn ds e=>by
 obtain⟨a,h1,vs,h2,h3⟩:=h.ce n _ e;exact⟨a,vs,h1,h2,h3⟩
theorem HR.has{g:G}(h:HR K ρ H g){a:Addr}(ha:a∈ρ.c):∃o,H a=some o:=by
 obtain⟨n,hn⟩:=List.mem_iff_getElem?.mp ha;have hl:=(List.getElem?_eq_some_iff.mp hn).1;rw[h.len] at hl;obtain⟨a',e,hv⟩:=h.ce n _ (getElem?_eq_getElem hl);rw[hn] at e;cases e;exact hv.has
theorem HR.nin(h:HR K ρ H g)(hp:H p=none) : ¬ρ.mem p:=λz=>by
 rcases z with z|z
 .obtain⟨vs,e⟩:=h.has z
  rw[hp] at e;cases e
 .obtain⟨_,o,e⟩:=h.hid _ z
  rw[hp] at e;cases e
theorem HR.same{g:G}(s:Same H H')(h:HR K ρ H g):HR K ρ H' g:=⟨h.len,h.nd,λn ds e=>by
 obtain⟨a,h1,h2⟩:=h.ce n ds e;obtain⟨o,h3⟩:=h2.has;exact⟨a,h1,h2.mono (Stp.same s) (by rw[h3];exact s _ _ h3)⟩,λa z=>by
 obtain⟨h1,o,e⟩:=h.hid a z;exact⟨h1,o,s _ _ e⟩⟩
noncomputable def Rh.add(ρ : Rh)(p:Addr):Rh:=⟨ρ.c++[p],ρ.h⟩
theorem HR.allocC(h:HR K ρ H g)(hp:H p=none){c:Cell}(t:Stp ρ H (ρ.add p) (upd H p o)->ZAS K (ρ.add p) (upd H p o) p c):HR K (ρ.add p) (upd H p o) (g++[c])/\Stp ρ H (ρ.add p) (upd H p o):=by
 have s:Stp ρ H (ρ.add p) (upd H p o):=⟨⟨[p],rfl⟩,rfl,λa o e _=>by rw[ZG (ZJ e hp)];exact e,λa z=>by
  rcases List.mem_append.mp z with z|z
  .exact .inl z
  .rw[List.mem_singleton.mp z];exact .inr hp,λa u e=>⟨u,by rw[ZG (ZJ e hp)];exact e,rfl⟩⟩
 refine⟨⟨by show(ρ.c++[p]).length=_;rw[Xa,Xa,h.len];rfl,?_,λn d e=>?_,λa z=>?_⟩,s⟩
 .show(ρ.c++[p]).Nodup
  rw[nodup_append];refine⟨h.nd,by simp,λa ha b hb=>?_⟩;rw[List.mem_singleton.mp hb];intro z;rw[z] at ha;exact h.nin hp (.inl ha)
 .show ∃a,(ρ.c++[p])[n]? = some a/\_
  by_cases hn:n<g.length
  .rw[getElem?_append_left hn] at e
   obtain⟨a,h1,h2⟩:=h.ce n d e;obtain⟨u,h3⟩:=h2.has;exact⟨a,by rw[getElem?_append_left (by rw[h.len];exact hn)];exact h1,h2.mono s (ZG (ZJ h3 hp))⟩
  .have hl:n<(g++[c]).length:=(List.getElem?_eq_some_iff.mp e).1
   have hn':n=g.length:=by rw[Xa] at hl;simp at hl;omega
   rw[hn',getElem?_append_right (le_refl _)] at e;simp at e;subst e;refine⟨p,?_,t s⟩;rw[hn',<-h.len,getElem?_append_right (le_refl _)];simp
 .obtain⟨h1,u,e⟩:=h.hid a z
  refine⟨λq=>?_,u,by rw[ZG (ZJ e hp)];exact e⟩;rcases List.mem_append.mp q with q|q
  .exact h1 q
  .rw[List.mem_singleton.mp q] at e;rw[e] at hp;cases hp
theorem HR.alloc(h:HR K ρ H g)(hp:H p=none)(t:RelDL K ρ H vs ds):HR K (ρ.add p) (upd H p (.lst vs)) (g++[.pl ds])/\Stp ρ H (ρ.add p) (upd H p (.lst vs)):=h.allocC hp λs=>⟨vs,Za,t.mono s⟩
theorem HR.writeC(h:HR K ρ H g){n:Nat}(ha : ρ.c[n]? = some a){c:Cell}(hk:∀u,H a=some u->kdO o=kdO u)(t:Stp ρ H ρ (upd H a o)->ZAS K ρ (upd H a o) a c):HR K ρ (upd H a o) (g.set n c)/\Stp ρ H ρ (upd H a o):=by
 have hm:a∈ρ.c:=mem_of_getElem? ha;have s:Stp ρ H ρ (upd H a o):=⟨⟨[],(append_nil _).symm⟩,rfl,λb o e nb=>by rw[ZG (λz=>nb (by rw[z];exact hm))];exact e,λ_ z=>.inl z,λb u e=>by
  by_cases q:b=a
  .subst q;exact⟨o,Za,hk u e⟩
  .exact⟨u,by rw[ZG q];exact e,rfl⟩⟩
 refine⟨⟨by rw[length_set,h.len],h.nd,λm d e=>?_,λb z=>?_⟩,s⟩
 .by_cases hnm:n=m
  .subst hnm
   have hl:n<g.length:=by have:=(List.getElem?_eq_some_iff.mp e).1;rw[length_set] at this;exact this
   rw[getElem?_set_self hl] at e;cases e;exact⟨a,ha,t s⟩
  .rw[getElem?_set_ne hnm] at e
   obtain⟨b,h1,h2⟩:=h.ce m d e;have:b≠a:=λz=>by
    rw[z] at h1;have l1:=(List.getElem?_eq_some_iff.mp h1).1;have e1:=(List.getElem?_eq_some_iff.mp h1).2;have l2:=(List.getElem?_eq_some_iff.mp ha).1;have e2:=(List.getElem?_eq_some_iff.mp ha).2;rcases Nat.lt_or_gt_of_ne hnm with q|q
    .exact(List.pairwise_iff_getElem.mp h.nd n m l2 l1 q) (by rw[e1,e2])
    .exact(List.pairwise_iff_getElem.mp h.nd m n l1 l2 q) (by rw[e1,e2])
   exact⟨b,h1,h2.mono s (ZG this)⟩
 .obtain⟨h1,u,e⟩:=h.hid b z
  exact⟨h1,u,by rw[ZG (λq=>h1 (by rw[q];exact hm))];exact e⟩
theorem HR.write(h:HR K ρ H g){n:Nat}(ha : ρ.c[n]? = some a){us:List V}(hl:H a=some (.lst us))(t:RelDL K ρ H vs ds):HR K ρ (upd H a (.lst vs)) (g.set n (.pl ds))/\Stp ρ H ρ (upd H a (.lst vs)):=h.writeC ha (λu e=>by rw[hl] at e;cases e;rfl) λs=>⟨vs,Za,t.mono s⟩
theorem ZCV(h:HR K ρ H g)(hp:H p=none):Same H (upd H p o)/\HR K ρ (upd H p o) g/\¬ρ.mem p:=⟨H1.Same.upd hp,h.same (H1.Same.upd hp),h.nin hp⟩
noncomputable def Rh.hide(ρ : Rh)(p:Addr):Rh:=⟨ρ.c,p::ρ.h⟩
theorem FzL.hide{a p:Addr}{xs:List V}(hp:H p=none)(h:FzL K ρ H a xs):FzL K (ρ.hide p) (upd H p o) a xs:=by
 rcases h with ⟨h,n⟩|h
 .have hn:a≠p:=by
   rcases h with h|⟨_,h⟩ <;> exact ZJ h hp
  refine .inl ⟨?_,λz=>z.elim (λq=>n (.inl q)) λq=>(List.mem_cons.mp q).elim hn λq=>n (.inr q)⟩;unfold Rd;rw[ZG hn];exact h
 .exact .inr h
theorem FzT.hide{a p:Addr}{xs:List V}(hp:H p=none)(h:FzT K ρ H a xs):FzT K (ρ.hide p) (upd H p o) a xs:=by
 rcases h with ⟨h,n⟩|h
 .have hn:a≠p:=by
   rcases h with h|⟨_,h⟩ <;> exact ZJ h hp
  refine .inl ⟨?_,λz=>z.elim (λq=>n (.inl q)) λq=>(List.mem_cons.mp q).elim hn λq=>n (.inr q)⟩;unfold Rd;rw[ZG hn];exact h
 .exact .inr h
mutual
theorem RelD.hide{p:Addr}{o:HO}(hp:H p=none):∀{v:V} {d:PyData},RelD K ρ H v d->RelD K (ρ.hide p) (upd H p o) v d
 |_,_,.non=>.non
 |_,_,.bl b=>.bl b
 |_,_,.int i=>.int i
 |_,_,.str x=>.str x
 |_,_,.tup h hl=>.tup (h.hide hp) (RelDL.hide hp hl)
 |_,_,.lst h n hl=>.lst (by rw[ZG (ZJ h hp)];exact h) (λz=>z.elim (λq=>n (.inl q)) λq=>(List.mem_cons.mp q).elim (ZJ h hp) λq=>n (.inr q)) (RelDL.hide hp hl)
 |_,_,.dct h n=>.dct (by rw[ZG (ZJ h hp)];exact h) λz=>z.elim (λq=>n (.inl q)) λq=>(List.mem_cons.mp q).elim (ZJ h hp) λq=>n (.inr q)
theorem RelDL.hide{p:Addr}{o:HO}(hp:H p=none):∀{vs:List V} {ds:Qd},RelDL K ρ H vs ds->RelDL K (ρ.hide p) (upd H p o) vs ds
 |_,_,.nil=>.nil
 |_,_,.cons h hl=>.cons (RelD.hide hp h) (RelDL.hide hp hl)
end
theorem ZE1.hide{p:Addr}{o:HO}{x:Addr}{nm:Str}{t:Option Int}(hp:H p=none)(h:ZE1 K ρ H x nm t):ZE1 K (ρ.hide p) (upd H p o) x nm t:=by
 obtain⟨C,od,y,e,⟨hx,nx⟩,h0,ha⟩:=h;have nm:∀a u,H a=some u->¬ρ.mem a->¬(ρ.hide p).mem a:=λa u e n z=>z.elim (λq=>n (.inl q)) λq=>(List.mem_cons.mp q).elim (ZJ e hp) λq=>n (.inr q)
 refine⟨C,od,y,e,⟨by rw[ZG (ZJ hx hp)];exact hx,nm _ _ hx nx⟩,h0,λn q=>?_⟩;obtain⟨dx,e1,e2,e3⟩:=ha n q;exact⟨dx,e1,by rw[ZG (ZJ e2 hp)];exact e2,nm _ _ e2 e3⟩
mutual
theorem Rel.hide{p:Addr}{o:HO}(hp:H p=none):∀{v:V} {x:W},Rel K ρ H v x->Rel K (ρ.hide p) (upd H p o) v x
 |_,_,.dat h=>.dat (h.hide hp)
 |_,_,.ref h=>.ref h
 |_,_,.inp h=>.inp (h.hide hp)
 |_,_,.ty=>.ty
 |_,_,.exc h=>.exc (h.hide hp)
 |_,_,.tup h t=>.tup (h.hide hp) (RelL.hide hp t)
theorem RelL.hide{p:Addr}{o:HO}(hp:H p=none):∀{vs:List V} {xs:List W},RelL K ρ H vs xs->RelL K (ρ.hide p) (upd H p o) vs xs
 |_,_,.nil=>.nil
 |_,_,.cons h t=>.cons (Rel.hide hp h) (RelL.hide hp t)
end
theorem RelF.hide{p:Addr}{o:HO}(hp:H p=none):∀{ns:List Str} {vs:List (Str×V)} {xs:List W},RelF K ρ H ns vs xs->RelF K (ρ.hide p) (upd H p o) ns vs xs
 |_,_,_,.nil=>.nil
 |_,_,_,.cons h t=>.cons (h.hide hp) (t.hide hp)
theorem RelK.hide{p:Addr}{o:HO}(hp:H p=none):∀{vs:List (Key×V)} {xs:List (Key×W)},RelK K ρ H vs xs->RelK K (ρ.hide p) (upd H p o) vs xs
 |_,_,.nil=>.nil
 |_,_,.cons h t=>.cons (h.hide hp) (t.hide hp)
theorem ZAS.hide{p:Addr}{o:HO}(hp:H p=none){a:Addr}{c:Cell}(h:ZAS K ρ H a c):ZAS K (ρ.hide p) (upd H p o) a c:=by
 obtain⟨u,hu⟩:=h.has;have e:upd H p o a=H a:=ZG (ZJ hu hp);cases c with
 |pl ds=>obtain⟨vs,h1,h2⟩:=h;exact⟨vs,by rw[e];exact h1,h2.hide hp⟩
 |rl ws=>obtain⟨vs,h1,h2⟩:=h;exact⟨vs,by rw[e];exact h1,h2.hide hp⟩
 |dk ws=>obtain⟨vs,h1,h2⟩:=h;exact⟨vs,by rw[e];exact h1,h2.hide hp⟩
 |fd ws=>obtain⟨od,vs,h1,h2⟩:=h;exact⟨od,vs,by rw[e];exact h1,h2.hide hp⟩
 |ob c fs=>obtain⟨C,dx,vs,h0,h1,h2⟩:=h;exact⟨C,dx,vs,h0,by rw[e];exact h1,h2.hide hp⟩
theorem HR.hide{g:G}{p:Addr}{o:HO}(hp:H p=none)(h:HR K ρ H g):HR K (ρ.hide p) (upd H p o) g:=⟨h.len,h.nd,λn ds e=>by
 obtain⟨a,h1,h2⟩:=h.ce n ds e;exact⟨a,h1,h2.hide hp⟩,λa z=>by
 rcases List.mem_cons.mp z with rfl|z
 .exact⟨λq=>h.nin hp (.inl q),o,Za⟩
 .obtain⟨h1,u,e⟩:=h.hid a z
  exact⟨h1,u,by rw[ZG (ZJ e hp)];exact e⟩⟩
theorem FzL.grow(hp:p∈ρ.h)(h:FzL K ρ H a xs):FzL K ρ (upd H p o) a xs:=by
 rcases h with ⟨h,n⟩|h
 .refine .inl ⟨?_,n⟩
  unfold Rd;rw[ZG λz=>n (.inr (by rw[z];exact hp))];exact h
 .exact .inr h
theorem FzT.grow(hp:p∈ρ.h)(h:FzT K ρ H a xs):FzT K ρ (upd H p o) a xs:=by
 rcases h with ⟨h,n⟩|h
 .refine .inl ⟨?_,n⟩
  unfold Rd;rw[ZG λz=>n (.inr (by rw[z];exact hp))];exact h
 .exact .inr h
mutual
theorem RelD.grow{p:Addr}{o:HO}(hp:p∈ρ.h):∀{v:V} {d:PyData},RelD K ρ H v d->RelD K ρ (upd H p o) v d
 |_,_,.non=>.non
 |_,_,.bl b=>.bl b
 |_,_,.int i=>.int i
 |_,_,.str x=>.str x
 |_,_,.tup h hl=>.tup (h.grow hp) (RelDL.grow hp hl)
 |_,_,.lst h n hl=>.lst (by rw[ZG λz=>n (.inr (by rw[z];exact hp))];exact h) n (RelDL.grow hp hl)
 |_,_,.dct h n=>.dct (by rw[ZG λz=>n (.inr (by rw[z];exact hp))];exact h) n
theorem RelDL.grow{p:Addr}{o:HO}(hp:p∈ρ.h):∀{vs:List V} {ds:Qd},RelDL K ρ H vs ds->RelDL K ρ (upd H p o) vs ds
 |_,_,.nil=>.nil
 |_,_,.cons h hl=>.cons (RelD.grow hp h) (RelDL.grow hp hl)
end
theorem ZE1.grow{nm:Str}(hp:p∈ρ.h)(h:ZE1 K ρ H x nm t):ZE1 K ρ (upd H p o) x nm t:=by
 obtain⟨C,od,y,e,⟨hx,nx⟩,h0,ha⟩:=h;refine⟨C,od,y,e,⟨by rw[ZG λz=>nx (.inr (by rw[z];exact hp))];exact hx,nx⟩,h0,λn q=>?_⟩;obtain⟨dx,e1,e2,e3⟩:=ha n q;exact⟨dx,e1,by rw[ZG λz=>e3 (.inr (by rw[z];exact hp))];exact e2,e3⟩
mutual
theorem Rel.grow{p:Addr}{o:HO}(hp:p∈ρ.h):∀{v:V} {x:W},Rel K ρ H v x->Rel K ρ (upd H p o) v x
 |_,_,.dat h=>.dat (h.grow hp)
 |_,_,.ref h=>.ref h
 |_,_,.inp h=>.inp (h.grow hp)
 |_,_,.ty=>.ty
 |_,_,.exc h=>.exc (h.grow hp)
 |_,_,.tup h t=>.tup (h.grow hp) (RelL.grow hp t)
theorem RelL.grow{p:Addr}{o:HO}(hp:p∈ρ.h):∀{vs:List V} {xs:List W},RelL K ρ H vs xs->RelL K ρ (upd H p o) vs xs
 |_,_,.nil=>.nil
 |_,_,.cons h t=>.cons (Rel.grow hp h) (RelL.grow hp t)
end
theorem RelF.grow{p:Addr}{o:HO}(hp:p∈ρ.h):∀{ns:List Str} {vs:List (Str×V)} {xs:List W},RelF K ρ H ns vs xs->RelF K ρ (upd H p o) ns vs xs
 |_,_,_,.nil=>.nil
 |_,_,_,.cons h t=>.cons (h.grow hp) (t.grow hp)
theorem RelK.grow{p:Addr}{o:HO}(hp:p∈ρ.h):∀{vs:List (Key×V)} {xs:List (Key×W)},RelK K ρ H vs xs->RelK K ρ (upd H p o) vs xs
 |_,_,.nil=>.nil
 |_,_,.cons h t=>.cons (h.grow hp) (t.grow hp)
theorem HR.grow{g:G}{p:Addr}{o:HO}(hp:p∈ρ.h)(h:HR K ρ H g):HR K ρ (upd H p o) g:=⟨h.len,h.nd,λn ds e=>by
 obtain⟨a,h1,h2⟩:=h.ce n ds e;have eh:upd H p o a=H a:=ZG λz=>(h.hid p hp).1 (by rw[<-z];exact mem_of_getElem? h1)
 refine⟨a,h1,?_⟩;cases ds with
 |pl ds=>obtain⟨vs,h1,h2⟩:=h2;exact⟨vs,by rw[eh];exact h1,h2.grow hp⟩
 |rl ws=>obtain⟨vs,h1,h2⟩:=h2;exact⟨vs,by rw[eh];exact h1,h2.grow hp⟩
 |dk ws=>obtain⟨vs,h1,h2⟩:=h2;exact⟨vs,by rw[eh];exact h1,h2.grow hp⟩
 |fd ws=>obtain⟨od,vs,h1,h2⟩:=h2;exact⟨od,vs,by rw[eh];exact h1,h2.grow hp⟩
 |ob c fs=>obtain⟨C,dx,vs,h0,h1,h2⟩:=h2;exact⟨C,dx,vs,h0,by rw[eh];exact h1,h2.grow hp⟩,λa z=>by
 obtain⟨h1,u,e⟩:=h.hid a z
 by_cases q:a=p
 .subst q;exact⟨h1,o,Za⟩
 .exact⟨h1,u,by rw[ZG q];exact e⟩⟩
theorem HR.shown(h:HR K (ρ.hide p) H g):HR K ρ H g:=⟨h.len,h.nd,λn ds e=>by
 obtain⟨a,h1,h2⟩:=h.ce n ds e;exact⟨a,h1,h2.less (ρ':=ρ) (ρ:=ρ.hide p) rfl (λ_ z=>z.elim .inl λq=>.inr (Xo _ q))⟩,λa z=>h.hid a (Xo _ z)⟩
end
structure Rst (K:Frag) (ρ : Rh) (H:Hp) (σ : St) (sd:Sd) (g:G):Prop where
 len : σ.length=sd.length
 env:∀(i:Nat) (x:W),sd[i]? = some (some x)->∃v,σ[i]? = some (some v)/\Rel K ρ H v x
 hr:HR K ρ H g
variable{g':G}
theorem Rst.step{sd:Sd}(r:Rst K ρ H σ sd g)(s:Stp ρ H ρ' H')(h:HR K ρ' H' g'):Rst K ρ' H' σ sd g':=⟨r.len,λi x e=>by
 obtain⟨v,h1,h2⟩:=r.env i x e;exact⟨v,h1,h2.mono s⟩,h⟩
theorem Rst.set{K:Frag}{ρ:Rh}{H:Hp}{σ:St}{sd:Sd}{g:G}(r:Rst K ρ H σ sd g){v:V}{x:W}(t:Rel K ρ H v x)(i:Nat):Rst K ρ H (σ.set i (some v)) (sd.set i (some x)) g:=⟨by rw[length_set,length_set,r.len],λj y e=>by
 by_cases hj:i=j
 .subst hj
  have hl:i<sd.length:=by have:=(List.getElem?_eq_some_iff.mp e).1;rw[length_set] at this;exact this
  rw[getElem?_set_self hl] at e;cases e;exact⟨v,by rw[getElem?_set_self (by rw[r.len];exact hl)],t⟩
 .rw[getElem?_set_ne hj] at e
  obtain⟨u,h1,h2⟩:=r.env j y e;exact⟨u,by rw[getElem?_set_ne hj];exact h1,h2⟩,r.hr⟩
abbrev DE:=Sd->G->Option (W×G)
abbrev DB:=Sd->G->Option (Bool×G)
abbrev DA:=Sd->G->Option (List W×G)
def Pv(K:Frag)(ρ : Rh)(H:Hp)(x:W)(g:G)(Q:VK):Prop:=∀v H' ρ',Stp ρ H ρ' H'->HR K ρ' H' g->Rel K ρ' H' v x->Q v H'
variable{Q:VK}
theorem Pv.step{x:W}(p:Pv K ρ H x g Q)(s:Stp ρ H ρ' H'):Pv K ρ' H' x g Q:=λv H2 ρ2 s2 h r=>p v H2 ρ2 (s.trans s2) h r
def tE(K:Frag)(d:DE):TE:=λσ H Q=>∃ρ sd g x g',Rst K ρ H σ sd g/\d sd g=some (x,g')/\Pv K ρ H x g' Q
def tT(K:Frag)(d:DB):TT:=λσ H Q=>∃ρ sd g b g',Rst K ρ H σ sd g/\d sd g=some (b,g')/\∀H' ρ',Stp ρ H ρ' H'->HR K ρ' H' g'->Q b H'
def tA(K:Frag)(d:DA):TA:=λσ H Q=>∃ρ sd g xs g',Rst K ρ H σ sd g/\d sd g=some (xs,g')/\∀vs H' ρ',Stp ρ H ρ' H'->HR K ρ' H' g'->RelL K ρ' H' vs xs->Q vs H'
variable{X:Cx}{e:Expr}
theorem PE.imp{t u:TE}(h:PE X e t)(k:∀σ H Q,u σ H Q->t σ H Q):PE X e u:=λpq s σ H Q I q=>h pq s σ H Q I (k σ H Q q)
theorem PT.imp{t u:TT}(h:PT X e t)(k:∀σ H Q,u σ H Q->t σ H Q):PT X e u:=λpq s σ H Q I q=>h pq s σ H Q I (k σ H Q q)
theorem PW.imp{t u:TT}(h:PW X e t)(k:∀σ H Q,u σ H Q->t σ H Q):PW X e u:=λwh pq s σ H Q I q=>h wh pq s σ H Q I (k σ H Q q)
theorem PA.imp{e:List Expr}{t u:TA}(h:PA X e t)(k:∀σ H Q,u σ H Q->t σ H Q):PA X e u:=λpos pq s σ H Q I q=>h pos pq s σ H Q I (k σ H Q q)
theorem PS.imp{e:Stmt}{t u:TS}(h:PS X e t)(k:∀D σ H,u D σ H->t D σ H):PS X e u:=λpq s σ H D I q=>h pq s σ H D I (k D σ H q)
theorem PSs.imp{e:List Stmt}{t u:TS}(h:PSs X e t)(k:∀D σ H,u D σ H->t D σ H):PSs X e u:=λpq s σ H D I q=>h pq s σ H D I (k D σ H q)
theorem OpR.imp{f:Value->Value->Sem Value}{r r':R2}(h:OpR X f r)(k:∀x y H Q,r' x y H Q->r x y H Q):OpR X f r':=λpq s σ H x y v u Q I rx ry q=>h pq s σ H x y v u Q I rx ry (k x y H Q q)
theorem Zi.imp{f:Value}{r r':List V->Hp->VK->Prop}(h:Zi X f r)(k:∀xs H Q,r' xs H Q->r xs H Q):Zi X f r':=λpq s σ H xs us Q I rx q=>h pq s σ H xs us Q I rx (k xs H Q q)
noncomputable def ZB(i:Nat):DE:=λsd g=>match sd.getD i none with|some x=>some (x,g)|none=>none
noncomputable def dC(d:PyData):DE:=λ_ g=>some (.dat d,g)
abbrev dI(i:Int):DE:=dC (.int i)
noncomputable def dOp(f:W->W->G->Option (W×G))(da db:DE):DE:=λsd g=>(da sd g).bind λp=>(db sd p.2).bind λq=>f p.1 q.1 q.2
noncomputable def dUn(f:W->G->Option (W×G))(da:DE):DE:=λsd g=>(da sd g).bind λp=>f p.1 p.2
noncomputable def bW:W×G->Option (Bool×G)
 |(.dat (.bool b),g)=>some (b,g)
 |_=>none
def dB(d:DE):DB:=λsd g=>(d sd g).bind bW
noncomputable def ZDJ(d:DB):DB:=λsd g=>(d sd g).map λp=>(!p.1,p.2)
noncomputable def ZCX(d e:DB):DB:=λsd g=>(d sd g).bind λp=>if p.1=true then e sd p.2 else some (false,p.2)
noncomputable def dOr(d e:DB):DB:=λsd g=>(d sd g).bind λp=>if p.1=true then some (true,p.2) else e sd p.2
noncomputable def ZC:DA:=λ_ g=>some ([],g)
noncomputable def ZA(d:DE)(a:DA):DA:=λsd g=>(d sd g).bind λp=>(a sd p.2).map λq=>(p.1::q.1,q.2)
noncomputable def dF(f:FW)(a:DA):DE:=λsd g=>(a sd g).bind λp=>f p.1 p.2
noncomputable def dats:List W->Option (List PyData)
 |[]=>some []
 |.dat d::r=>(dats r).map λds=>d::ds
 |_::_=>none
def Zd(ws:List W)(g:G):Option (W×G):=(dats ws).bind λds=>if ds.length<=1000 then some (.dat (.tuple ds),g) else none
def ZGx(ws:List W)(g:G):Option (W×G):=(dats ws).bind λds=>if ds.length<=1000 then some (.dat (.list ds),g) else none
def ZCI(ws:List W)(g:G):Option (W×G):=(dats ws).bind λds=>if ds.length<=1000 then some (.ref g.length,g++[.pl ds]) else none
def rOp(K:Frag)(f:W->W->G->Option (W×G)):R2:=λx y H Q=>∃ρ a b g z g',HR K ρ H g/\Rel K ρ H x a/\Rel K ρ H y b/\f a b g=some (z,g')/\Pv K ρ H z g' Q
def rF(K:Frag)(f:FW):List V->Hp->VK->Prop:=λxs H Q=>∃ρ ws g z g',HR K ρ H g/\RelL K ρ H xs ws/\f ws g=some (z,g')/\Pv K ρ H z g' Q
variable{β:Type}
theorem bnd{o:Option α}{f:α->Option β}{y:β}(h:o.bind f=some y):∃x,o=some x/\f x=some y:=by
 cases o with
 |none=>cases h
 |some x=>exact⟨x,rfl,h⟩
theorem mp{o:Option α}{f:α->β}{y:β}(h:o.map f=some y):∃x,o=some x/\f x=y:=by
 cases o with
 |none=>cases h
 |some x=>exact⟨x,rfl,Option.some.inj h⟩
variable{ws:List W}
theorem ZGv:∀{vs:List V} {ds:Qd},RelL K ρ H vs ws->dats ws=some ds->RelDL K ρ H vs ds:=by
 induction ws with
 |nil=>intro vs ds t e;cases t;cases e;exact .nil
 |cons w r ih =>
  intro vs ds t e;cases t with
  |cons h t =>
   cases h with
   |dat h =>
    obtain⟨x,e1,rfl⟩:=mp e;exact .cons h (ih t e1)
   |_=>cases e
section
variable{X:Cx}{a b c e:Expr}{es:List Expr}{da db dc d:DE}{ta tb:DB}{aa:DA}{pos p2:Pos}{f f':W->W->G->Option (W×G)}
theorem ZPw{d:PyData}(h:PE X e (tC v))(r:∀ρ H,RelD X.K ρ H v d):PE X e (tE X.K (dC d)):=h.imp λσ H Q ⟨ρ,sd,g,y,g',hr,e,q⟩=>by
 cases e;exact q v H ρ .refl hr.hr (.dat (r ρ H))
theorem ZL9(h:tE X.K (dOp f da db) σ H Q):tOp (rOp X.K f) (tE X.K da) (tE X.K db) σ H Q:=by
 obtain⟨ρ,sd,g,x,g',r,e,q⟩:=h;obtain⟨⟨y,g1⟩,e1,e⟩:=bnd e;obtain⟨⟨z,g2⟩,e2,e⟩:=bnd e;refine⟨ρ,sd,g,y,g1,r,e1,λv H1 ρ1 s1 h1 r1=>⟨ρ1,sd,g1,z,g2,r.step s1 h1,e2,λw H2 ρ2 s2 h2 r2=>?_⟩⟩;exact⟨ρ2,y,z,g2,x,g',h2,r1.mono s2,r2,e,q.step (s1.trans s2)⟩
theorem ZGd{x:W}{k:Bool}(r:Rel K ρ H v x)(h:bW (x,g)=some (k,g')):v=.bl k/\g=g':=by
 cases r with
 |ref _=>cases h
 |inp _=>cases h
 |ty=>cases h
 |exc _=>cases h
 |tup _ _=>cases h
 |dat r =>
  cases r with
  |bl c=>cases h;exact⟨rfl,rfl⟩
  |_=>cases h
theorem ZJC{σ:St}{H:Hp}{Q:Bool->Hp->Prop}{t:TE}(k:∀σ H Q,tE X.K d σ H Q->t σ H Q)(h:tT X.K (dB d) σ H Q):ZQH t σ H Q:=by
 obtain⟨ρ,sd,g,b,g',r,e,q⟩:=h;obtain⟨⟨y,g1⟩,e1,e⟩:=bnd e;refine k _ _ _ ⟨ρ,sd,g,y,g1,r,e1,λv H1 ρ1 s1 h1 r1=>?_⟩;obtain⟨rfl,rfl⟩:=ZGd r1 e;exact⟨b,rfl,q H1 ρ1 s1 h1⟩
def ZDu(f f':W->W->G->Option (W×G))(da db dc:DE):DE:=λsd g=>(da sd g).bind λp=>(db sd p.2).bind λq=>(f p.1 q.1 q.2).bind λz=>(bW z).bind λk=>if k.1=true then (dc sd k.2).bind λu=>f' q.1 u.1 u.2 else some (.dat (.bool false),k.2)
theorem ZOt(h:tE X.K (ZDu f f' da db dc) σ H Q):ZOw (rOp X.K f) (rOp X.K f') (tE X.K da) (tE X.K db) (tE X.K dc) σ H Q:=by
 obtain⟨ρ,sd,g,x,g',r,e,q⟩:=h;obtain⟨⟨y,g1⟩,e1,e⟩:=bnd e;obtain⟨⟨z,g2⟩,e2,e⟩:=bnd e;obtain⟨⟨u,g3⟩,e3,e⟩:=bnd e;obtain⟨⟨k,g4⟩,e4,e⟩:=bnd e;refine⟨ρ,sd,g,y,g1,r,e1,λv H1 ρ1 s1 h1 r1=>⟨ρ1,sd,g1,z,g2,r.step s1 h1,e2,λw H2 ρ2 s2 h2 r2=>⟨ρ2,y,z,g2,u,g3,h2,r1.mono s2,r2,e3,λt H3 ρ3 s3 h3 r3=>?_⟩⟩⟩;obtain⟨rfl,rfl⟩:=ZGd r3 e4;refine⟨k,rfl,?_⟩;have s13:=s1.trans (s2.trans s3);cases k with
 |true =>
  obtain⟨⟨u2,g5⟩,e5,e⟩:=bnd e;exact⟨ρ3,sd,g3,u2,g5,r.step s13 h3,e5,λt4 H4 ρ4 s4 h4 r4=>⟨ρ4,z,u2,g5,x,g',h4,(r2.mono s3).mono s4,r4,e,q.step (s13.trans s4)⟩⟩
 |false =>
  cases e;exact q (.bl false) H3 ρ3 s13 h3 (.dat (.bl false))
theorem ZQD{op op':CmpOp}(ho:OpR X (compareOp op) (rOp X.K f))(ho':OpR X (compareOp op') (rOp X.K f'))(ha:PE X a (tE X.K da))(hb:PE X b (tE X.K db))(hc:PE X c (tE X.K dc))(hm:lastMarks [op,op'] [b,c]=false:=by with_unfolding_all rfl) :
  PT X (.Compare a [op,op'] [b,c] pos) (tT X.K (dB (ZDu f f' da db dc))):=(ZPm ho ho' ha hb hc hm).imp λ_ _ _ h=>ZJC (λ_ _ _ h=>ZOt h) h
def ZA3(a b:DE):DE:=λsd g=>((a sd g).bind bW).bind λp=>if p.1=true then b sd p.2 else some (.dat (.bool false),p.2)
def ZOB(a b:DE):DE:=λsd g=>((a sd g).bind bW).bind λp=>if p.1=true then some (.dat (.bool true),p.2) else b sd p.2
def ZKV(a:DE):DE:=λsd g=>((a sd g).bind bW).map λp=>(.dat (.bool !p.1),p.2)
theorem ZQr:PA X [] (tA X.K ZC):=ZK1.imp λσ H Q ⟨ρ,sd,g,xs,g',r,e,q⟩=>by
 cases e;exact q [] H ρ .refl r.hr .nil
theorem ZMm(ha:PE X e (tE X.K d))(hr:PA X es (tA X.K aa))(hs:Ya X e es:=by rfl):PA X (e::es) (tA X.K (ZA d aa)):=(ZIG ha hr hs).imp λσ H Q ⟨ρ,sd,g,xs,g',r,e,q⟩=>by
 obtain⟨⟨y,g1⟩,e1,e⟩:=bnd e;obtain⟨⟨ys,g2⟩,e2,e⟩:=mp e;cases e;exact⟨ρ,sd,g,y,g1,r,e1,λv H1 ρ1 s1 h1 r1=>⟨ρ1,sd,g1,ys,g2,r.step s1 h1,e2,λvs H2 ρ2 s2 h2 r2=>q (v::vs) H2 ρ2 (s1.trans s2) h2 (.cons (r1.mono s2) r2)⟩⟩
theorem ZV7{fn:FW}(h:tE X.K (dF fn aa) σ H Q):tA X.K aa σ H λvs H1=>rF X.K fn vs H1 Q:=by
 obtain⟨ρ,sd,g,x,g',r,e,q⟩:=h;obtain⟨⟨ws,g1⟩,e1,e⟩:=bnd e;exact⟨ρ,sd,g,ws,g1,r,e1,λvs H1 ρ1 s1 h1 r1=>⟨ρ1,ws,g1,x,g',h1,r1,e,q.step s1⟩⟩
end
section
variable{X:Cx}{x:Str}{p pos:Pos}{e:Expr}{es:List Expr}{aa:DA}{id T:String}{fn:FW}
def spD(K:Frag)(n:Nat)(fn:FW):Sp:=λvs H Q _=>vs.length=n/\rF K fn vs H Q
inductive Many:DA->Nat->Prop
 |nil:Many ZC 0
 |cons {d:DE} {a:DA} {n:Nat}:Many a n->Many (ZA d a) (n+1)
theorem Many.len{a:DA}{n:Nat}(m:Many a n):∀{sd:Sd} {g g':G} {ws:List W},a sd g=some (ws,g')->ws.length=n:=by
 induction m with
 |nil=>intro sd g g' ws e;cases e;rfl
 |cons m ih =>
  intro sd g g' ws e;obtain⟨⟨y,g1⟩,e1,e⟩:=bnd e;obtain⟨⟨ys,g2⟩,e2,e⟩:=mp e;cases e;rw[Xc,ih e2]
end
mutual
inductive Pat where
 |nm (i:Nat)
 |tp (ps:Pats)
inductive Pats where
 |nil
 |cons (p:Pat) (r:Pats)
end
noncomputable def Pats.len:Pats->Nat
 |.nil=>0
 |.cons _ r=>r.len+1
mutual
def Pat.all(f:Nat->Bool):Pat->Bool
 |.nm i=>f i
 |.tp ps=>ps.all f
def Pats.all(f:Nat->Bool):Pats->Bool
 |.nil=>true
 |.cons p r=>p.all f && r.all f
end
mutual
def gP(K:Frag):Pat->TG
 |.nm i=>ZJU i
 |.tp ps=>ZWF K ps.len (gPs K ps)
def gPs(K:Frag):Pats->TGs
 |.nil=>ZVx
 |.cons p r=>ZTZ (gP K p) (gPs K r)
end
mutual
def Zs:Pat->W->Sd->Option Sd
 |.nm i,x,sd=>some (sd.set i (some x))
 |.tp ps,.dat (.tuple ds),sd=>ZBk ps ds sd
 |.tp ps,.tup ws,sd=>ZAz ps ws sd
 |.tp _,_,_=>none
def ZAz:Pats->List W->Sd->Option Sd
 |.nil,[],sd=>some sd
 |.cons p r,d::ds,sd=>(Zs p d sd).bind λsd'=>ZAz r ds sd'
 |_,_,_=>none
def ZBk:Pats->List PyData->Sd->Option Sd
 |.nil,[],sd=>some sd
 |.cons p r,d::ds,sd=>(Zs p (.dat d) sd).bind λsd'=>ZBk r ds sd'
 |_,_,_=>none
end
def ZJM(f:Nat->Bool)(σ σ':St):Prop:=σ.length = σ'.length/\∀i,f i=false->σ'[i]? = σ[i]?
theorem ZJM.refl{f:Nat->Bool}:ZJM f σ σ:=⟨rfl,λ_ _=>rfl⟩
theorem ZJM.trans{f:Nat->Bool}{σ σ1 σ2:St}(h:ZJM f σ σ1)(k:ZJM f σ1 σ2):ZJM f σ σ2:=⟨h.1.trans k.1,λi e=>(k.2 i e).trans (h.2 i e)⟩
mutual
theorem ZH7{K:Frag}{ρ:Rh}{H:Hp}{g:G}{f:Nat->Bool}:∀{p:Pat} {x:W} {sd sd':Sd} {σ:St} {v:V} {Q:St->Hp->Prop},p.all f=true->Zs p x sd=some sd'->Rst K ρ H σ sd g->Rel K ρ H v x->(∀σ',Rst K ρ H σ' sd' g->ZJM f σ σ'->Q σ' H)->gP K p v σ H Q
 |.nm i,x,sd,sd',σ,v,Q,hf,e,r,rv,q=>by
  rw[Zs] at e;cases e;rw[gP];refine q _ (r.set rv i) ⟨by rw[length_set],λj hj=>?_⟩;have:i≠j:=λz=>by rw[Pat.all,z,hj] at hf;cases hf
  rw[getElem?_set_ne this]
 |.tp ps,x,sd,sd',σ,v,Q,hf,e,r,rv,q=>by
  rw[Pat.all] at hf;cases rv with
  |dat rv =>
   cases rv with
   |tup h hl =>
    rw[Zs] at e;rw[gP];exact⟨_,_,rfl,h.sq,hl.length.trans (ZF3 e),ZOz hf e r hl q⟩
   |_=>simp[Zs] at e
  |tup h hl =>
   rw[Zs] at e;rw[gP];exact⟨_,_,rfl,h.sq,hl.length.trans (ZE6 e),ZMa hf e r hl q⟩
  |_=>simp[Zs] at e
theorem ZOz{K:Frag}{ρ:Rh}{H:Hp}{g:G}{f:Nat->Bool}:∀{ps:Pats} {ds:Qd} {sd sd':Sd} {σ:St} {vs:List V} {Q:St->Hp->Prop},ps.all f=true->ZBk ps ds sd=some sd'->Rst K ρ H σ sd g->RelDL K ρ H vs ds->(∀σ',Rst K ρ H σ' sd' g->ZJM f σ σ'->Q σ' H)->gPs K ps vs σ H Q
 |.nil,[],sd,sd',σ,_,Q,hf,e,r,.nil,q=>by
  rw[ZBk] at e;cases e;rw[gPs];exact⟨rfl,q _ r .refl⟩
 |.cons p ps,d::ds,sd,sd',σ,_,Q,hf,e,r,.cons (x:=v) (xs:=vs) h t,q=>by
  rw[ZBk] at e;obtain⟨sd1,e1,e⟩:=bnd e;rw[Pats.all,Bool.and_eq_true] at hf;rw[gPs];exact⟨v,vs,rfl,ZH7 hf.1 e1 r (.dat h) λσ1 r1 k1=>ZOz hf.2 e r1 t λσ2 r2 k2=>q σ2 r2 (k1.trans k2)⟩
 |.nil,_::_,_,_,_,_,_,_,e,_,_,_=>by simp[ZBk] at e
 |.cons _ _,[],_,_,_,_,_,_,e,_,_,_=>by simp[ZBk] at e
theorem ZMa{K:Frag}{ρ:Rh}{H:Hp}{g:G}{f:Nat->Bool}:∀{ps:Pats} {ds:List W} {sd sd':Sd} {σ:St} {vs:List V} {Q:St->Hp->Prop},ps.all f=true->ZAz ps ds sd=some sd'->Rst K ρ H σ sd g->RelL K ρ H vs ds->(∀σ',Rst K ρ H σ' sd' g->ZJM f σ σ'->Q σ' H)->gPs K ps vs σ H Q
 |.nil,[],sd,sd',σ,_,Q,hf,e,r,.nil,q=>by
  rw[ZAz] at e;cases e;rw[gPs];exact⟨rfl,q _ r .refl⟩
 |.cons p ps,d::ds,sd,sd',σ,_,Q,hf,e,r,.cons (v:=v) (vs:=vs) h t,q=>by
  rw[ZAz] at e;obtain⟨sd1,e1,e⟩:=bnd e;rw[Pats.all,Bool.and_eq_true] at hf;rw[gPs];exact⟨v,vs,rfl,ZH7 hf.1 e1 r h λσ1 r1 k1=>ZMa hf.2 e r1 t λσ2 r2 k2=>q σ2 r2 (k1.trans k2)⟩
 |.nil,_::_,_,_,_,_,_,_,e,_,_,_=>by simp[ZAz] at e
 |.cons _ _,[],_,_,_,_,_,_,e,_,_,_=>by simp[ZAz] at e
theorem ZE6:∀{ps:Pats} {ds:List W} {sd sd':Sd},ZAz ps ds sd=some sd'->ds.length=ps.len
 |.nil,[],_,_,_=>rfl
 |.cons p ps,d::ds,sd,sd',e=>by
  rw[ZAz] at e;obtain⟨sd1,e1,e⟩:=bnd e;rw[Xc,ZE6 e,Pats.len]
 |.nil,_::_,_,_,e=>by simp[ZAz] at e
 |.cons _ _,[],_,_,e=>by simp[ZAz] at e
theorem ZF3:∀{ps:Pats} {ds:Qd} {sd sd':Sd},ZBk ps ds sd=some sd'->ds.length=ps.len
 |.nil,[],_,_,_=>rfl
 |.cons p ps,d::ds,sd,sd',e=>by
  rw[ZBk] at e;obtain⟨sd1,e1,e⟩:=bnd e;rw[Xc,ZF3 e,Pats.len]
 |.nil,_::_,_,_,e=>by simp[ZBk] at e
 |.cons _ _,[],_,_,e=>by simp[ZBk] at e
end
inductive Out where
 |nx (sd:Sd) (g:G)
 |rt (x:W) (g:G)
 |bk (sd:Sd) (g:G)
 |ct (sd:Sd) (g:G)
abbrev DS:=Sd->G->Option Out
def ZFM(K:Frag)(ρ : Rh)(H:Hp)(E:Ends):Out->Prop
 |.nx sd g=>∀σ' H' ρ',Stp ρ H ρ' H'->Rst K ρ' H' σ' sd g->E.nx σ' H'
 |.rt x g=>Pv K ρ H x g E.rt
 |.bk sd g=>∀σ' H' ρ',Stp ρ H ρ' H'->Rst K ρ' H' σ' sd g->E.bk σ' H'
 |.ct sd g=>∀σ' H' ρ',Stp ρ H ρ' H'->Rst K ρ' H' σ' sd g->E.ct σ' H'
theorem ZFM.step{K:Frag}{ρ ρ':Rh}{H H':Hp}{E:Ends}{o:Out}(h:ZFM K ρ H E o)(s:Stp ρ H ρ' H'):ZFM K ρ' H' E o:=by
 cases o with
 |nx sd g=>exact λσ2 H2 ρ2 s2 r=>h σ2 H2 ρ2 (s.trans s2) r
 |rt x g=>exact Pv.step h s
 |bk sd g=>exact λσ2 H2 ρ2 s2 r=>h σ2 H2 ρ2 (s.trans s2) r
 |ct sd g=>exact λσ2 H2 ρ2 s2 r=>h σ2 H2 ρ2 (s.trans s2) r
def tS(K:Frag)(d:DS):TS:=λE σ H=>∃ρ sd g o,Rst K ρ H σ sd g/\d sd g=some o/\ZFM K ρ H E o
noncomputable def dNx:DS:=λsd g=>some (.nx sd g)
noncomputable def ZD(a b:DS):DS:=λsd g=>(a sd g).bind λo=>match o with|.nx sd' g'=>b sd' g'|o=>some o
noncomputable def ZR(i:Nat)(d:DE):DS:=λsd g=>(d sd g).bind λp=>some (.nx (sd.set i (some p.1)) p.2)
def ZAB(pt:Pat)(d:DE):DS:=λsd g=>(d sd g).bind λp=>(Zs pt p.1 sd).map λsd'=>.nx sd' p.2
noncomputable def ZE(d:DE):DS:=λsd g=>(d sd g).map λp=>.rt p.1 p.2
noncomputable def ZAT(d:DE):DS:=λsd g=>(d sd g).map λp=>.nx sd p.2
noncomputable def Zr(c:DB)(a b:DS):DS:=λsd g=>(c sd g).bind λp=>if p.1=true then a sd p.2 else b sd p.2
abbrev DI:=Sd->G->Option (List PyData×Option Nat×G)
def ZAu(src:Option Nat)(xs:List PyData)(g:G):Prop:=match src with|none=>True|some n=>g[n]? = some (.pl xs)
def lk(g:G)(n:Nat):Option (List PyData):=match g[n]? with|some (.pl ds)=>some ds|_=>none
theorem ZFa{n:Nat}(h:lk g n=some ds):g[n]? = some (.pl ds):=by
 unfold lk at h
 split at h
 .rename_i e;cases h;exact e
 .cases h
theorem ZDl{n:Nat}(h:g[n]? = some (.pl ds)):lk g n=some ds:=by
 unfold lk;rw[h]
noncomputable def ZDx(n:Nat)(lo:Int):List PyData:=(List.range n).map λ(i:Nat)=>.int (lo+(i:Int))
noncomputable def ZBn:Nat->List PyData->List PyData
 |_,[]=>[]
 |i,x::r=>.tuple [.int (i:Int),x]::ZBn (i+1) r
noncomputable def ZCt:List PyData->List PyData->List PyData
 |x::r,y::q=>.tuple [x,y]::ZCt r q
 |_,_=>[]
theorem ZHx:∀{xs:Qd} {k i:Nat} {x:PyData},(ZBn k xs)[i]? = some x->∃y,xs[i]? = some y/\x=.tuple [.int ((k+i:Nat):Int),y]
 |[],_,_,_,e=>by simp[ZBn] at e
 |y::r,k,0,x,e=>by
  rw[ZBn] at e;simp at e;exact⟨y,rfl,e.symm⟩
 |y::r,k,i+1,x,e=>by
  rw[ZBn,List.getElem?_cons_succ] at e;obtain⟨z,e1,e2⟩:=ZHx e;exact⟨z,by simpa using e1,by rw[e2];congr 4;omega⟩
theorem ZCF:∀{xs:Qd} {k:Nat},(ZBn k xs).length=xs.length
 |[],_=>rfl
 |y::r,k=>by rw[ZBn,Xc,Xc,ZCF]
theorem ZKL:∀{xs ys:Qd} {i:Nat} {x:PyData},(ZCt xs ys)[i]? = some x->∃y z,xs[i]? = some y/\ys[i]? = some z/\x=.tuple [y,z]
 |[],_,_,_,e=>by simp[ZCt] at e
 |_::_,[],_,_,e=>by simp[ZCt] at e
 |y::r,z::q,0,x,e=>by
  rw[ZCt] at e;simp at e;exact⟨y,z,rfl,rfl,e.symm⟩
 |y::r,z::q,i+1,x,e=>by
  rw[ZCt,List.getElem?_cons_succ] at e;obtain⟨u,v,e1,e2,e3⟩:=ZKL e;exact⟨u,v,by simpa using e1,by simpa using e2,e3⟩
theorem ZD9:∀{xs ys:Qd},(ZCt xs ys).length=min xs.length ys.length
 |[],_=>by simp[ZCt]
 |_::_,[]=>by simp[ZCt]
 |y::r,z::q=>by rw[ZCt,Xc,Xc,Xc,ZD9];omega
inductive ItOk (K:Frag) (ρ : Rh) (H:Hp):It->List PyData->Option Nat->Prop
 |list {a:Addr} {vs:List V} {ds:List PyData}:FzL K ρ H a vs->RelDL K ρ H vs ds->ItOk K ρ H (Itl K a) ds none
 |tup {a:Addr} {vs:List V} {ds:List PyData}:FzT K ρ H a vs->RelDL K ρ H vs ds->ItOk K ρ H (Itt K a) ds none
 |cell {a:Addr} {n:Nat} {ds:List PyData} : ρ.c[n]? = some a->ItOk K ρ H (Itl K a) ds (some n)
 |rng {lo:Int} {n:Nat}:ItOk K ρ H (Itr lo n) (ZDx n lo) none
 |enum {a:Addr} {vs:List V} {ds:List PyData}:FzT K ρ H a vs->RelDL K ρ H vs ds->ItOk K ρ H (Ite K a) (ZBn 0 ds) none
 |zip {a b:Addr} {vs us:List V} {ds es:List PyData}:FzT K ρ H a vs->RelDL K ρ H vs ds->FzT K ρ H b us->RelDL K ρ H us es->ItOk K ρ H (Itz K a b) (ZCt ds es) none
section
variable{K:Frag}{ρ ρ':Rh}{H H':Hp}{J:It}{xs:Qd}{src:Option Nat}
theorem ItOk.mono(s:Stp ρ H ρ' H')(h:ItOk K ρ H J xs src):ItOk K ρ' H' J xs src:=by
 cases h with
 |list f t=>exact .list (f.mono s) (t.mono s)
 |tup f t=>exact .tup (f.mono s) (t.mono s)
 |cell h =>
  obtain⟨r,e⟩:=s.pre;exact .cell (by rw[e,getElem?_append_left (List.getElem?_eq_some_iff.mp h).1];exact h)
 |rng=>exact .rng
 |enum f t=>exact .enum (f.mono s) (t.mono s)
 |zip f t f2 t2=>exact .zip (f.mono s) (t.mono s) (f2.mono s) (t2.mono s)
theorem ItOk.hide{p:Addr}{o:HO}(hp:H p=none)(h:ItOk K ρ H J xs src):ItOk K (ρ.hide p) (upd H p o) J xs src:=by
 cases h with
 |list f t=>exact .list (f.hide hp) (t.hide hp)
 |tup f t=>exact .tup (f.hide hp) (t.hide hp)
 |cell h=>exact .cell h
 |rng=>exact .rng
 |enum f t=>exact .enum (f.hide hp) (t.hide hp)
 |zip f t f2 t2=>exact .zip (f.hide hp) (t.hide hp) (f2.hide hp) (t2.hide hp)
theorem ItOk.grow{p:Addr}{o:HO}(hp:p∈ρ.h)(h:ItOk K ρ H J xs src):ItOk K ρ (upd H p o) J xs src:=by
 cases h with
 |list f t=>exact .list (f.grow hp) (t.grow hp)
 |tup f t=>exact .tup (f.grow hp) (t.grow hp)
 |cell h=>exact .cell h
 |rng=>exact .rng
 |enum f t=>exact .enum (f.grow hp) (t.grow hp)
 |zip f t f2 t2=>exact .zip (f.grow hp) (t.grow hp) (f2.grow hp) (t2.grow hp)
theorem ItOk.use(h:ItOk K ρ H J xs src)(h':HR K ρ H g)(so:ZAu src xs g):(∀(i:Nat) x,xs[i]? = some x->J.go i H/\∀v H2,J.yld i H v H2->Same H H2/\RelD K ρ H2 v x)/\∀i,xs.length<=i->J.stop i H:=by
 cases h with
 |@list a vs ds f t =>
  refine⟨λi x e=>?_,λi hi=>⟨vs,f.sq,by rw[t.length];exact hi⟩⟩;obtain⟨v,e1,r1⟩:=t.getD e;refine⟨⟨vs,v,f.sq,e1⟩,λu H2 y=>?_⟩;obtain⟨rfl,y⟩:=y;have:=y vs f.sq;rw[e1] at this
  cases this
  exact⟨Same.refl _,r1⟩
 |@tup a vs ds f t =>
  refine⟨λi x e=>?_,λi hi=>⟨vs,f.sq,by rw[t.length];exact hi⟩⟩;obtain⟨v,e1,r1⟩:=t.getD e;refine⟨⟨vs,v,f.sq,e1⟩,λu H2 y=>?_⟩;obtain⟨rfl,y⟩:=y;have:=y vs f.sq;rw[e1] at this
  cases this
  exact⟨Same.refl _,r1⟩
 |@cell a n ds h =>
  obtain⟨b,vs,e1,e2,tq⟩:=h'.at_ n _ so;rw[h] at e1;cases e1;have hq:SqL K H a vs:=SqL.of e2;refine⟨λi x e=>?_,λi hi=>⟨vs,hq,by rw[tq.length];exact hi⟩⟩;obtain⟨v,e1,r1⟩:=tq.getD e;refine⟨⟨vs,v,hq,e1⟩,λu H2 y=>?_⟩;obtain⟨rfl,y⟩:=y;have:=y vs hq;rw[e1] at this
  cases this
  exact⟨Same.refl _,r1⟩
 |@rng lo n =>
  refine⟨λi x e=>?_,λi hi=>?_⟩
  .unfold ZDx at e
   rw[getElem?_map] at e;obtain⟨k,e1,rfl⟩:=mp e;obtain⟨hl,hk⟩:=List.getElem?_eq_some_iff.mp e1;rw[getElem_range] at hk;subst hk;rw[length_range] at hl;refine⟨hl,λu H2 y=>?_⟩;obtain⟨rfl,rfl⟩:=y;exact⟨Same.refl _,.int _⟩
  .unfold ZDx at hi
   rw[Xm,length_range] at hi;exact hi
 |@enum a vs ds f t =>
  refine⟨λi x e=>?_,λi hi=>⟨vs,f.sq,by rw[t.length];rw[ZCF] at hi;exact hi⟩⟩;obtain⟨y,e2,rfl⟩:=ZHx e;obtain⟨v,e3,r1⟩:=t.getD e2;refine⟨⟨vs,v,f.sq,e3⟩,λu H2 yy=>?_⟩;obtain⟨pp,x',rfl,hp,rfl,yy⟩:=yy;have:=yy vs f.sq;rw[e3] at this
  cases this
  obtain⟨sm,hr2,hn2⟩:=ZCV (o:=.tup [.int i,v]) h' hp;refine⟨sm,.tup (.inl ⟨.inl Za,hn2⟩) (.cons ?_ (.cons (r1.mono (.same sm)) .nil))⟩;rw[zero_add];exact .int _
 |@zip a b vs us ds es f t f2 t2 =>
  refine⟨λi x e=>?_,λi hi=>⟨vs,us,f.sq,f2.sq,by rw[t.length,t2.length];rw[ZD9] at hi;omega⟩⟩;obtain⟨y,z,e2,e3,rfl⟩:=ZKL e;obtain⟨v,e4,r4⟩:=t.getD e2;obtain⟨w,e5,r5⟩:=t2.getD e3;refine⟨⟨vs,us,v,w,f.sq,f2.sq,e4,e5⟩,λu H2 yy=>?_⟩;obtain⟨pp,x',y',rfl,hp,rfl,yy⟩:=yy;obtain⟨y1,y2⟩:=yy vs us f.sq f2.sq;rw[e4] at y1;rw[e5] at y2;cases y1;cases y2;obtain⟨sm,hr2,hn2⟩:=ZCV (o:=.tup [v,w]) h' hp;exact⟨sm,.tup (.inl ⟨.inl Za,hn2⟩) (.cons (r4.mono (.same sm)) (.cons (r5.mono (.same sm)) .nil))⟩
end
def tI(K:Frag)(d:DI):TI:=λσ H R=>∃ρ sd g xs src g',Rst K ρ H σ sd g/\d sd g=some (xs,src,g')/\∀J H' ρ',Stp ρ H ρ' H'->HR K ρ' H' g'->ZAu src xs g'/\ItOk K ρ' H' J xs src->R J H'
def ZNF:W->G->Option (List PyData×Option Nat×G)
 |.dat (.list ds),g=>some (ds,none,g)
 |.dat (.tuple ds),g=>some (ds,none,g)
 |.ref n,g=>(lk g n).map λds=>(ds,some n,g)
 |.inp ns,g=>some (ns.map .int,none,g)
 |_,_=>none
def ZBY(d:DE):DI:=λsd g=>(d sd g).bind λp=>ZNF p.1 p.2
theorem PI.imp{tg:Expr}{t u:TI}(h:PI X tg e t)(k:∀σ H Q,u σ H Q->t σ H Q):PI X tg e u:=λpq s σ H Q I q=>h pq s σ H Q I (k σ H Q q)
def ZRv(K:Frag)(tl:TE):TI:=λσ H R=>tl σ H λx H1=>(∃a,x=.ref a/\(∃xs,SqL K H1 a xs)/\R (Itl K a) H1)\/(∃a,x=.ref a/\(∃xs,SqT K H1 a xs)/\R (Itt K a) H1)
variable{w:W}{i:Int}
section
variable{X:Cx}{tg:Expr}{pos:Pos}
theorem ZN4{l:Expr}{tl:TE}(hl:PE X l tl):PI X tg l (ZRv X.K tl):=by
 intro pq s σ H R I h;refine thn (hl pq s σ H _ I h) λv s1 ⟨x,H1,I1,r1,q1⟩=>?_
 rcases q1 with ⟨a,e,⟨xs,hq⟩,q⟩|⟨a,e,⟨xs,hq⟩,q⟩
 .subst e
  cases r1;obtain⟨its,rv,p,hz⟩:=I1.list hq;refine wpAny_pyIter_list p.isList ?_;refine⟨s1⁻¹,[s1⁻¹],_,_,H1,rfl,I1.kept (t':=s1.toks) λb o e=>get?_push_of_some _ e,ZOW a _,⟨_,get?_push_size _ rfl,rfl,rfl⟩,λb hb=>?_,q⟩;have e:b=s1⁻¹:=by simpa using hb
  subst e;exact I1.fpOk (le_refl _) (I1.hok.fresh (le_refl _))
 .subst e
  cases r1;obtain⟨its,rv,p,hz⟩:=I1.tuple hq;refine wpAny_pyIter_tuple (show s1.heap.IsTuple a its.toArray from p) ?_;refine⟨s1⁻¹,[s1⁻¹],_,_,H1,rfl,I1.kept (t':=s1.toks) λb o e=>get?_push_of_some _ e,ZKs a _,⟨_,get?_push_size _ rfl,rfl,rfl⟩,λb hb=>?_,q⟩;have e:b=s1⁻¹:=by simpa using hb
  subst e;exact I1.fpOk (le_refl _) (I1.hok.fresh (le_refl _))
theorem RelL.one(r:RelL K ρ H vs ws)(hl:ws.length=1):∃v w,vs=[v]/\ws=[w]/\Rel K ρ H v w:=by
 cases r with
 |nil=>cases hl
 |cons h t=>cases t with
  |nil=>exact⟨_,_,rfl,rfl,h⟩
  |cons _ _=>cases hl
theorem RelL.two(r:RelL K ρ H vs ws)(hl:ws.length=2):∃v v2 w w2,vs=[v,v2]/\ws=[w,w2]/\Rel K ρ H v w/\Rel K ρ H v2 w2:=by
 cases r with
 |nil=>cases hl
 |cons h t =>
  obtain⟨v2,w2,rfl,rfl,h2⟩:=t.one (Nat.succ.inj hl);exact⟨_,_,_,_,rfl,rfl,h,h2⟩
noncomputable def ZDm:W->Option Int
 |.dat (.int i)=>some i
 |_=>none
noncomputable def ZKK:W->Option (List PyData)
 |.dat (.tuple ds)=>some ds
 |_=>none
theorem ZQ0(e:ZDm w=some i):w=.dat (.int i):=by
 unfold ZDm at e
 split at e
 .cases e;rfl
 .cases e
theorem ZFu(e:ZKK w=some ds):w=.dat (.tuple ds):=by
 unfold ZKK at e
 split at e
 .cases e;rfl
 .cases e
theorem ZA9(r:Rel K ρ H v w)(e:ZDm w=some i):v=.int i:=by
 rw[ZQ0 e] at r;cases r with
 |dat r=>cases r;rfl
def ZAh(a:DA):DI:=λsd g=>(a sd g).bind λp=>match p.1 with
 |[a]=>(ZDm a).bind λj=>if j<=1000/\-1000<=j then some (ZDx j.toNat 0,none,p.2) else none
 |[a,b]=>(ZDm a).bind λi=>(ZDm b).bind λj=>if (j<=1000/\-1000<=j)/\(i<=1000/\-1000<=i) then some (ZDx (j-i).toNat i,none,p.2) else none
 |_=>none
def ZD3(a:DA):DI:=λsd g=>(a sd g).bind λp=>match p.1 with
 |[a]=>(ZKK a).map λds=>(ZBn 0 ds,none,p.2)
 |_=>none
def ZJY(a:DA):DI:=λsd g=>(a sd g).bind λp=>match p.1 with
 |[a,b]=>(ZKK a).bind λds=>(ZKK b).map λes=>(ZCt ds es,none,p.2)
 |_=>none
end
end _L
namespace _L
open PySem PySem.Spec PyProof.Rows H1
open Classical in
def ZBo{α:Type}(src:Option Nat)(xs:List PyData)(g:G)(k:Option α):Option α:=match src with|none=>k|some n=>if g[n]? = some (.pl xs) then k else none
variable{src:Option Nat}{xs:Qd}{g:G}
theorem ZCY{α:Type}{k:Option α}{y:α}(h:ZBo src xs g k=some y):ZAu src xs g/\k=some y:=by
 unfold ZBo at h;cases src with
 |none=>exact⟨trivial,h⟩
 |some n =>
  dsimp only at h
  split at h
  .rename_i q;exact⟨q,h⟩
  .cases h
def ZAA(src:Option Nat)(xs:List PyData)(pt:Pat)(db:DS):List PyData->Sd->G->Option Out
 |[],sd,g=>some (.nx sd g)
 |x::r,sd,g=>(Zs pt (.dat x) sd).bind λsd1=>(db sd1 g).bind λo=>match o with
  |.nx sd2 g2=>ZBo src xs g2 (ZAA src xs pt db r sd2 g2)
  |.ct sd2 g2=>ZBo src xs g2 (ZAA src xs pt db r sd2 g2)
  |.bk sd2 g2=>some (.nx sd2 g2)
  |.rt y g2=>some (.rt y g2)
def ZBg(pt:Pat)(di:DI)(db:DS):DS:=λsd g=>(di sd g).bind λt=>ZAA t.2.1 t.1 pt db t.1 sd t.2.2
theorem allT(pt:Pat):pt.all (λ_=>true)=true:=Pat.rec (motive_1:=λp=>p.all (λ_=>true)=true) (motive_2:=λp=>p.all (λ_=>true)=true) (λi=>by rw[Pat.all]) (λps h=>by rw[Pat.all];exact h) (by rw[Pats.all]) (λp r h1 h2=>by rw[Pats.all,h1,h2];rfl) pt
noncomputable def ZOU(own:Nat)(cap:List Nat)(sd:Sd):Sd:=List.replicate own none++cap.map λj=>(sd[j]?).join
def ZBM(src:Option Nat)(xs:List PyData)(pt:Pat)(dt:DB)(de:DE)(sd0:Sd):List PyData->G->Option (List PyData×G)
 |[],g=>some ([],g)
 |x::r,g=>(Zs pt (.dat x) sd0).bind λsd1=>(dt sd1 g).bind λb=>if b.1=true then (de sd1 b.2).bind λy=>match y.1 with
   |.dat d=>ZBo src xs y.2 ((ZBM src xs pt dt de sd0 r y.2).map λq=>(d::q.1,q.2))
   |_=>none
  else ZBo src xs b.2 (ZBM src xs pt dt de sd0 r b.2)
theorem ZOl{n:Nat}(h:n<=20000):n<sizeLine:=Nat.lt_of_le_of_lt h (by decide)
def ZAI(own:Nat)(cap:List Nat)(pt:Pat)(di:DI)(dt:DB)(de:DE):DE:=λsd g=>(di sd g).bind λt=>if t.1.length<=20000 then (ZBM t.2.1 t.1 pt dt de (ZOU own cap sd) t.1 t.2.2).map λp=>(.dat (.list p.1),p.2) else none
noncomputable def ZES:DB:=λ_ g=>some (true,g)
variable{K:Frag}{ρ:Rh}{H:Hp}{σ:St}
theorem ZR7{sd:Sd}(r:Rst K ρ H σ sd g)(own:Nat)(cap:List Nat):Rst K ρ H (ZGm own cap σ) (ZOU own cap sd) g:=by
 refine⟨by unfold ZGm ZOU;simp,λi x e=>?_,r.hr⟩;unfold ZOU at e;unfold ZGm
 by_cases hi:i<own
 .rw[getElem?_append_left (by simpa using hi),getElem?_replicate] at e
  split at e <;> cases e
 .rw[getElem?_append_right (by simpa using hi),length_replicate,getElem?_map] at e
  rw[getElem?_append_right (by simpa using hi),length_replicate,getElem?_map];obtain⟨j,e1,e⟩:=mp e;rw[e1];cases k:sd[j]? with
  |none=>rw[k] at e;cases e
  |some w =>
   rw[k] at e;have e:w=some x:=e;subst e;obtain⟨v,h1,h2⟩:=r.env j x k;exact⟨v,by show some ((σ[j]?).join)=_;rw[h1];rfl,h2⟩
variable{i:Nat}
theorem ZQW{own:Nat}{cap:List Nat}(h:i<own):(ZGm own cap σ)[i]? = some none:=by
 unfold ZGm;rw[getElem?_append_left (by simpa using h),getElem?_replicate,Xp h]
theorem PTs.imp{X:Cx}{ifs:List Expr}{t u:TT}(h:PTs X ifs t)(k:∀σ H Q,u σ H Q->t σ H Q):PTs X ifs u:=λpq s σ H Q I q=>h pq s σ H Q I (k σ H Q q)
variable{ρ':Rh}{H':Hp}{p:Addr}
theorem Stp.grow{o:HO}(hp:H p=none)(s:Stp ρ H ρ' H'):Stp ρ H ρ' (upd H' p o):=⟨s.pre,s.hid,λa u e n=>by rw[ZG (ZJ e hp)];exact s.frm a u e n,s.fre,λa u e=>by rw[ZG (ZJ e hp)];exact s.kd a u e⟩
theorem Stp.unhide(s:Stp (ρ.hide p) H ρ' H'):Stp ρ H ⟨ρ'.c,ρ.h⟩ H'/\ρ'=(⟨ρ'.c,ρ.h⟩:Rh).hide p:=⟨⟨s.pre,rfl,s.frm,s.fre,s.kd⟩,by
 have:=s.hid;obtain⟨c,h⟩:=ρ';have e:h=p::ρ.h:=this
 subst e;rfl⟩
theorem Rst.hide{K:Frag}{ρ:Rh}{H:Hp}{σ:St}{sd:Sd}{g:G}{p:Addr}{o:HO}(hp:H p=none)(r:Rst K ρ H σ sd g):Rst K (ρ.hide p) (upd H p o) σ sd g:=⟨r.len,λi x e=>by
 obtain⟨v,h1,h2⟩:=r.env i x e;exact⟨v,h1,h2.hide hp⟩,r.hr.hide hp⟩
theorem Rst.grow{K:Frag}{ρ:Rh}{H:Hp}{σ:St}{sd:Sd}{g:G}{p:Addr}{o:HO}(hp:p∈ρ.h)(r:Rst K ρ H σ sd g):Rst K ρ (upd H p o) σ sd g:=⟨r.len,λi x e=>by
 obtain⟨v,h1,h2⟩:=r.env i x e;exact⟨v,h1,h2.grow hp⟩,r.hr.grow hp⟩
variable{Q:VK}{J:It}{ρ1:Rh}{H1:Hp}{g1 g2:G}{D:Addr}{x:Str}
section
variable{X:Cx}{tg elt iter:Expr}{ifs:List Expr}{scope sc:Scope}{pos:Pos}{di:DI}{pt:Pat}{dt:DB}{de:DE}{N NX:List Str}{own:Nat}{cap:List Nat}
inductive CRun (so:G->Prop) (pt:Pat) (dt:DB) (de:DE) (sd0:Sd):List W->G->List W->G->Prop
 |nil {g:G}:CRun so pt dt de sd0 [] g [] g
 |yes {x:W} {r ys:List W} {y:W} {sd1:Sd} {g g1 g2 g3:G}:Zs pt x sd0=some sd1->dt sd1 g=some (true,g1)->de sd1 g1=some (y,g2)->so g2->CRun so pt dt de sd0 r g2 ys g3->CRun so pt dt de sd0 (x::r) g (y::ys) g3
 |no {x:W} {r ys:List W} {sd1:Sd} {g g1 g3:G}:Zs pt x sd0=some sd1->dt sd1 g=some (false,g1)->so g1->CRun so pt dt de sd0 r g1 ys g3->CRun so pt dt de sd0 (x::r) g ys g3
theorem ZNn{IO:Rh->Hp->Prop}{so:G->Prop}{xs zs:List W}{σ0:St}{sd0:Sd}(hp:pt.all (λi=>decide (i<own))=true)
  (mono:∀{ρ H ρ' H'},Stp ρ H ρ' H'->IO ρ H->IO ρ' H')(grow:∀{ρ H o},D∈ρ.h->IO ρ H->IO ρ (upd H D o))
  (use:∀{ρ H g},IO ρ H->HR K ρ H g->so g->(∀(i:Nat) x,xs[i]? = some x->J.go i H/\∀v H2,J.yld i H v H2->Same H H2/\Rel K ρ H2 v x)/\∀i,xs.length<=i->J.stop i H)
  (hz:xs.length<=20000)(hD:H1 D=none)(r1:Rst K ρ1 H1 σ0 sd0 g1)(hσ : ∀i,i<own->σ0[i]? = some none)(so1:so g1)(io:IO (ρ1.hide D) (upd H1 D (.lst [])))(run:CRun so pt dt de sd0 xs g1 zs g2)
  (fin:∀acc H' ρ',Stp ρ1 H1 ρ' H'->HR K (ρ'.hide D) H' g2->H' D=some (.lst acc)->RelL K (ρ'.hide D) H' acc zs->Q (.ref D) H'):ZNE J (gP K pt) (tT K dt) (tE K de) σ0 D Q (upd H1 D (.lst [])):=by
 have hDm:∀{ρx:Rh},D∈(ρx.hide D).h:=λ{ρx}=>Xs ..
 refine⟨λi m acc H'=>m=xs.length-i/\i<=xs.length/\acc.length<=i/\∃ρ' g' ads ys,Stp ρ1 H1 ρ' H'/\Rst K (ρ'.hide D) H' σ0 sd0 g'/\so g'/\H' D=some (.lst acc)/\RelL K (ρ'.hide D) H' acc ads/\IO (ρ'.hide D) H'/\CRun so pt dt de sd0 (xs.drop i) g' ys g2/\ads++ys=zs,⟨xs.length,rfl,zero_le _,le_refl _,ρ1,g1,[],zs,.same (_root_.H1.Same.upd hD),r1.hide hD,so1,Za,.nil,io,run,rfl⟩,?_⟩
 rintro i m acc H' ⟨rfl,hi,ha,ρ',g',ads,ys,s',r',so',hacc,ra,it',e',ez⟩
 obtain⟨hgo,hst⟩:=use it' r'.hr so'
 by_cases hlt:i<xs.length
 .rw[List.drop_eq_getElem_cons hlt] at e'
  obtain⟨hg1,hy⟩:=hgo i xs[i] (getElem?_eq_getElem hlt);refine .inr ⟨hg1,λacc2 H2=>acc2.length<=i+1/\∃ρ' g' ads ys,Stp ρ1 H1 ρ' H2/\Rst K (ρ'.hide D) H2 σ0 sd0 g'/\so g'/\H2 D=some (.lst acc2)/\RelL K (ρ'.hide D) H2 acc2 ads/\IO (ρ'.hide D) H2/\CRun so pt dt de sd0 (xs.drop (i+1)) g' ys g2/\ads++ys=zs,λacc2 H2 ⟨k0,k⟩=>⟨xs.length-(i+1),⋯,rfl,hlt,k0,k⟩,λv H2 y=>?_⟩;obtain⟨sm,rv⟩:=hy v H2 y;have s2:Stp (ρ'.hide D) H' (ρ'.hide D) H2:=.same sm;cases e' with
  |no e2 e3 so3 e4 =>
   refine ZH7 (f:=λi=>decide (i<own)) hp e2 (r'.step s2 (r'.hr.same sm)) rv λσ3 r3 kp=>⟨?_,ρ'.hide D,_,g',_,_,r3,e3,λH3 ρ3 s3 h3=>?_⟩
   .exact⟨kp.1,λi v e=>by
     by_cases hi:i<own
     .rw[hσ i hi] at e;cases e
     .rw[kp.2 i (decide_eq_false hi)];exact e⟩
   have s23:=s2.trans s3;obtain⟨u3,e3h⟩:=s23.unhide;have hD3:H3 D=some (.lst acc):=s23.frm _ _ hacc (r'.hr.hid D hDm).1;rw[e3h] at h3 s23;refine ZV6 ?_;exact⟨Nat.le_succ_of_le ha,⟨ρ3.c,ρ'.h⟩,_,ads,ys,s'.trans u3,r'.step s23 h3,so3,hD3,ra.mono s23,mono s23 it',e4,ez⟩
  |@yes _ _ ys' w sd1 _ g3 g4 _ e2 e3 e4 so4 e6 =>
   refine ZH7 (f:=λi=>decide (i<own)) hp e2 (r'.step s2 (r'.hr.same sm)) rv λσ3 r3 kp=>⟨?_,ρ'.hide D,_,g',_,_,r3,e3,λH3 ρ3 s3 h3=>?_⟩
   .exact⟨kp.1,λi v e=>by
     by_cases hi:i<own
     .rw[hσ i hi] at e;cases e
     .rw[kp.2 i (decide_eq_false hi)];exact e⟩
   have s23:=s2.trans s3;obtain⟨u3,e3h⟩:=s23.unhide;have hD3:H3 D=some (.lst acc):=s23.frm _ _ hacc (r'.hr.hid D hDm).1;have r3':=r3.step s3 h3;rw[e3h] at r3' h3 s3 s23;refine ZVz ?_;refine⟨(⟨ρ3.c,ρ'.h⟩:Rh).hide D,sd1,g3,w,g4,r3',e4,λy4 H4 ρ4 s4 h4 r4=>?_⟩;obtain⟨u4,e4h⟩:=s4.unhide;rw[e4h] at h4 r4 s4;have s24:=s23.trans s4;have hD4:H4 D=some (.lst acc):=s4.frm _ _ hD3 (h3.hid D hDm).1;refine⟨hD4,Nat.lt_of_le_of_lt ha (ZOl ⋯),?_⟩;refine⟨by rw[Xa];exact Nat.add_le_add_right ha 1,⟨ρ4.c,ρ'.h⟩,g4,ads++[w],ys',((s'.trans u3).trans u4).grow hD,(r'.step s24 h4).grow hDm,so4,Za,((ra.mono s24).append (.cons r4 .nil)).grow hDm,grow hDm (mono s24 it'),e6,?_⟩;rw[append_assoc];exact ez
 .have ei:i=xs.length:=⋯
  subst ei;rw[drop_length] at e';cases e';rw[append_nil] at ez;subst ez;exact .inl ⟨hst _ (le_refl _),fin acc H' ρ' s' r'.hr hacc ra⟩
theorem ZLf{src:Option Nat}{xs:Qd}{sd0:Sd}{g2:G}:∀{r ys:Qd} {g:G},ZBM src xs pt dt de sd0 r g=some (ys,g2)->CRun (ZAu src xs) pt dt de sd0 (r.map .dat) g (ys.map .dat) g2
 |[],_,_,e=>by
  rw[ZBM] at e;cases e;exact .nil
 |x::r,ys,g,e=>by
  rw[ZBM] at e;obtain⟨sd1,e2,e⟩:=bnd e;obtain⟨⟨b,g3⟩,e3,e⟩:=bnd e;cases b with
  |false =>
   rw[Xn Xf] at e;obtain⟨so,e⟩:=ZCY e;exact .no e2 e3 so (ZLf e)
  |true =>
   rw[Xp rfl] at e;obtain⟨⟨w,g4⟩,e4,e⟩:=bnd e;dsimp only at e
   split at e
   .obtain⟨so,e⟩:=ZCY e
    obtain⟨⟨ys',g5⟩,e6,e⟩:=mp e;cases e;exact .yes e2 e3 e4 so (ZLf e6)
   .cases e
theorem RelL.dats{K:Frag}{ρ:Rh}{H:Hp}:∀{ds:Qd} {vs:List V},RelL K ρ H vs (ds.map .dat)->RelDL K ρ H vs ds
 |[],_,.nil=>.nil
 |_::_,_,.cons (.dat h) t=>.cons h (RelL.dats t)
theorem ItOk.useW(it:ItOk K ρ H J xs src)(h:HR K ρ H g)(so:ZAu src xs g):(∀(i:Nat) x,(xs.map W.dat)[i]? = some x->J.go i H/\∀v H2,J.yld i H v H2->Same H H2/\Rel K ρ H2 v x)/\∀i,(xs.map W.dat).length<=i->J.stop i H:=by
 obtain⟨a,b⟩:=it.use h so;refine⟨λi x e=>?_,λi hi=>b i (by rwa [Xm] at hi)⟩;rw[getElem?_map] at e;obtain⟨d,e2,rfl⟩:=mp e;exact⟨(a i d e2).1,λv H2 y=>⟨((a i d e2).2 v H2 y).1,.dat ((a i d e2).2 v H2 y).2⟩⟩
theorem ZRK{acc:List V}{ds:Qd}(hD:H1 D=none)(h1:HR K ρ1 H1 g1)(q:Pv K ρ H (.dat (.list ds)) g2 Q)(s1:Stp ρ H ρ1 H1)(s':Stp ρ1 H1 ρ' H')(hr:HR K (ρ'.hide D) H' g2)(hacc:H' D=some (.lst acc))(ra:RelL K (ρ'.hide D) H' acc (ds.map .dat)):Q (.ref D) H':=by
 have hnh:D∉ρ1.h:=λz=>h1.nin hD (.inr z)
 refine q _ H' ρ' (s1.trans s') hr.shown (.dat (.lst hacc (λz=>?_) (ra.dats.less (ρ':=ρ') (ρ:=ρ'.hide D) λ_ z=>z.elim .inl λq=>.inr (Xo _ q))));rcases z with z|z
 .exact(hr.hid D (Xs ..)).1 z
 .rw[s'.hid] at z
  exact hnh z
theorem ZM5(hp:pt.all (λi=>decide (i<own))=true)(h:tE K (ZAI own cap pt di dt de) σ H Q):ZQ4 own cap (tI K di) (gP K pt) (tT K dt) (tE K de) σ H Q:=by
 obtain⟨ρ,sd,g,x,gz,r,e,q⟩:=h;obtain⟨⟨xs,src,g1⟩,e1,e⟩:=bnd e;dsimp only at e
 split at e
 .rename_i hz
  obtain⟨⟨zs,g2⟩,e2,e⟩:=mp e;cases e;exact⟨ρ,sd,g,xs,src,g1,r,e1,λJ H1 ρ1 s1 h1 ⟨so,it⟩ D hD=>ZNn hp (IO:=λρ H=>ItOk K ρ H J xs src) (λs i=>i.mono s) (λh i=>i.grow h) (λi h s=>i.useW h s) (by rw[Xm];exact hz) hD (ZR7 (r.step s1 h1) own cap) (λi hi=>ZQW hi) so (it.hide hD) (ZLf e2) λacc H' ρ' s' hr hacc ra=>ZRK hD h1 q s1 s' hr hacc ra⟩
 .cases e
theorem ZSV(hc:X.calm=true)(hi:PI X tg iter (tI X.K di))(hsc:X.env.scope=sc)(hNX:X.N=NX)
  (hb:∀cl C s0 H0 fp,PG (blk X N (compEnvC scope cl C X.env) s0 H0 fp) tg (gP X.K pt)/\PTs (blk X N (compEnvC scope cl C X.env) s0 H0 fp) ifs (tT X.K dt)/\PE (blk X N (compEnvC scope cl C X.env) s0 H0 fp) elt (tE X.K de))
  (co:ZHI sc scope NX N own cap=true)(hp:pt.all (λi=>decide (i<own))=true)(hs:∀x,foldedSetIterable iter X.env x=pure x:=by intro _;rfl):PE X (.ListComp elt [⟨tg,iter,ifs,0⟩] scope pos) (tE X.K (ZAI own cap pt di dt de)) :=
 (ZSD hc hi hsc hNX hb co hs).imp λ_ _ _ h=>ZM5 hp h
theorem ZRr{py spos:Pos}(hN:X.N.Nodup)(hi:X.N[i]? = some x)(hx:Loc X.env.scope x)(hc:X.calm=true)(hit:PI X tg iter (tI X.K di))(hsc:X.env.scope=sc)(hNX:X.N=NX)
  (hb:∀cl C s0 H0 fp,PG (blk X N (compEnvC scope cl C X.env) s0 H0 fp) tg (gP X.K pt)/\PTs (blk X N (compEnvC scope cl C X.env) s0 H0 fp) ifs (tT X.K dt)/\PE (blk X N (compEnvC scope cl C X.env) s0 H0 fp) elt (tE X.K de))
  (co:ZHI sc scope NX N own cap=true)(hp:pt.all (λi=>decide (i<own))=true)(hsw:swapsWith (.ListComp elt [⟨tg,iter,ifs,0⟩] scope pos) (some (.Name x py)) spos.line X.env=pure true:=by rfl)(hs:∀x,foldedSetIterable iter X.env x=pure x:=by intro _;rfl)
  (hf:Ye X x:=by first|exact .inl rfl|exact .inr rfl|assumption) :
  PS X (.Assign [.Name x py] (.ListComp elt [⟨tg,iter,ifs,0⟩] scope pos) spos) (tS X.K (ZR i (ZAI own cap pt di dt de))):=(ZR8 hN hi hx hc hit hsc hNX hb co hsw hs hf).imp λD σ H ⟨ρ,sd,g,o,r,e,q⟩=>by
 obtain⟨⟨y,g1⟩,e1,e⟩:=bnd e;cases e;exact ZM5 hp ⟨ρ,sd,g,y,g1,r,e1,λv H1 ρ1 s1 h1 r1=>q _ H1 ρ1 s1 ((r.step s1 h1).set r1 i)⟩
end
noncomputable def Zg(n:Nat)(d:DS)(ws:List W)(g:G):Option (W×G):=match d (ws.map some++List.replicate (n-ws.length) none) g with
 |some (.rt x g')=>some (x,g')
 |some (.nx _ g')=>some (.dat .none,g')
 |_=>none
theorem ZHy{K:Frag}{ρ:Rh}{H:Hp}{g:G}(h:HR K ρ H g)(k:Nat):∀{vs:List V} {ws:List W},RelL K ρ H vs ws->Rst K ρ H (vs.map some++List.replicate k none) (ws.map some++List.replicate k none) g
 |_,_,.nil=>by
  refine⟨by simp,λi x e=>?_,h⟩;simp only[map_nil,nil_append] at e;rw[getElem?_replicate] at e
  split at e <;> cases e
 |v::vs,w::ws,.cons r t=>by
  have q:=ZHy h k t;refine⟨by have:=q.len;simp at this ⊢;exact this,λi x e=>?_,h⟩;cases i with
  |zero=>simp at e;subst e;exact⟨v,by simp,r⟩
  |succ i =>
   simp at e;obtain⟨u,h1,h2⟩:=q.env i x (by simpa using e);exact⟨u,by simpa using h1,h2⟩
theorem ZVF{P:Program}{w:World}{mg:Yj}{base:Heap}{qual:Str}{st:Stmt}{f:Addr}{fd:FuncData}{N ps:List Str}{k:Nat}{d:DS}(F:Fun K x qual st f fd)(S:FnScope N ps (ZM st))
  (hb:∀(cdv:Value) (A:Around) (outer:List Env) (s:Shared) (H:Hp) (E:XK),Room k (A.deeper (envOfC qual (ZM st) s⁻¹ f cdv))->PSs (ZFv CX0 P w K mg base N qual (ZM st) f cdv A outer s H E).nox (ZAC st) (tS K d)) :
  FnOk P w K mg base CX0 (k+1) f fd ps (spD K ps.length (Zg N.length d)):=by
 refine F.ok S (λvs H Q E h=>h.1) (λcdv A outer s H vs Q E hr h=>⟨_,hb cdv A outer s H E hr,?_⟩);obtain⟨hl,ρ,ws,g,z,gz,hR,rl,e,q⟩:=h;unfold Zg at e;have hlw:=rl.length;unfold start;rw[hlw];cases ho:d (ws.map some++List.replicate (N.length-ws.length) none) g with
 |none=>rw[ho] at e;cases e
 |some o =>
  rw[ho] at e;refine⟨ρ,_,g,o,ZHy hR _ rl,ho,?_⟩;cases o with
  |nx sd g' =>
   cases e;intro σ' H' ρ' s' r';exact q .non H' ρ' s' r'.hr (.dat .non)
  |rt y g' =>
   cases e;exact q
  |bk _ _=>cases e
  |ct _ _=>cases e
end _L
namespace _L
open PySem PySem.Spec PyProof.Rows H1
mutual
theorem RelD.reads{X:Cx}{pq:Yh}{σ:St}{ρ:Rh}{H:Hp}{s:Shared}(I:Inv X pq σ H s):∀{v:V} {d:PyData} {u:Value},RelD X.K ρ H v d->d.canLay0=true->Zq v u->∃as,Reads s.heap u d as
 |_,_,_,.non,_,r=>by cases r;exact⟨_,.none⟩
 |_,_,_,.bl b,_,r=>by cases r;exact⟨_,.bool b⟩
 |_,_,_,.int i,_,r=>by obtain⟨t,rfl⟩:=r;exact⟨_,.int i t⟩
 |_,_,_,.str x,_,r=>by obtain⟨t,rfl⟩:=r;exact⟨_,.str x t⟩
 |_,_,_,.tup h hl,c,r=>by
  cases r;obtain⟨its,rv,⟨o,ho,hc,n,hd⟩,_⟩:=I.tuple h.sq;obtain⟨as,ra⟩:=RelDL.reads I hl (by rw[PyData.canLay0] at c;exact c) rv;exact⟨as,.tuple ho hc hd (by simpa using ra)⟩
 |_,_,_,.lst h _ hl,c,r=>by
  cases r;obtain⟨_,its,n,rv,e⟩:=I.hok _ _ h;obtain⟨as,ra⟩:=RelDL.reads I hl (by rw[PyData.canLay0] at c;exact c) rv;exact⟨_,.list e rfl rfl (by simpa using ra)⟩
 |_,_,_,.dct h _,c,r=>by rw[PyData.canLay0] at c;cases c
theorem RelDL.reads{X:Cx}{pq:Yh}{σ:St}{ρ:Rh}{H:Hp}{s:Shared}(I:Inv X pq σ H s):∀{vs:List V} {ds:Qd} {us:List Value},RelDL X.K ρ H vs ds->PyData.canLayAll0 ds=true->Zb vs us->∃as,ReadsAll s.heap us ds as
 |_,_,_,.nil,_,r=>by cases r;exact⟨_,.nil⟩
 |_,_,_,.cons h hl,c,r=>by
  rw[PyData.canLayAll0,Bool.and_eq_true] at c;cases r with
  |cons r1 r2 =>
   obtain⟨as,ra⟩:=RelD.reads I h c.1 r1;obtain⟨bs,rb⟩:=RelDL.reads I hl c.2 r2;exact⟨_,.cons ra rb⟩
end
def ZAe:W->G->Option (List PyData)
 |.dat (.list ds),_=>some ds
 |.ref n,g=>lk g n
 |_,_=>none
variable{K:Frag}{ρ:Rh}{H:Hp}{g:G}{v:V}{ds:Qd}
theorem Z3{w:W}(hR:HR K ρ H g)(r:Rel K ρ H v w)(e:ZAe w g=some ds):∃a vs,v=.ref a/\H a=some (.lst vs)/\RelDL K ρ H vs ds:=by
 cases r with
 |ty=>cases e
 |exc _=>cases e
 |tup _ _=>cases e
 |inp _=>cases e
 |ref h =>
  obtain⟨a,vs,h1,h2,h3⟩:=hR.at_ _ _ (ZFa e);rw[h] at h1;cases h1;exact⟨_,vs,rfl,h2,h3⟩
 |dat h =>
  cases h with
  |lst h n t=>cases e;exact⟨_,_,rfl,h,t⟩
  |_=>cases e
variable{Q:VK}
theorem Pv.at{x:W}(q:Pv K ρ H x g Q)(h:HR K ρ H g)(r:Rel K ρ H v x):Q v H:=q v H ρ .refl h r
variable{vs:List V}
theorem Pv.new(q:Pv K ρ H (.dat (.list ds)) g Q)(h:HR K ρ H g)(r:RelDL K ρ H vs ds){p:Addr}(hp:H p=none):Q (.ref p) (upd H p (.lst vs)):=by
 obtain⟨sm,hr2,hn⟩:=ZCV (o:=.lst vs) h hp;exact q _ _ ρ (.same sm) hr2 (.dat (.lst Za hn (r.mono (.same sm))))
theorem Pv.newT(q:Pv K ρ H (.dat (.tuple ds)) g Q)(h:HR K ρ H g)(r:RelDL K ρ H vs ds){p:Addr}(hp:H p=none):Q (.ref p) (upd H p (.tup vs)):=by
 obtain⟨sm,hr2,hn⟩:=ZCV (o:=.tup vs) h hp;exact q _ _ ρ (.same sm) hr2 (.dat (.tup (.inl ⟨.inl Za,hn⟩) (r.mono (.same sm))))
def Zz:W->W->G->Option (W×G)
 |.dat (.int i),.dat (.int j),g=>some (.dat (.int (i+j)),g)
 |.dat (.tuple xs),.dat (.tuple ys),g=>if xs.length+ys.length<=1000 then some (.dat (.tuple (xs++ys)),g) else none
 |.dat (.str a),.dat (.str b),g=>if a.length+b.length<=1000 then some (.dat (.str (a++b)),g) else none
 |a,b,g=>(ZAe a g).bind λxs=>(ZAe b g).bind λys=>if xs.length+ys.length<=1000 then some (.dat (.list (xs++ys)),g) else none
noncomputable def opZ(c:Int->Int->Bool)(f:Int->Int->PyData):W->W->G->Option (W×G)
 |.dat (.int i),.dat (.int j),g=>if c i j=true then some (.dat (f i j),g) else none
 |_,_,_=>none
def ZCK:=opZ (λ_ _=>true) λi j=>.int (i-j)
def ZAq:=opZ (λ_ j=>decide (0<j)) λi j=>.int (i % j)
def ZIn:=opZ (λ_ j=>decide (0<j) && decide (j<2 ^ 64)) λi j=>.int (i / j)
noncomputable def ZIF(i j:Int):Bool:=(decide (-(2 ^ 64)<i) && decide (i<2 ^ 64)) || (decide (-(2 ^ 64)<j) && decide (j<2 ^ 64))
def mulA:W->Int->G->Option (W×G)
 |.dat (.int i),j,g=>if ZIF i j=true then some (.dat (.int (i*j)),g) else none
 |.dat (.tuple xs),k,g=>if ((decide (2<=k) && decide (k<=20)) && (!xs.isEmpty && decide (xs.length<=20)))=true then some (.dat (.tuple (List.replicate k.toNat xs).flatten),g) else none
 |a,k,g=>(ZAe a g).bind λxs=>if k<=1000/\-1000<=k/\xs.length<=1000 then some (.dat (.list (List.replicate k.toNat xs).flatten),g) else none
def ZAQ(a b:W)(g:G):Option (W×G):=(ZDm b).bind λk=>mulA a k g
variable{i j:Int}
section
variable{X:Cx}
theorem oAdd:OpR X (binaryOp .Add) (rOp X.K Zz):=by
 intro pq s σ H x y v u Q I rx ry h;obtain⟨ρ,a,b,g,z,g',hR,ra,rb,e,q⟩:=h;have lists:((ZAe a g).bind λxs=>(ZAe b g).bind λys=>if xs.length+ys.length<=1000 then some (W.dat (.list (xs++ys)),g) else none)=some (z,g')->Yk X (binaryOp .Add v u) (EP X pq σ Q) X.xe s:=λe=>by
  obtain⟨xs,e1,e⟩:=bnd e;obtain⟨ys,e2,e⟩:=bnd e;obtain⟨l,vs,rfl,h1,t1⟩:=Z3 hR ra e1;obtain⟨l',us,rfl,h2,t2⟩:=Z3 hR rb e2
  split at e
  .rename_i hz
   cases e;exact ZUi pq s σ H _ _ v u Q I rx ry ⟨l,l',vs,us,rfl,rfl,h1,h2,by rw[t1.length,t2.length];exact le_of_lt (Zt hz),λp hp=>q.new hR (t1.append t2) hp⟩
  .cases e
 cases ra with
 |ref h=>exact lists e
 |inp h=>exact lists e
 |ty=>cases e
 |exc _=>cases e
 |tup _ _=>cases e
 |dat ra =>
  cases ra with
  |int i =>
   cases rb with
   |dat rb =>
    cases rb with
    |int j=>cases e;exact ZUx pq s σ H _ _ v u Q I rx ry ⟨i,j,rfl,rfl,q.at hR (.dat (.int _))⟩
    |_=>cases e
   |_=>cases e
  |str i =>
   cases rb with
   |dat rb =>
    cases rb with
    |str j =>
     change (if i.length+j.length<=1000 then some (W.dat (.str (i++j)),g) else none)=some (z,g') at e
     split at e
     .rename_i hz
      cases e;exact ZLt pq s σ H _ _ v u Q I rx ry ⟨i,j,rfl,rfl,le_of_lt (Zt hz),q.at hR (.dat (.str _))⟩
     .cases e
    |_=>cases e
   |_=>cases e
  |@tup a1 xs ds f1 t1 =>
   cases rb with
   |dat rb =>
    cases rb with
    |@tup a2 ys es f2 t2 =>
     change (if ds.length+es.length<=1000 then some (W.dat (.tuple (ds++es)),g) else none)=some (z,g') at e
     split at e
     .rename_i hz
      cases e;have hz':xs.length+ys.length<=sizeLine:=by rw[t1.length,t2.length];exact le_of_lt (Zt hz)
      cases rx;cases ry;obtain⟨its,r1,p1,_⟩:=I.tuple f1.sq;obtain⟨its2,r2,p2,_⟩:=I.tuple f2.sq;refine HT.cat_tupA p1 p2 (λz=>⟨.ref a2,H,I,rfl,q.at hR (.dat ?_)⟩) (λ_ z=>⟨.ref a1,H,I,rfl,q.at hR (.dat ?_)⟩) (λ_ z=>?_) (by rw[<-r1.length,<-r2.length];exact hz')
      .have:=r1.nil_iff.mp z
       subst this
       cases t1;exact .tup f2 t2
      .have:=r2.nil_iff.mp z
       subst this
       cases t2;rw[append_nil];exact .tup f1 t1
      .exact⟨.ref s⁻¹,_,I.laid (t':=s.toks) (o:=.tup (xs++ys)) (λb ob q=>get?_push_of_some _ q) (le_refl _) ⟨by rw[Xa];exact hz',_,r1.append r2,IsTup.new _ _⟩,rfl,q.newT hR (t1.append t2) (I.hok.fresh (le_refl _))⟩
     .cases e
    |_=>cases e
   |_=>cases e
  |lst h n t=>exact lists e
  |_=>cases e
theorem oI{op:Operator}{C:Int->Int->Prop}{c:Int->Int->Bool}{f:Int->Int->Int}(h:OpR X (binaryOp op) (rI C λi j=>.int (f i j)))(hc:∀i j,c i j=true->C i j):OpR X (binaryOp op) (rOp X.K (opZ c λi j=>.int (f i j))):=by
 intro pq s σ H x y v u Q I rx ry hh;obtain⟨ρ,a,b,g,z,g',hR,ra,rb,e,q⟩:=hh;cases ra with
 |dat ra =>
  cases ra with
  |int i =>
   cases rb with
   |dat rb =>
    cases rb with
    |int j =>
     change (if c i j=true then some (W.dat (.int (f i j)),g) else none)=some (z,g') at e
     split at e
     .rename_i hz
      cases e;exact h pq s σ H _ _ v u Q I rx ry ⟨i,j,rfl,rfl,hc i j hz,q.at hR (.dat (.int _))⟩
     .cases e
    |_=>cases e
   |_=>cases e
  |_=>cases e
 |_=>cases e
theorem oSub:OpR X (binaryOp .Sub) (rOp X.K ZCK):=oI (C:=λ_ _=>True) (ZUz.imp λx y H Q ⟨i,j,e1,e2,_,q⟩=>⟨i,j,e1,e2,q⟩) λ_ _ _=>trivial
theorem oMod:OpR X (binaryOp .Mod) (rOp X.K ZAq):=oI ZUl λi j h=>Xd h
theorem oFdiv:OpR X (binaryOp .FloorDiv) (rOp X.K ZIn):=oI ZOr λi j h=>by
 rw[Bool.and_eq_true] at h;exact⟨Xd h.1,Xd h.2⟩
theorem ZSe(h:ZIF i j=true):ZRp i j:=by
 unfold ZIF at h;rw[Bool.or_eq_true,Bool.and_eq_true,Bool.and_eq_true] at h;rcases h with h|h
 .exact .inl ⟨Xd h.1,Xd h.2⟩
 .exact .inr ⟨Xd h.1,Xd h.2⟩
theorem ZM9:OpR X (binaryOp .Mult) (λx y H Q=>∃(a:Addr) (k:Int) (xs:List V),x=.ref a/\y=.int k/\SqT X.K H a xs/\(2<=k/\k<=400)/\(xs≠[]/\k.toNat*xs.length<=400)/\∀p,H p=none->Q (.ref p) (upd H p (.tup (List.replicate k.toNat xs).flatten))):=by
 intro pq s σ H x y v u Q I rx ry h;obtain⟨a,k,xs,rfl,rfl,ha,⟨k2,k20⟩,⟨hne,h20⟩,q⟩:=h;cases rx;obtain⟨t,rfl⟩:=ry;obtain⟨its,r,p1,_⟩:=I.tuple ha;obtain⟨⟨cls,dd,data,sl⟩,ho,hc,n,hd⟩:=id p1;simp only at hc hd;subst hc hd;have hlen:its.length=xs.length:=r.length.symm;have hine:its.toArray.isEmpty=false:=by
  cases its with
  |nil=>exact absurd (r.nil_iff.mp rfl) hne
  |cons _ _=>rfl
 have hmul:(List.replicate k.toNat xs).flatten.length<=400:=by
  rw[ZMz];exact h20
 have hnew:List.foldl (λx1 x2=>x1++x2) #[] (List.replicate k.toNat its.toArray)=(List.replicate k.toNat its).flatten.toArray:=by
  have:=ZEs its k.toNat [];rw[nil_append] at this
  exact this
 have hmI:(its.toArray.size:Int)*k<=400:=by
  rw[size_toArray,hlen];have e:((k.toNat*xs.length:Nat):Int)=(xs.length:Int)*k:=by rw[Int.natCast_mul,toNat_of_nonneg ⋯,mul_comm]
  rw[<-e];omega
 refine wpAny_binaryOp_repeat_ref (T:="tuple") (U:="int") (by decide) ⟨_,ho,rfl⟩ (λs'=>typeIs_int s' k t) HT.noFill_tuple_mul F.fills_int_mul F.slot_int_rmul HT.repeat_tuple F.slot_int_index.lookup
  (call_meets F.slot_int_rmul (typeIs_int s k t) F.entry_int_rmul (F.args_int_rmul_2 _ _) (HT.rmul_tup k t a its.toArray n dd sl)
   ⟨ho,rfl,⟨_,ho,rfl⟩,call_meets F.slot_tuple_mul ⟨_,ho,rfl⟩ F.entry_tuple_mul (F.args_tuple_mul_2 _ _) (HT.tuple_mulW a its.toArray n dd sl k t ?_ ?_ ?_ ?_ ?_ ?_) ⟨ho,?_⟩⟩)
 .simp;omega
 .rw[hine];simp;omega
 .rw[hine];simp;omega
 .omega
 .unfold Builtin.Tuple.tupleTooMany
  have:(400:Int)<=(sizeLine:Int):=by decide
  rw[decide_eq_true_iff];omega
 .rw[hnew,size_toArray,<-(r.rep k.toNat).length]
  exact le_trans hmul (by decide)
 rw[hnew];exact⟨.ref s⁻¹,_,I.laid (t':=s.toks) (o:=.tup (List.replicate k.toNat xs).flatten) (λb ob q=>get?_push_of_some _ q) (le_refl _) ⟨le_trans hmul (by decide),_,r.rep k.toNat,IsTup.new _ _⟩,rfl,q _ (I.hok.fresh (le_refl _))⟩
theorem oMul:OpR X (binaryOp .Mult) (rOp X.K ZAQ):=by
 intro pq s σ H x y v u Q I rx ry h;obtain⟨ρ,a,b,g,z,g',hR,ra,rb,e,q⟩:=h;have lists:∀{k:Int},y=.int k->((ZAe a g).bind λxs=>if k<=1000/\-1000<=k/\xs.length<=1000 then some (W.dat (.list (List.replicate k.toNat xs).flatten),g) else none)=some (z,g')->Yk X (binaryOp .Mult v u) (EP X pq σ Q) X.xe s:=λ{k} hy e=>by
  obtain⟨xs,e1,e⟩:=bnd e;obtain⟨l,vs,rfl,h1,t1⟩:=Z3 hR ra e1
  split at e
  .rename_i hz
   obtain⟨z1,z2,z3⟩:=hz;cases e;refine ZQL pq s σ H _ _ v u Q I rx ry ⟨l,k,vs,rfl,hy,h1,⋯,⋯,?_,λp hp=>q.new hR (t1.rep _) hp⟩;rw[t1.length];exact le_trans (mul_le_mul z3 (show k.toNat<=1000 by omega)) (by decide)
  .cases e
 obtain⟨j,e0,e⟩:=bnd e;have:=ZA9 rb e0;subst this
 cases ra with
 |dat ra =>
  cases ra with
  |int i =>
   change (if ZIF i j=true then some (W.dat (.int (i*j)),g) else none)=some (z,g') at e
   split at e
   .rename_i hz
    cases e;exact ZUW pq s σ H _ _ v u Q I rx ry ⟨i,j,rfl,rfl,ZSe hz,q.at hR (.dat (.int _))⟩
   .cases e
  |@tup a1 xs ds f1 t1 =>
   change (if ((decide (2<=j) && decide (j<=20)) && (!ds.isEmpty && decide (ds.length<=20)))=true then some (W.dat (.tuple (List.replicate j.toNat ds).flatten),g) else none)=some (z,g') at e
   split at e
   .rename_i hz
    cases e;simp only[Bool.and_eq_true,decide_eq_true_eq,Bool.not_eq_true'] at hz;obtain⟨⟨z1,z2⟩,z3,z4⟩:=hz;refine ZM9 pq s σ H _ _ v u Q I rx ry ⟨a1,j,xs,rfl,rfl,f1.sq,⟨z1,⋯⟩,⟨λz=>?_,by rw[t1.length];exact le_trans (mul_le_mul (show j.toNat<=20 by omega) z4) (by decide)⟩,λp hp=>q.newT hR (t1.rep _) hp⟩;subst z;cases t1;cases z3
   .cases e
  |_=>exact lists rfl e
 |_=>exact lists rfl e
end
noncomputable def ok0(d:PyData):Bool:=d.canLay0 && decide (d.depth<=40)
def ZFC:W->G->Option PyData
 |.dat d,_=>some d
 |.ref n,g=>(lk g n).map .list
 |_,_=>none
def ZCL(a b:W)(g:G):Option (W×G):=(ZFC a g).bind λx=>(ZFC b g).bind λy=>if (ok0 x && ok0 y)=true then some (.dat (.bool (x.eqv y)),g) else none
def ZCM(a b:W)(g:G):Option (W×G):=(ZFC a g).bind λx=>(ZFC b g).bind λy=>if (ok0 x && ok0 y)=true then some (.dat (.bool !x.eqv y),g) else none
def ZVX:W->G->Option (List PyData)
 |.dat (.tuple ys),_=>some ys
 |b,g=>ZAe b g
def ZDK(a b:W)(g:G):Option (W×G):=(ZFC a g).bind λx=>(ZVX b g).bind λys=>if (ok0 x && PyData.canLayAll0 ys)=true then some (.dat (.bool (ys.any λy=>y.eqv x)),g) else none
def ZCj(a b:W)(g:G):Option (W×G):=(ZFC a g).bind λx=>(ZVX b g).bind λys=>if (ok0 x && PyData.canLayAll0 ys)=true then some (.dat (.bool !ys.any λy=>y.eqv x),g) else none
variable{pq:Yh}{σ:St}{s:Shared}{d:PyData}{u:Value}
section
variable{X:Cx}
theorem ZAW{w:W}(I:Inv X pq σ H s)(hR:HR X.K ρ H g)(r:Rel X.K ρ H v w)(e:ZFC w g=some d)(c:d.canLay0=true)(ru:Zq v u):∃as,Reads s.heap u d as:=by
 cases r with
 |ty=>cases e
 |exc _=>cases e
 |tup _ _=>cases e
 |inp _=>cases e
 |dat r=>cases e;exact r.reads I c ru
 |ref h =>
  obtain⟨ds,e1,rfl⟩:=mp e;obtain⟨a,vs,h1,h2,h3⟩:=hR.at_ _ _ (ZFa e1);rw[h] at h1;cases h1;cases ru;obtain⟨_,its,n,rv,e⟩:=I.hok _ _ h2;obtain⟨as,ra⟩:=h3.reads I (by rw[PyData.canLay0] at c;exact c) rv;exact⟨_,.list e rfl rfl (by simpa using ra)⟩
theorem oEq(hu:X.A.units+64<cLine):OpR X (compareOp .Eq) (rOp X.K ZCL):=by
 intro pq s σ H x y v u Q I rx ry h;obtain⟨ρ,a,b,g,z,g',hR,ra,rb,e,q⟩:=h;obtain⟨d1,e1,e⟩:=bnd e;obtain⟨d2,e2,e⟩:=bnd e
 split at e
 .rename_i hz
  cases e;unfold ok0 at hz;simp only[Bool.and_eq_true,decide_eq_true_eq] at hz;obtain⟨as,r1⟩:=ZAW I hR ra e1 hz.1.1 rx;obtain⟨bs,r2⟩:=ZAW I hR rb e2 hz.2.1 ry;exact PySem.SeqAt.compareEq_reads r1 r2 hz.1.1 hz.2.1 (by have:=hz.1.2;omega) ⟨.bl _,H,I,rfl,q.at hR (.dat (.bl _))⟩
 .cases e
theorem oNe(hu:X.A.units+64<cLine):OpR X (compareOp .NotEq) (rOp X.K ZCM):=by
 intro pq s σ H x y v u Q I rx ry h;obtain⟨ρ,a,b,g,z,g',hR,ra,rb,e,q⟩:=h;obtain⟨d1,e1,e⟩:=bnd e;obtain⟨d2,e2,e⟩:=bnd e
 split at e
 .rename_i hz
  cases e;unfold ok0 at hz;simp only[Bool.and_eq_true,decide_eq_true_eq] at hz;obtain⟨as,r1⟩:=ZAW I hR ra e1 hz.1.1 rx;obtain⟨bs,r2⟩:=ZAW I hR rb e2 hz.2.1 ry;exact PySem.SeqAt.compareNe_reads r1 r2 hz.1.1 hz.2.1 (by have:=hz.1.2;omega) ⟨.bl _,H,I,rfl,q.at hR (.dat (.bl _))⟩
 .cases e
theorem ZH6{w:W}(I:Inv X pq σ H s)(hR:HR X.K ρ H g)(r:Rel X.K ρ H v w)(e:ZVX w g=some ds)(c:PyData.canLayAll0 ds=true)(ru:Zq v u):(∃as,Reads s.heap u (.list ds) as)\/∃as,Reads s.heap u (.tuple ds) as:=by
 cases r with
 |ty=>cases e
 |exc _=>cases e
 |tup _ _=>cases e
 |inp _=>cases e
 |ref h=>exact .inl (ZAW I hR (.ref h) (show ZFC (.ref _) g=some (.list ds) by show(lk g _).map PyData.list=_;rw[show lk g _=some ds from e];rfl) (by rw[PyData.canLay0];exact c) ru)
 |dat r =>
  cases r with
  |tup f t=>cases e;exact .inr ((RelD.tup f t).reads I (by rw[PyData.canLay0];exact c) ru)
  |lst h n t=>cases e;exact .inl ((RelD.lst h n t).reads I (by rw[PyData.canLay0];exact c) ru)
  |_=>cases e
theorem oIn(hu:X.A.units+64<cLine):OpR X (compareOp .In) (rOp X.K ZDK):=by
 intro pq s σ H x y v u Q I rx ry h;obtain⟨ρ,a,b,g,z,g',hR,ra,rb,e,q⟩:=h;obtain⟨d1,e1,e⟩:=bnd e;obtain⟨ds,e2,e⟩:=bnd e
 split at e
 .rename_i hz
  cases e;unfold ok0 at hz;simp only[Bool.and_eq_true,decide_eq_true_eq] at hz;obtain⟨as,r1⟩:=ZAW I hR ra e1 hz.1.1 rx;have hd:X.A.units+1+min (PyData.depthAll ds) d1.depth<cLine:=by have:=hz.1.2;have:=Nat.min_le_right (PyData.depthAll ds) d1.depth;omega
  rcases ZH6 I hR rb e2 hz.2 ry with ⟨bs,r2⟩|⟨bs,r2⟩
  .exact PySem.SeqAt.in_list_reads r2 r1 hz.2 hz.1.1 hd ⟨.bl _,H,I,rfl,q.at hR (.dat (.bl _))⟩
  .exact PySem.SeqAt.in_tuple_reads r2 r1 hz.2 hz.1.1 hd ⟨.bl _,H,I,rfl,q.at hR (.dat (.bl _))⟩
 .cases e
theorem ZVl(hu:X.A.units+64<cLine):OpR X (compareOp .NotIn) (rOp X.K ZCj):=by
 intro pq s σ H x y v u Q I rx ry h;obtain⟨ρ,a,b,g,z,g',hR,ra,rb,e,q⟩:=h;obtain⟨d1,e1,e⟩:=bnd e;obtain⟨ds,e2,e⟩:=bnd e
 split at e
 .rename_i hz
  cases e;unfold ok0 at hz;simp only[Bool.and_eq_true,decide_eq_true_eq] at hz;obtain⟨as,r1⟩:=ZAW I hR ra e1 hz.1.1 rx;have hd:X.A.units+1+min (PyData.depthAll ds) d1.depth<cLine:=by have:=hz.1.2;have:=Nat.min_le_right (PyData.depthAll ds) d1.depth;omega
  rcases ZH6 I hR rb e2 hz.2 ry with ⟨bs,r2⟩|⟨bs,r2⟩
  .exact PySem.SeqAt.notIn_list_reads r2 r1 hz.2 hz.1.1 hd ⟨.bl _,H,I,rfl,q.at hR (.dat (.bl _))⟩
  .exact PySem.SeqAt.notIn_tuple_reads r2 r1 hz.2 hz.1.1 hd ⟨.bl _,H,I,rfl,q.at hR (.dat (.bl _))⟩
 .cases e
end
noncomputable def ZA7:List PyData->Option (List Int)
 |[]=>some []
 |.int i::r=>(ZA7 r).map λns=>i::ns
 |_::_=>none
theorem ZBh:∀{vs:List V} {ns:List Int},RelDL K ρ H vs ds->ZA7 ds=some ns->vs=ns.map V.int:=by
 induction ds with
 |nil=>intro vs ns t e;cases t;cases e;rfl
 |cons d r ih =>
  intro vs ns t e;cases t with
  |cons h t =>
   cases h with
   |int i =>
    obtain⟨ms,e1,rfl⟩:=mp e;rw[ih t e1];rfl
   |_=>cases e
def ZHi(ci:Int->Int->Option Bool)(ct:List Int->List Int->Option Bool)(cs:Str->Str->Option Bool):W->W->G->Option (W×G)
 |.dat (.int i),.dat (.int j),g=>(ci i j).map λb=>(.dat (.bool b),g)
 |.dat (.tuple xs),.dat (.tuple ys),g=>(ZA7 xs).bind λns=>(ZA7 ys).bind λms=>(ct ns ms).map λb=>(.dat (.bool b),g)
 |.dat (.str a),.dat (.str b),g=>(cs a b).map λb=>(.dat (.bool b),g)
 |_,_,_=>none
def ZD5:=ZHi (λi j=>some (decide (i<j))) (λ_ _=>none) λ_ _=>none
def ZL1:=ZHi (λi j=>some (decide (j<i))) (λns ms=>some (HT.lexGt ns ms)) λ_ _=>none
def ZVe:=ZHi (λi j=>some (decide (j<=i))) (λ_ _=>none) λ_ _=>none
def ZTx:=ZHi (λi j=>some (decide (i<=j))) (λ_ _=>none) λ_ _=>none
variable{op:CmpOp}
section
variable{X:Cx}
theorem ZR1{ci:Int->Int->Option Bool}{ct:List Int->List Int->Option Bool}{cs:Str->Str->Option Bool}
  (h1:OpR X (compareOp op) (λx y H Q=>∃i j k,x=.int i/\y=.int j/\ci i j=some k/\Q (.bl k) H))
  (h2:OpR X (compareOp op) (λx y H Q=>∃a b ns ms k,x=.ref a/\y=.ref b/\SqT X.K H a (ns.map V.int)/\SqT X.K H b (ms.map V.int)/\ct ns ms=some k/\Q (.bl k) H))
  (h3:OpR X (compareOp op) (λx y H Q=>∃a b k,x=.str a/\y=.str b/\cs a b=some k/\Q (.bl k) H)):OpR X (compareOp op) (rOp X.K (ZHi ci ct cs)):=by
 intro pq s σ H x y v u Q I rx ry h;obtain⟨ρ,a,b,g,z,g',hR,ra,rb,e,q⟩:=h;unfold ZHi at e
 split at e
 .obtain⟨k,e3,e⟩:=mp e
  cases e;cases ra with
  |dat ra=>cases ra with
   |int i=>cases rb with
    |dat rb=>cases rb with
     |int j=>exact h1 pq s σ H _ _ v u Q I rx ry ⟨_,_,k,rfl,rfl,e3,q.at hR (.dat (.bl _))⟩
 .obtain⟨ns,e1,e⟩:=bnd e
  obtain⟨ms,e2,e⟩:=bnd e;obtain⟨k,e3,e⟩:=mp e;cases e;cases ra with
  |dat ra=>cases ra with
   |tup f1 t1=>cases rb with
    |dat rb=>cases rb with
     |tup f2 t2 =>
      have i1:=ZBh t1 e1;have i2:=ZBh t2 e2;subst i1 i2;exact h2 pq s σ H _ _ v u Q I rx ry ⟨_,_,ns,ms,k,rfl,rfl,f1.sq,f2.sq,e3,q.at hR (.dat (.bl _))⟩
 .obtain⟨k,e3,e⟩:=mp e
  cases e;cases ra with
  |dat ra=>cases ra with
   |str i=>cases rb with
    |dat rb=>cases rb with
     |str j=>exact h3 pq s σ H _ _ v u Q I rx ry ⟨_,_,k,rfl,rfl,e3,q.at hR (.dat (.bl _))⟩
 .cases e
theorem oLt(hu:X.A.units+64<cLine):OpR X (compareOp .Lt) (rOp X.K ZD5):=ZR1 (op_lt.imp λ_ _ _ _ ⟨i,j,k,h1,h2,h5,q⟩=>⟨i,j,h1,h2,by cases h5;exact q⟩) (λpq s σ H x y v u Q I rx ry ⟨_,_,_,_,_,_,_,_,_,h,_⟩=>nomatch h) λpq s σ H x y v u Q I rx ry ⟨_,_,_,_,_,h,_⟩=>nomatch h
theorem oGt(hu:X.A.units+64<cLine):OpR X (compareOp .Gt) (rOp X.K ZL1):=ZR1 (op_gt.imp λ_ _ _ _ ⟨i,j,k,h1,h2,h5,q⟩=>⟨i,j,h1,h2,by cases h5;exact q⟩) ((ZVm ⋯).imp λ_ _ _ _ ⟨a,b,ns,ms,k,h1,h2,h3,h4,h5,q⟩=>⟨a,b,ns,ms,h1,h2,h3,h4,by cases h5;exact q⟩) λpq s σ H x y v u Q I rx ry ⟨_,_,_,_,_,h,_⟩=>nomatch h
theorem oGe(hu:X.A.units+64<cLine):OpR X (compareOp .GtE) (rOp X.K ZVe):=ZR1 (op_ge.imp λ_ _ _ _ ⟨i,j,k,h1,h2,h5,q⟩=>⟨i,j,h1,h2,by cases h5;exact q⟩) (λpq s σ H x y v u Q I rx ry ⟨_,_,_,_,_,_,_,_,_,h,_⟩=>nomatch h) λpq s σ H x y v u Q I rx ry ⟨_,_,_,_,_,h,_⟩=>nomatch h
theorem oLe:OpR X (compareOp .LtE) (rOp X.K ZTx):=ZR1 (op_le.imp λ_ _ _ _ ⟨i,j,k,h1,h2,h5,q⟩=>⟨i,j,h1,h2,by cases h5;exact q⟩) (λpq s σ H x y v u Q I rx ry ⟨_,_,_,_,_,_,_,_,_,h,_⟩=>nomatch h) λpq s σ H x y v u Q I rx ry ⟨_,_,_,_,_,h,_⟩=>nomatch h
def ixA:W->Int->G->Option (W×G)
 |.dat (.tuple ds),i,g=>(atI ds i).map λd=>(.dat d,g)
 |.inp ns,i,g=>(atI ns i).map λd=>(.dat (.int d),g)
 |.tup ws,i,g=>(atI ws i).map λw=>(w,g)
 |.ref n,i,g=>match g[n]? with
  |some (.pl ds)=>(atI ds i).map λd=>(.dat d,g)
  |some (.rl ws)=>(atI ws i).map λw=>(w,g)
  |_=>none
 |a,i,g=>(ZAe a g).bind λds=>(atI ds i).map λd=>(.dat d,g)
def ZO(a b:W)(g:G):Option (W×G):=(ZDm b).bind λi=>ixA a i g
theorem ZIJ(t:RelDL K ρ H vs ds)(e:atI ds i=some d):∃v,atI vs i=some v/\RelD K ρ H v d:=by
 unfold atI at *;rw[t.length];obtain⟨j,e1,e2⟩:=bnd e;rw[e1];exact t.getD e2
theorem ZKl{ds:List W}{d:W}(t:RelL K ρ H vs ds)(e:atI ds i=some d):∃v,atI vs i=some v/\Rel K ρ H v d:=by
 unfold atI at *;rw[t.length];obtain⟨j,e1,e2⟩:=bnd e;rw[e1];exact t.getD e2
theorem oIx:IxR X (rOp X.K ZO):=by
 intro value slice pq s σ H x y v u Q I rx ry h hs;obtain⟨ρ,a,b,g,z,g',hR,ra,rb,e,q⟩:=h;obtain⟨i,e0,e⟩:=bnd e;have:=ZA9 rb e0;subst this
 have lists:((ZAe a g).bind λds=>(atI ds i).map λd=>(W.dat d,g))=some (z,g')->Yk X (subscriptTail value slice v u) (EP X pq σ Q) X.xe s:=λe=>by
  obtain⟨xs,e1,e⟩:=bnd e;obtain⟨d,e2,e⟩:=mp e;cases e;obtain⟨l,vs,rfl,h1,t1⟩:=Z3 hR ra e1;obtain⟨w,e3,r3⟩:=ZIJ t1 e2;exact ZFe value slice pq s σ H _ _ v u Q I rx ry ⟨l,vs,i,w,rfl,rfl,SqL.of h1,e3,q.at hR (.dat r3)⟩ hs
 cases ra with
 |@ref a n h =>
  change (match g[n]? with|some (.pl ds)=>(atI ds i).map λd=>(W.dat d,g)|some (.rl ws)=>(atI ws i).map λw=>(w,g)|_=>none)=some (z,g') at e
  split at e
  .rename_i ds e1
   obtain⟨d,e2,e⟩:=mp e;cases e;obtain⟨a',vs,k1,k2,k3⟩:=hR.at_ _ _ e1;rw[h] at k1;cases k1;obtain⟨w,e3,r3⟩:=ZIJ k3 e2;exact ZFe value slice pq s σ H _ _ v u Q I rx ry ⟨a,vs,i,w,rfl,rfl,SqL.of k2,e3,q.at hR (.dat r3)⟩ hs
  .rename_i ws e1
   obtain⟨d,e2,e⟩:=mp e;cases e;obtain⟨a',k1,vs,k2,k3⟩:=hR.ce _ _ e1;rw[h] at k1;cases k1;obtain⟨w,e3,r3⟩:=ZKl k3 e2;exact ZFe value slice pq s σ H _ _ v u Q I rx ry ⟨a,vs,i,w,rfl,rfl,SqL.of k2,e3,q.at hR r3⟩ hs
  .cases e
 |ty=>exact lists e
 |exc _=>exact lists e
 |tup f t =>
  obtain⟨d,e2,e⟩:=mp e;cases e;obtain⟨w,e3,r3⟩:=ZKl t e2;exact ZQR value slice pq s σ H _ _ v u Q I rx ry ⟨_,_,i,w,rfl,rfl,f.sq,e3,q.at hR r3⟩ hs
 |@inp a ns h =>
  obtain⟨d,e2,e⟩:=mp e;cases e;refine ZFe value slice pq s σ H _ _ v u Q I rx ry ⟨a,_,i,.int d,rfl,rfl,h.sq,?_,q.at hR (.dat (.int _))⟩ hs;unfold atI at *;rw[Xm];obtain⟨j,e1,e2⟩:=bnd e2;rw[e1];show(ns.map V.int)[j]? = _;rw[getElem?_map,e2];rfl
 |dat ra =>
  cases ra with
  |tup f t =>
   obtain⟨d,e2,e⟩:=mp e;cases e;obtain⟨w,e3,r3⟩:=ZIJ t e2;exact ZQR value slice pq s σ H _ _ v u Q I rx ry ⟨_,_,i,w,rfl,rfl,f.sq,e3,q.at hR (.dat r3)⟩ hs
  |lst h n t=>exact lists e
  |_=>exact lists e
abbrev DO:=Sd->G->Option (Option Int×G)
def tO(K:Frag)(d:DO):TO:=λσ H Q=>∃ρ sd g i g',Rst K ρ H σ sd g/\d sd g=some (i,g')/\∀H' ρ',Stp ρ H ρ' H'->HR K ρ' H' g'->Q i H'
theorem PO.imp{e:Option Expr}{t u:TO}(h:PO X e t)(k:∀σ H Q,u σ H Q->t σ H Q):PO X e u:=λpq s σ H Q I q=>h pq s σ H Q I (k σ H Q q)
noncomputable def ZBz:DO:=λ_ g=>some (none,g)
noncomputable def ZEY(d:DE):DO:=λsd g=>(d sd g).bind λp=>match p.1 with|.dat (.int i)=>some (some i,p.2)|_=>none
def ZBT{α:Type}(xs:List α)(lo hi:Option Int):List α:=(xs.drop (HT.sIx xs.length 0 lo)).take (HT.sIx xs.length xs.length hi-HT.sIx xs.length 0 lo)
def slO(w:W)(lo hi:Option Int)(g:G):Option (W×G):=match w with
 |.dat (.tuple ds)=>some (.dat (.tuple (ZBT ds lo hi)),g)
 |.inp ns=>some (.dat (.list (ZBT (ns.map .int) lo hi)),g)
 |w=>(ZAe w g).map λds=>(.dat (.list (ZBT ds lo hi)),g)
def dSl(d:DE)(l h:DO):DE:=λsd g=>(d sd g).bind λp=>(l sd p.2).bind λa=>(h sd a.2).bind λb=>slO p.1 a.1 b.1 b.2
theorem ZIL(t:RelDL K ρ H vs ds)(lo hi:Option Int):RelDL K ρ H (ZIV vs lo hi) (ZBT ds lo hi):=by
 unfold ZIV ZBT;rw[t.length];exact(t.drop _).take _
theorem ZVq:SlR X (λx lo hi H Q=>∃ρ w g z g',HR X.K ρ H g/\Rel X.K ρ H x w/\slO w lo hi g=some (z,g')/\Pv X.K ρ H z g' Q):=by
 intro pq s σ H x v vl vu lo hi sl Q I rx hs pl pu h;obtain⟨ρ,w,g,z,g',hR,rw_,e,q⟩:=h;have lists:((ZAe w g).map λds=>(W.dat (.list (ZBT ds lo hi)),g))=some (z,g')->∃T id,typeLookup (.type T) "__getitem__" = pure (some (.builtin id))/\s.TypeIs v T/\Yk X (getItem v (.ref sl)) (EP X pq σ Q) X.xe s:=λe=>by
  obtain⟨ds,e1,e⟩:=mp e;cases e;obtain⟨l,vs,rfl,h1,t1⟩:=Z3 hR rw_ e1;exact ZMi pq s σ H _ v vl vu lo hi sl Q I rx hs pl pu ⟨l,vs,rfl,SqL.of h1,λp hp=>q.new hR (ZIL t1 lo hi) hp⟩
 cases rw_ with
 |ref h=>exact lists e
 |ty=>exact lists e
 |exc _=>exact lists e
 |tup _ _=>exact lists e
 |inp h =>
  cases e;exact ZMi pq s σ H _ v vl vu lo hi sl Q I rx hs pl pu ⟨_,_,rfl,h.sq,λp hp=>q.new hR (ZIL RelDL.ofInts lo hi) hp⟩
 |dat r =>
  cases r with
  |@tup a xs ds f t =>
   cases e;refine ZSj pq s σ H _ v vl vu lo hi sl Q I rx hs pl pu ⟨_,_,rfl,f.sq,λhw=>?_,λ_ p hp=>q.newT hR (ZIL t lo hi) hp⟩;refine q.at hR (.dat ?_);have e:ZBT ds lo hi=ds:=by
    unfold ZBT;rw[<-t.length,hw.1,hw.2,t.length];simp
   rw[e];exact .tup f t
  |lst h n t=>exact lists e
  |_=>exact lists e
end
noncomputable def f1(f:W->G->Option (W×G)):FW
 |[w],g=>f w g
 |_,_=>none
def ZBQ:W->G->Option (W×G)
 |.dat (.tuple ds),g=>some (.dat (.int (ds.length:Int)),g)
 |.inp ns,g=>some (.dat (.int (ns.length:Int)),g)
 |.ref n,g=>match g[n]? with
  |some (.pl ds)=>some (.dat (.int (ds.length:Int)),g)
  |some (.rl ws)=>some (.dat (.int (ws.length:Int)),g)
  |_=>none
 |w,g=>(ZAe w g).map λds=>(.dat (.int (ds.length:Int)),g)
noncomputable def ZWC:W->G->Option (W×G)
 |.dat (.int i),g=>some (.dat (.int i),g)
 |.dat (.bool b),g=>some (.dat (.int (if b=true then 1 else 0)),g)
 |_,_=>none
def ZEr:W->G->Option (W×G)
 |.dat (.tuple ds),g=>some (.dat (.tuple ds),g)
 |w,g=>(ZAe w g).map λds=>(.dat (.tuple ds),g)
noncomputable def ZBB:List PyData->Option (List Bool)
 |[]=>some []
 |.bool i::r=>(ZBB r).map λns=>i::ns
 |_::_=>none
def ZFX(w:W)(g:G):Option (W×G):=(ZAe w g).bind λds=>(ZBB ds).map λbs=>(.dat (.bool (bs.all id)),g)
def ZRV(w:W)(g:G):Option (W×G):=(ZAe w g).bind λds=>(ZBB ds).map λbs=>(.dat (.bool (bs.any id)),g)
def ZSQ(f:Int->Int->Option Int):FW
 |[a,b],g=>(ZDm a).bind λi=>(ZDm b).bind λj=>(f i j).map λk=>(.dat (.int k),g)
 |_,_=>none
def ZWJ:=ZSQ λi j=>some (if j<i then j else i)
def ZTf:=ZSQ λi j=>some (if j > i then j else i)
noncomputable def ZUA:PyData->String
 |.none=>"NoneType"
 |.bool _=>"bool"
 |.int _=>"int"
 |.str _=>"str"
 |.list _=>"list"
 |.tuple _=>"tuple"
 |.dict _=>"dict"
def ZD4:FW
 |[.dat d,.ty T],g=>if T = "int"\/T = "bool"\/T = "tuple"\/T = "str" then some (.dat (.bool (isi (ZUA d) T)),g) else none
 |_,_=>none
section
variable{X:Cx}
theorem c1{f:Value}{fn:W->G->Option (W×G)}{r:List V->Hp->VK->Prop}(h:Zi X f r)(k:∀ρ H g x w z g' Q,HR X.K ρ H g->Rel X.K ρ H x w->fn w g=some (z,g')->Pv X.K ρ H z g' Q->r [x] H Q):Zi X f (rF X.K (f1 fn)):=h.imp λxs H Q ⟨ρ,ws,g,z,g',hR,rl,e,q⟩=>by
 cases rl with
 |nil=>cases e
 |cons r1 t =>
  cases t with
  |nil=>exact k ρ H g _ _ z g' Q hR r1 e q
  |cons _ _=>cases e
theorem ZUX:Zi X (.builtin "len") (rF X.K (f1 ZBQ)):=c1 ZIE λρ H g x w z g' Q hR r e q=>by
 have lists:((ZAe w g).map λds=>(W.dat (.int (ds.length:Int)),g))=some (z,g')->∃p ys,[x]=[V.ref p]/\(SqL X.K H p ys\/SqT X.K H p ys)/\Q (.int ys.length) H:=λe=>by
  obtain⟨ds,e1,e⟩:=mp e;cases e;obtain⟨l,vs,rfl,h1,t1⟩:=Z3 hR r e1;exact⟨l,vs,rfl,.inl (SqL.of h1),q.at hR (by rw[t1.length];exact .dat (.int _))⟩
 cases r with
 |@ref a n h =>
  change (match g[n]? with|some (.pl ds)=>some (W.dat (.int (ds.length:Int)),g)|some (.rl ws)=>some (W.dat (.int (ws.length:Int)),g)|_=>none)=some (z,g') at e
  split at e
  .rename_i ds e1
   cases e;obtain⟨a',vs,k1,k2,k3⟩:=hR.at_ _ _ e1;rw[h] at k1;cases k1;exact⟨a,vs,rfl,.inl (SqL.of k2),q.at hR (by rw[k3.length];exact .dat (.int _))⟩
  .rename_i ds e1
   cases e;obtain⟨a',k1,vs,k2,k3⟩:=hR.ce _ _ e1;rw[h] at k1;cases k1;exact⟨a,vs,rfl,.inl (SqL.of k2),q.at hR (by rw[k3.length];exact .dat (.int _))⟩
  .cases e
 |ty=>exact lists e
 |exc _=>exact lists e
 |tup _ _=>exact lists e
 |inp h=>cases e;exact⟨_,_,rfl,.inl h.sq,q.at hR (by rw[Xm];exact .dat (.int _))⟩
 |dat r =>
  cases r with
  |tup f t=>cases e;exact⟨_,_,rfl,.inr f.sq,q.at hR (by rw[t.length];exact .dat (.int _))⟩
  |lst h n t=>exact lists e
  |_=>exact lists e
theorem cInt:Zi X (.type "int") (rF X.K (f1 ZWC)):=c1 ZNr λρ H g x w z g' Q hR r e q=>by
 cases r with
 |dat r =>
  cases r with
  |int i=>cases e;exact .inl ⟨i,rfl,q.at hR (.dat (.int _))⟩
  |bl b=>cases e;exact .inr ⟨b,rfl,q.at hR (.dat (.int _))⟩
  |_=>cases e
 |_=>cases e
theorem cTup:Zi X (.type "tuple") (rF X.K (f1 ZEr)):=c1 ZHC λρ H g x w z g' Q hR r e q=>by
 have lists:((ZAe w g).map λds=>(W.dat (.tuple ds),g))=some (z,g')->∃p ys,[x]=[V.ref p]/\((SqL X.K H p ys/\∀l,H l=none->Q (.ref l) (upd H l (.tup ys)))\/(SqT X.K H p ys/\Q (.ref p) H)):=λe=>by
  obtain⟨ds,e1,e⟩:=mp e;cases e;obtain⟨l,vs,rfl,h1,t1⟩:=Z3 hR r e1;exact⟨l,vs,rfl,.inl ⟨SqL.of h1,λp hp=>q.newT hR t1 hp⟩⟩
 cases r with
 |ref h=>exact lists e
 |ty=>exact lists e
 |exc _=>exact lists e
 |tup _ _=>exact lists e
 |inp h=>exact lists e
 |dat r =>
  cases r with
  |tup f t=>cases e;exact⟨_,_,rfl,.inr ⟨f.sq,q.at hR (.dat (.tup f t))⟩⟩
  |lst h n t=>exact lists e
  |_=>exact lists e
theorem ZFL:∀{vs:List V} {ns:List Bool},RelDL K ρ H vs ds->ZBB ds=some ns->vs=ns.map V.bl:=by
 induction ds with
 |nil=>intro vs ns t e;cases t;cases e;rfl
 |cons d r ih =>
  intro vs ns t e;cases t with
  |cons h t =>
   cases h with
   |bl i =>
    obtain⟨ms,e1,rfl⟩:=mp e;rw[ih t e1];rfl
   |_=>cases e
theorem ZV1(hc:X.calm=true):Zi X (.builtin "all") (rF X.K (f1 ZFX)):=c1 (ZPs hc) λρ H g x w z g' Q hR r e q=>by
 obtain⟨ds,e1,e⟩:=bnd e;obtain⟨bs,e2,e⟩:=mp e;cases e;obtain⟨l,vs,rfl,h1,t1⟩:=Z3 hR r e1;have:=ZFL t1 e2;subst this
 exact⟨l,bs,rfl,SqL.of h1,q.at hR (.dat (.bl _))⟩
theorem ZTR{f:Int->Int->Option Int}{c:Value}(h:Zi X c (λxs H Q=>∃i j k,xs=[.int i,.int j]/\f i j=some k/\Q (.int k) H)):Zi X c (rF X.K (ZSQ f)):=h.imp λxs H Q ⟨ρ,ws,g,z,g',hR,rl,e,q⟩=>by
 unfold ZSQ at e
 split at e
 .obtain⟨i,e1,e⟩:=bnd e
  obtain⟨j,e2,e⟩:=bnd e;obtain⟨k,e3,e⟩:=mp e;cases e;cases rl with
  |cons r1 t=>cases t with
   |cons r2 t=>cases t with
    |nil =>
     rw[ZA9 r1 e1,ZA9 r2 e2];exact⟨i,j,k,rfl,e3,q.at hR (.dat (.int _))⟩
 .cases e
theorem cMin(hc:X.calm=true):Zi X (.builtin "min") (rF X.K ZWJ):=ZTR ((ZNi hc).imp λ_ _ _ ⟨i,j,k,h1,h5,q⟩=>⟨i,j,h1,by cases h5;exact q⟩)
theorem cMax2(hc:X.calm=true):Zi X (.builtin "max") (rF X.K ZTf):=ZTR ((ZNa hc).imp λ_ _ _ ⟨i,j,k,h1,h5,q⟩=>⟨i,j,h1,by cases h5;exact q⟩)
theorem kd_of(r:RelD K ρ H v d):Kd K H v (ZUA d):=by
 cases r with
 |non=>exact .non
 |bl b=>exact .bl b
 |int i=>exact .int i
 |str x=>exact .str x
 |tup f t=>exact .tup f.sq
 |lst h n t=>exact .lst h
 |dct h n=>exact .dct h
theorem ZKU:Zi X (.builtin "isinstance") (rF X.K ZD4):=ZNv.imp λxs H Q ⟨ρ,ws,g,z,g',hR,rl,e,q⟩=>by
 cases rl with
 |nil=>cases e
 |cons r1 t =>
  cases r1 with
  |dat r1 =>
   cases t with
   |nil=>cases e
   |cons r2 t =>
    cases r2 with
    |@ty T =>
     cases t with
     |nil =>
      change (if T = "int"\/T = "bool"\/T = "tuple"\/T = "str" then some (W.dat (.bool (isi (ZUA _) T)),g) else none)=some (z,g') at e
      split at e
      .rename_i hz
       cases e;exact⟨_,T,_,rfl,kd_of r1,hz,q.at hR (.dat (.bl _))⟩
      .cases e
     |cons _ _=>cases e
    |_=>cases e
  |_=>cases e
end
noncomputable def ZDD(ns:List Int):List Int:=ns.mergeSort λa b=>decide (a<=b)
variable{ns:List Int}
theorem ZKa{ms:List Int}(pm:ms.Perm ns)(pw:ms.Pairwise (· <= ·)):ms=ZDD ns:=by
 refine List.Perm.eq_of_pairwise (le:=λa b:Int=>a<=b) (λa b _ _ h1 h2=>Int.le_antisymm h1 h2) pw ?_ (pm.trans (mergeSort_perm _ _).symm);refine List.Pairwise.imp (λ{a b} h=>Xd h) (List.pairwise_mergeSort (le:=λa b:Int=>decide (a<=b)) (λa b c h1 h2=>?_) (λa b=>?_) ns)
 .exact Xe (Int.le_trans (Xd h1) (Xd h2))
 .rw[Bool.or_eq_true,decide_eq_true_iff,decide_eq_true_iff]
  exact Int.le_total a b
noncomputable def ZBw(ks:List (Int×Int)):List (Int×Int):=ks.mergeSort λa b=>!gtW a b
variable{ks:Qi}
theorem ZQ3{js:Qi}(pm:js.Perm ks)(pw:js.Pairwise (λa b=>gtW b a=true)):js=ZBw ks:=by
 have ha:∀a b:Int×Int,(!gtW a b)=true ↔ a.1<b.1\/(a.1=b.1/\a.2<=b.2):=λa b=>by
  rw[Bool.not_eq_true',<-Bool.not_eq_true,ZAD];omega
 refine List.Perm.eq_of_pairwise (le:=λa b:Int×Int=>(!gtW a b)=true) (λa b _ _ h1 h2=>?_) (pw.imp λ{a b} h=>?_) ?_ (pm.trans (mergeSort_perm _ _).symm)
 .rw[ha] at h1 h2
  exact Prod.ext ⋯ ⋯
 .rw[ha]
  rw[ZAD] at h;omega
 .refine List.pairwise_mergeSort (le:=λa b=>!gtW a b) (λa b c h1 h2=>?_) (λa b=>?_) ks
  .rw[ha] at *
   omega
  .rw[Bool.or_eq_true,ha,ha]
   omega
noncomputable def ZLT:PyData->Option (Int×Int)
 |.tuple [.int i,.int j]=>some (i,j)
 |_=>none
theorem ZNo{k:Int×Int}(h:ZLT d=some k):d=ZP k:=by
 unfold ZLT at h
 split at h
 .cases h;rfl
 .cases h
def pairsOf:List PyData->Option (List (Int×Int))
 |[]=>some []
 |d::r=>(ZLT d).bind λk=>(pairsOf r).map λns=>k::ns
theorem ZF4:∀{ds:Qd} {ks:Qi},pairsOf ds=some ks->ds=ks.map ZP
 |[],_,e=>by cases e;rfl
 |d::r,_,e=>by
  rw[pairsOf] at e;obtain⟨k,e0,e⟩:=bnd e;obtain⟨ms,e1,rfl⟩:=mp e;rw[ZF4 e1,ZNo e0];rfl
def ZPu(w:W)(g:G):Option (W×G):=(ZAe w g).bind λds=>match ZA7 ds with
 |some ns=>if ns.length<64 then some (.dat (.list ((ZDD ns).map .int)),g) else none
 |none=>(pairsOf ds).bind λks=>if ks.Nodup/\ks.length<=6 then some (.dat (.list ((ZBw ks).map ZP)),g) else none
section
variable{X:Cx}{pq:Yh}{σ:St}{H:Hp}{s:Shared}{ρ:Rh}
theorem RelD.tupI(h:RelD K ρ H v (.tuple ds)):∃a xs,v=.ref a/\FzT K ρ H a xs/\RelDL K ρ H xs ds:=by
 cases h with
 |tup f t=>exact⟨_,_,rfl,f,t⟩
theorem RelD.pairI{k:Int×Int}(h:RelD K ρ H v (ZP k)):∃a,v=.ref a/\FzT K ρ H a [.int k.1,.int k.2]:=by
 obtain⟨a,xs,rfl,f,t⟩:=RelD.tupI (ds:=[.int k.1,.int k.2]) h;have:=RelDL.ints (ns:=[k.1,k.2]) t;subst this
 exact⟨a,rfl,f⟩
theorem ZOK(I:Inv X pq σ H s):∀{ks:Qi} {ys:List V} {its:List Value},RelDL X.K ρ H ys (ks.map ZP)->Zb ys its->PairsIn s.heap its ks:=by
 intro ks
 induction ks with
 |nil =>
  intro ys its t r;cases t;cases r;exact .nil
 |cons k ks ih =>
  intro ys its t r;rw[map_cons] at t;cases t with
  |cons t1 t2 =>
   obtain⟨a,rfl,f⟩:=RelD.pairI t1;cases r with
   |cons r1 r2 =>
    cases r1;obtain⟨i2,v,it,_⟩:=I.tuple f.sq;cases v with
    |cons v1 v2=>cases v2 with
     |cons v2 v3 =>
      cases v3;obtain⟨t,rfl⟩:=v1;obtain⟨u,rfl⟩:=v2;exact .cons it (ih t2 r2)
theorem ZUL:∀{ks:Qi} {ys:List V},RelDL K ρ H ys (ks.map ZP)->∀{i:Nat},i<ks.length->RelD K ρ H (ys.getD i .non) (ZP (ks.getD i (0,0))):=by
 intro ks
 induction ks with
 |nil=>intro ys t i z;exact absurd z (not_lt_zero _)
 |cons k ks ih =>
  intro ys t i z;rw[map_cons] at t;cases t with
  |cons t1 t2 =>
   cases i with
   |zero=>exact t1
   |succ i=>exact ih t2 (Nat.lt_of_succ_lt_succ z)
theorem ZKY{K:Frag}{ys:List V}{ks:Qi}(t:RelDL K ρ H ys (ks.map ZP)):∀{p:List Nat},(∀i∈p,i<ks.length)->RelDL K ρ H (p.map λi=>ys.getD i .non) ((p.map λi=>ks.getD i (0,0)).map ZP)
 |[],_=>.nil
 |i::p,h=>.cons (ZUL t (h i (Xs ..))) (ZKY t λj hj=>h j (Xo _ hj))
end
section
variable{X:Cx}
theorem ZJI:Zi X (.builtin "sorted") (λxs H Q=>∃(ρ : Rh) (p:Addr) (ys:List V) (ks:Qi),xs=[.ref p]/\SqL X.K H p ys/\RelDL X.K ρ H ys (ks.map ZP)/\ks.Nodup/\ks.length<=6/\∀l (zs:List V) (js:Qi),H l=none->RelDL X.K ρ H zs (js.map ZP)->js.Perm ks->js.Pairwise (λa b=>gtW b a=true)->Q (.ref l) (upd H l (.lst zs))):=by
 intro pq s σ H xs us Q I r h;obtain⟨ρ,p,ys,ks,rfl,hq,ht,hn,h6,q⟩:=h;obtain⟨u,rfl,ru⟩:=ZBt r;cases ru;obtain⟨its,rv,pl,hz⟩:=I.list hq;have hP:=ZOK I ht rv;have hyl:ys.length=ks.length:=by rw[ht.length,Xm]
 refine ZIT pl.isList hP hn h6 λp hpp hps=>?_
 have hin:∀i∈p,i<ks.length:=λi hi=>List.mem_range.mp (hpp.mem_iff.mp hi)
 obtain⟨e,he⟩:=sortedAll_at s.heap its (p.map λi=>its.getD i Value.none).toArray;have rv':=ZHW rv (p:=p) (λi hi=>by rw[hyl];exact hin i hi);have pm:(p.map λi=>ks.getD i (0,0)).Perm ks:=by
  have:=hpp.map λi=>ks.getD i (0,0)
  rw[ZBj] at this
  exact this
 refine⟨.ref (s⁻¹+1),_,I.laid (t':=s.toks) (λb o e=>sortedAll_old e) (le_succ _) (o:=.lst (p.map λi=>ys.getD i .non)) ⟨?_,_,e,rv',he⟩,rfl,q _ _ (p.map λi=>ks.getD i (0,0)) (I.hok.fresh (le_succ _)) (ZKY ht hin) pm hps⟩;rw[Xm,hpp.length_eq,length_range];exact le_of_lt (Zt ⋯)
theorem cSrt:Zi X (.builtin "sorted") (rF X.K (f1 ZPu)):=c1 (ZKi.or ZJI) λρ H g x w z g' Q hR r e q=>by
 obtain⟨ds,e1,e⟩:=bnd e;obtain⟨l,vs,rfl,h1,t1⟩:=Z3 hR r e1;cases hi:ZA7 ds with
 |some ns =>
  rw[hi] at e;have:=ZBh t1 hi;subst this
  dsimp only at e
  split at e
  .rename_i hz
   cases e;refine .inl ⟨l,ns,rfl,SqL.of h1,hz,λp ms hp pm pw=>?_⟩;rw[ZKa pm pw];exact q.new hR RelDL.ofInts hp
  .cases e
 |none =>
  rw[hi] at e;obtain⟨ks,e2,e'⟩:=bnd e;have:=ZF4 e2;subst this
  clear e;have e:=e';clear e'
  split at e
  .rename_i hz
   cases e;refine .inr ⟨ρ,l,vs,ks,rfl,SqL.of h1,t1,hz.1,hz.2,λp zs js hp tz pm pw=>?_⟩;rw[ZQ3 pm pw] at tz;exact q.new hR tz hp
  .cases e
end
section
variable{X:Cx}
def isL(g:G)(n:Nat):Bool:=match g[n]? with|some (.pl _)=>true|some (.rl _)=>true|_=>false
theorem ZEg{n:Nat}(h:g[n]? = some (.pl ds)):isL g n=true:=by
 unfold isL;rw[h]
theorem ZUT{n:Nat}{a:Addr}(h:isL g n=true)(hR:HR K ρ H g)(ha : ρ.c[n]? = some a):∃vs,H a=some (.lst vs):=by
 unfold isL at h
 split at h
 .rename_i ds e
  obtain⟨b,h1,vs,h2,_⟩:=hR.ce _ _ e;rw[ha] at h1;cases h1;exact⟨vs,h2⟩
 .rename_i ds e
  obtain⟨b,h1,vs,h2,_⟩:=hR.ce _ _ e;rw[ha] at h1;cases h1;exact⟨vs,h2⟩
 .cases h
def ZDy(dl d:DE):DE:=λsd g=>(dl sd g).bind λl=>match l.1 with
 |.ref n=>if isL l.2 n=true then (d sd l.2).bind λp=>match p.1 with
  |.dat x=>match p.2[n]? with
   |some (.pl ds)=>if ds.length<1000 then some (.dat .none,p.2.set n (.pl (ds++[x]))) else none
   |some (.rl ws)=>if ws.length<1000 then some (.dat .none,p.2.set n (.rl (ws++[.dat x]))) else none
   |_=>none
  |x=>match p.2[n]? with
   |some (.rl ws)=>if ws.length<1000 then some (.dat .none,p.2.set n (.rl (ws++[x]))) else none
   |_=>none
  else none
 |_=>none
def ZGK(dl di d:DE):DS:=λsd g=>(d sd g).bind λv=>(dl sd v.2).bind λl=>(di sd l.2).bind λi=>match l.1,i.1,v.1 with
 |.ref n,.dat (.int k),.dat x=>match i.2[n]? with
  |some (.pl ds)=>(ixN ds.length k).map λj=>.nx sd (i.2.set n (.pl (ds.set j x)))
  |some (.rl ws)=>(ixN ws.length k).map λj=>.nx sd (i.2.set n (.rl (ws.set j (.dat x))))
  |_=>none
 |.ref n,.dat (.int k),x=>match i.2[n]? with
  |some (.rl ws)=>(ixN ws.length k).map λj=>.nx sd (i.2.set n (.rl (ws.set j x)))
  |_=>none
 |_,_,_=>none
noncomputable def ZG1(i:Nat)(d:DE):DS:=λsd g=>match sd.getD i none with
 |some (.dat (.int a))=>(d sd g).bind λp=>match p.1 with|.dat (.int b)=>some (.nx (sd.set i (some (.dat (.int (a+b))))) p.2)|_=>none
 |_=>none
noncomputable def ZPX(i j:Nat)(a:DA):DS:=λsd g=>(a sd g).bind λp=>match p.1 with|[x,y]=>some (.nx ((sd.set i (some x)).set j (some y)) p.2)|_=>none
theorem ZUR{i j:Nat}{aa:DA}{D:Ends}(h:tS X.K (ZPX i j aa) D σ H):ZVy i j (tA X.K aa) D σ H:=by
 obtain⟨ρ,sd,g,oo,r,e,q⟩:=h;obtain⟨⟨ws,g1⟩,e1,e⟩:=bnd e;refine⟨ρ,sd,g,ws,g1,r,e1,λvs H1 ρ1 s1 h1 r1=>?_⟩;cases r1 with
 |nil=>cases e
 |cons a t =>
  cases t with
  |nil=>cases e
  |cons b t =>
   cases t with
   |nil=>cases e;exact⟨_,_,rfl,q _ H1 ρ1 s1 (((r.step s1 h1).set a i).set b j)⟩
   |cons _ _=>cases e
end
structure JE (X:Cx) (e:Expr) (d:DE):Prop where
 h:PE X e (tE X.K d)
structure JT (X:Cx) (e:Expr) (d:DB):Prop where
 h:PT X e (tT X.K d)
structure JW (X:Cx) (e:Expr) (d:DB):Prop where
 h:PW X e (tT X.K d)
structure JA (X:Cx) (e:List Expr) (d:DA):Prop where
 h:PA X e (tA X.K d)
structure JS (X:Cx) (e:Stmt) (d:DS):Prop where
 h:PS X e (tS X.K d)
structure JSs (X:Cx) (e:List Stmt) (d:DS):Prop where
 h:PSs X e (tS X.K d)
structure JG (X:Cx) (e:Expr) (d:Pat):Prop where
 h:PG X e (gP X.K d)
structure JGs (X:Cx) (e:List Expr) (d:Pats):Prop where
 h:PGs X e (gPs X.K d)
structure JI (X:Cx) (tg e:Expr) (d:DI):Prop where
 h:PI X tg e (tI X.K d)
structure JO (X:Cx) (e:Option Expr) (d:DO):Prop where
 h:PO X e (tO X.K d)
structure JTs (X:Cx) (e:List Expr) (d:DB):Prop where
 h:PTs X e (tT X.K d)
theorem JW.pt{X:Cx}{e:Expr}{d:DB}(j:JW X e d):JT X e d:=⟨j.h.pt⟩
variable{x:Str}{pos:Pos}{rest:List Expr}
section
variable{X:Cx}{a b c e:Expr}{es:List Expr}{da db dc d:DE}{ta tb:DB}{aa:DA}{pos p2:Pos}{f f':W->W->G->Option (W×G)}
theorem Zy(i:Nat)(hN:X.N[i]? = some x:=by rfl)(hv:Vis X.env.scope x:=by first|exact Or.inl rfl|exact Or.inr (Or.inl rfl)|exact Or.inr (Or.inr rfl))(hd:Yf x:=by decide)(hcd:(x == ("__classdict__" : Str))=false:=by decide):JE X (.Name x pos) (ZB i):=⟨(ZVf hN hv hd hcd).imp λσ H Q ⟨ρ,sd,g,y,g',r,e,q⟩=>by
 unfold ZB at e;cases h:sd.getD i none with
 |none=>rw[h] at e;cases e
 |some z =>
  rw[h] at e;cases e;have h':sd[i]? = some (some y):=by
   rw[Xq] at h;cases k:sd[i]? with
   |none=>rw[k] at h;cases h
   |some w=>rw[k] at h;exact congrArg some h
  obtain⟨v,h1,h2⟩:=r.env i y h';exact⟨v,h1,q v H ρ .refl r.hr h2⟩⟩
theorem ZTO{i j pos}:JE X (.Constant (.int i) j pos) (dI i):=⟨ZPw ZLH λ_ _=>.int i⟩
theorem ZO4{b j pos}:JE X (.Constant (.bool b) j pos) (dC (.bool b)):=⟨ZPw pe_bl λ_ _=>.bl b⟩
theorem ZIg{j pos}:JE X (.Constant .none j pos) (dC .none):=⟨ZPw ZVa λ_ _=>.non⟩
theorem ZSm{x j pos}:JE X (.Constant (.str x) j pos) (dC (.str x)):=⟨ZPw ZUp λ_ _=>.str x⟩
theorem ZNw{n:Int}(hg:Gl X x)(h:ZLG X.mg x n)(hd:Yf x:=by decide):JE X (.Name x pos) (dI n):=⟨ZPw (ZPo hg h hd) λ_ _=>.int n⟩
theorem ZT7{op:Operator}(ho:OpR X (binaryOp op) (rOp X.K f))(ha:JE X a da)(hb:JE X b db):JE X (.BinOp a op b pos) (dOp f da db):=⟨(ZTQ ho ha.h hb.h).imp λ_ _ _ h=>ZL9 h⟩
theorem ZFb(ho:OpR X (compareOp op) (rOp X.K f))(ha:JE X a da)(hb:JE X b db)(hm:behindInMarks op b=false):JE X (.Compare a [op] [b] pos) (dOp f da db):=⟨(ZRS ho ha.h hb.h hm).imp λ_ _ _ h=>ZL9 h⟩
theorem ZIc(ho:IxR X (rOp X.K f))(ha:JE X a da)(hb:JE X b db)(hs:ZMk b):JE X (.Subscript a b pos) (dOp f da db):=⟨(pe_ix ho ha.h hb.h hs).imp λ_ _ _ h=>ZL9 h⟩
theorem ZIP(ho:OpR X (compareOp op) (rOp X.K f))(ha:JE X a da)(hb:JE X b db)(hm:behindInMarks op b=false):JT X (.Compare a [op] [b] pos) (dB (dOp f da db)):=⟨(ZTE ho ha.h hb.h hm).imp λ_ _ _ h=>ZJC (λ_ _ _ h=>ZL9 h) h⟩
theorem ZEC(h:JE X e d)(he:∀whole,isTrue e X.env whole=(do let v <-whole;standAt e.pos;holding [v] (truthy v)):=by intro _;rfl):JT X e (dB d):=⟨(have h:=h.h;(ZVh h he).imp λ_ _ _ h=>ZJC (λ_ _ _ h=>h) h)⟩
theorem ZOS{op':CmpOp}(ho:OpR X (compareOp op) (rOp X.K f))(ho':OpR X (compareOp op') (rOp X.K f'))(ha:JE X a da)(hb:JE X b db)(hc:JE X c dc)(hm:lastMarks [op,op'] [b,c]=false:=by with_unfolding_all rfl):JT X (.Compare a [op,op'] [b,c] pos) (dB (ZDu f f' da db dc)):=⟨ZQD ho ho' ha.h hb.h hc.h hm⟩
theorem ZMl(h:JT X a ta):JT X (.UnaryOp .Not a pos) (ZDJ ta):=⟨(ZUB h.h).imp λσ H Q ⟨ρ,sd,g,b,g',r,e,q⟩=>by
 obtain⟨⟨y,g1⟩,e1,e⟩:=mp e;cases e;exact⟨ρ,sd,g,y,g1,r,e1,q⟩⟩
theorem ZO7(h:JT X a ta):JW X (.BoolOp .And [a] pos) ta:=⟨ZTN h.h⟩
theorem ZIl(h:JT X a ta):JW X (.BoolOp .Or [a] pos) ta:=⟨ZVd h.h⟩
theorem ZMy(ha:JT X a ta)(hb:JW X (.BoolOp .And (b::rest) pos) tb):JW X (.BoolOp .And (a::b::rest) pos) (ZCX ta tb):=⟨(ZUj ha.h hb.h).imp λσ H Q ⟨ρ,sd,g,b,g',r,e,q⟩=>by
 obtain⟨⟨y,g1⟩,e1,e⟩:=bnd e;refine⟨ρ,sd,g,y,g1,r,e1,λH1 ρ1 s1 h1=>?_⟩;cases y with
 |true=>exact⟨ρ1,sd,g1,b,g',r.step s1 h1,e,λH2 ρ2 s2 h2=>q H2 ρ2 (s1.trans s2) h2⟩
 |false=>cases e;exact q H1 ρ1 s1 h1⟩
theorem ZI3(ha:JT X a ta)(hb:JW X (.BoolOp .Or (b::rest) pos) tb):JW X (.BoolOp .Or (a::b::rest) pos) (dOr ta tb):=⟨(pw_or ha.h hb.h).imp λσ H Q ⟨ρ,sd,g,b,g',r,e,q⟩=>by
 obtain⟨⟨y,g1⟩,e1,e⟩:=bnd e;refine⟨ρ,sd,g,y,g1,r,e1,λH1 ρ1 s1 h1=>?_⟩;cases y with
 |false=>exact⟨ρ1,sd,g1,b,g',r.step s1 h1,e,λH2 ρ2 s2 h2=>q H2 ρ2 (s1.trans s2) h2⟩
 |true=>cases e;exact q H1 ρ1 s1 h1⟩
theorem ZJL{op}(h:JE X a da):JE X (.BoolOp op [a] pos) da:=⟨ZU7 h.h⟩
theorem ZFr(ha:JE X a da)(hb:JE X (.BoolOp .And (b::rest) pos) db):JE X (.BoolOp .And (a::b::rest) pos) (ZA3 da db):=⟨(ZUV ha.h hb.h).imp λσ H Q ⟨ρ,sd,g,x,g',r,e,q⟩=>by
 obtain⟨⟨k,g2⟩,e1,e⟩:=bnd e;obtain⟨⟨y,g1⟩,e1,e2⟩:=bnd e1;refine⟨ρ,sd,g,y,g1,r,e1,λv H1 ρ1 s1 h1 r1=>?_⟩;obtain⟨rfl,rfl⟩:=ZGd r1 e2;refine⟨k,rfl,?_⟩;cases k with
 |true=>exact⟨ρ1,sd,g1,x,g',r.step s1 h1,e,q.step s1⟩
 |false=>cases e;exact q _ H1 ρ1 s1 h1 (.dat (.bl false))⟩
theorem ZTl(ha:JE X a da)(hb:JE X (.BoolOp .Or (b::rest) pos) db):JE X (.BoolOp .Or (a::b::rest) pos) (ZOB da db):=⟨(pe_or ha.h hb.h).imp λσ H Q ⟨ρ,sd,g,x,g',r,e,q⟩=>by
 obtain⟨⟨k,g2⟩,e1,e⟩:=bnd e;obtain⟨⟨y,g1⟩,e1,e2⟩:=bnd e1;refine⟨ρ,sd,g,y,g1,r,e1,λv H1 ρ1 s1 h1 r1=>?_⟩;obtain⟨rfl,rfl⟩:=ZGd r1 e2;refine⟨k,rfl,?_⟩;cases k with
 |false=>exact⟨ρ1,sd,g1,x,g',r.step s1 h1,e,q.step s1⟩
 |true=>cases e;exact q _ H1 ρ1 s1 h1 (.dat (.bl true))⟩
theorem ZTF(ha:JE X a da):JE X (.UnaryOp .Not a pos) (ZKV da):=⟨(ZVE ha.h).imp λσ H Q ⟨ρ,sd,g,x,g',r,e,q⟩=>by
 obtain⟨⟨k,g2⟩,e1,e⟩:=mp e;obtain⟨⟨y,g1⟩,e1,e2⟩:=bnd e1;refine⟨ρ,sd,g,y,g1,r,e1,λv H1 ρ1 s1 h1 r1=>?_⟩;obtain⟨rfl,rfl⟩:=ZGd r1 e2;cases e;exact⟨k,rfl,q _ H1 ρ1 s1 h1 (.dat (.bl _))⟩⟩
theorem ZAY  : JA X [] ZC:=⟨ZQr ⟩
theorem Zh(ha:JE X e d)(hr:JA X es aa)(hs:Ya X e es:=by rfl):JA X (e::es) (ZA d aa):=⟨ZMm ha.h hr.h hs⟩
theorem ZRQ{x1}(h:JA X es aa):JE X (.Tuple es x1 pos) (dF Zd aa):=⟨(ZT6 h.h).imp λσ H Q ⟨ρ,sd,g,x,g',r,e,q⟩=>by
 obtain⟨⟨ws,g1⟩,e1,e⟩:=bnd e;refine⟨ρ,sd,g,ws,g1,r,e1,λvs H1 ρ1 s1 h1 r1=>?_⟩;obtain⟨ds,e2,e⟩:=bnd e;have rd:=ZGv r1 e2
 by_cases hz:ds.length<=1000
 .simp only[Xp hz] at e
  cases e;refine⟨by rw[rd.length];exact le_of_lt (Zt hz),λp hp=>?_⟩;obtain⟨sm,hr2,hn⟩:=ZCV (o:=.tup vs) h1 hp;exact q _ _ ρ1 (s1.trans (.same sm)) hr2 (.dat (.tup (.inl ⟨.inl Za,hn⟩) (rd.mono (.same sm))))
 .simp only[Xn hz] at e
  cases e⟩
theorem ZSI(h:JA X es aa):JE X (.List es pos) (dF ZGx aa):=⟨(ZLD h.h).imp λσ H Q ⟨ρ,sd,g,x,g',r,e,q⟩=>by
 obtain⟨⟨ws,g1⟩,e1,e⟩:=bnd e;refine⟨ρ,sd,g,ws,g1,r,e1,λvs H1 ρ1 s1 h1 r1=>?_⟩;obtain⟨ds,e2,e⟩:=bnd e;have rd:=ZGv r1 e2
 by_cases hz:ds.length<=1000
 .simp only[Xp hz] at e
  cases e;refine⟨by rw[rd.length];exact le_of_lt (Zt hz),λp hp=>?_⟩;obtain⟨sm,hr2,hn⟩:=ZCV (o:=.lst vs) h1 hp;exact q _ _ ρ1 (s1.trans (.same sm)) hr2 (.dat (.lst Za hn (rd.mono (.same sm))))
 .simp only[Xn hz] at e
  cases e⟩
theorem ZQA(h:JA X es aa):JE X (.List es pos) (dF ZCI aa):=⟨(ZLD h.h).imp λσ H Q ⟨ρ,sd,g,x,g',r,e,q⟩=>by
 obtain⟨⟨ws,g1⟩,e1,e⟩:=bnd e;refine⟨ρ,sd,g,ws,g1,r,e1,λvs H1 ρ1 s1 h1 r1=>?_⟩;obtain⟨ds,e2,e⟩:=bnd e;have rd:=ZGv r1 e2
 by_cases hz:ds.length<=1000
 .simp only[Xp hz] at e
  cases e;refine⟨by rw[rd.length];exact le_of_lt (Zt hz),λp hp=>?_⟩;obtain⟨hr2,st⟩:=h1.alloc hp rd;exact q _ _ _ (s1.trans st) hr2 (.ref (by show(ρ1.c++[p])[_]? = _;rw[<-h1.len];simp))
 .simp only[Xn hz] at e
  cases e⟩
end
variable{k:Nat}{ps:List Str}{fd:FuncData}
section
variable{X:Cx}{x:Str}{p pos:Pos}{e:Expr}{es:List Expr}{aa:DA}{id T:String}{fn:FW}
theorem Z7(hc:Zi X (.builtin id) (rF X.K fn))(hg:Gl X x)(hm:X.mg x=none)(hv:bootBuiltins x=some (.builtin id))(ha:JA X (e::es) aa)(hn:x≠"__name__":=by decide)(hdb:Yf x:=by decide)(he:Ya X e es:=by rfl)(hpl:Yb X pos es:=by rfl):JE X (.Call (.Name x p) (e::es) [] pos) (dF fn aa):=⟨(ZPa hc hg hm hv ha.h hn hdb he hpl).imp λ_ _ _ h=>ZV7 h⟩
theorem ZK7(hc:Zi X (.type T) (rF X.K fn))(hg:Gl X x)(hm:X.mg x=none)(hv:bootBuiltins x=some (.type T))(ha:JA X (e::es) aa)(hn:x≠"__name__":=by decide)(hdb:Yf x:=by decide)(he:Ya X e es:=by rfl)(hpl:Yb X pos es:=by rfl):JE X (.Call (.Name x p) (e::es) [] pos) (dF fn aa):=⟨(ZEd hc hg hm hv ha.h hn hdb he hpl).imp λ_ _ _ h=>ZV7 h⟩
theorem ZKS{st:Stmt}{f:Addr}{n:Nat}(D:Def X.K X.mg x st ps f fd)(F:FnOk X.prog X.w X.K X.mg X.base CX0 k f fd ps (spD X.K n fn))(hr:Room k X.A)(ha:JA X (e::es) aa)(hm:Many aa n)(hg:Gl X x:=by rfl)(hdb:Yf x:=by decide)(he:Ya X e es:=by rfl)(hpl:Yb X pos es:=by rfl):JE X (.Call (.Name x p) (e::es) [] pos) (dF fn aa):=⟨(pcall D F hr ha.h hg hdb he hpl).imp λσ H Q h=>by
 obtain⟨ρ,sd,g,x,g',r,e,q⟩:=h;obtain⟨⟨ws,g1⟩,e1,e⟩:=bnd e;refine⟨ρ,sd,g,ws,g1,r,e1,λvs H1 ρ1 s1 h1 r1=>?_⟩;show spD X.K n fn (vs++[]) H1 Q E0;rw[append_nil];exact⟨by rw[r1.length];exact hm.len e1,ρ1,ws,g1,x,g',h1,r1,e,q.step s1⟩⟩
theorem ZNS{st:Stmt}{f:Addr}(D:Def X.K X.mg x st ps f fd)(F:FnOk X.prog X.w X.K X.mg X.base CX0 k f fd ps (spD X.K 0 fn))(hr:Room k X.A)(hg:Gl X x:=by rfl)(hdb:Yf x:=by decide):JE X (.Call (.Name x p) [] [] pos) (dF fn ZC):=⟨(ZO8 F hr hg D.at_ D.fn.kp D.bd .nil ZMb hdb).imp λσ H Q h=>by
 obtain⟨ρ,sd,g,x,g',r,e,q⟩:=h;obtain⟨⟨ws,g1⟩,e1,e⟩:=bnd e;cases e1;exact⟨rfl,ρ,[],g,x,g',r.hr,.nil,e,q⟩⟩
end
variable{es:List Expr}{e:Expr}
section
variable{X:Cx}{pos:Pos}
theorem ZLN{i:Nat}(hN:X.N.Nodup)(hi:X.N[i]? = some x)(hx:Loc X.env.scope x)(hf:Ye X x:=by first|exact .inl rfl|exact .inr rfl|assumption):JG X (.Name x pos) (.nm i):=⟨by
 rw[gP];exact ZSH hN hi hx hf⟩
theorem ZPb{ps:Pats}(hc:X.calm=true)(h:JGs X es ps)(hn:(assignEach es X.env).length=ps.len:=by rfl)(hst:(assignEach es X.env).findIdx? (·.1)=none:=by rfl):JG X (.Tuple es k pos) (.tp ps):=⟨by
 have h:=h.h;rw[gP];exact ZUu hc h hn hst⟩
theorem ZNL  : JGs X [] .nil:=⟨by
 rw[gPs];exact ZSP⟩
theorem ZGC{p:Pat}{ps:Pats}(h1:JG X e p)(h2:JGs X es ps)(hs:(assignEach (e::es) X.env).map (·.2)=assign e X.env::(assignEach es X.env).map (·.2):=by rfl):JGs X (e::es) (.cons p ps):=⟨by
 have h1:=h1.h;have h2:=h2.h;rw[gPs];exact ZPB h1 h2 hs⟩
end
variable{pos':Pos}
section
variable{X:Cx}{pos:Pos}{st:Stmt}{rest ss:List Stmt}{a b:DS}{d:DE}{e c:Expr}{tc:DB}
theorem ZC2  : JSs X [] dNx:=⟨ZRc.imp λD σ H ⟨ρ,sd,g,o,r,e,q⟩=>by
 cases e;exact q σ H ρ .refl r⟩
theorem ZCJ(h:JS X st a):JSs X [st] a:=⟨ZTM h.h⟩
theorem ZCD(h1:JS X st a)(h2:JSs X rest b):JSs X (st::rest) (ZD a b):=⟨(ZPC h1.h h2.h).imp λD σ H ⟨ρ,sd,g,o,r,e,q⟩=>by
 obtain⟨o1,e1,e⟩:=bnd e;refine⟨ρ,sd,g,o1,r,e1,?_⟩;cases o1 with
 |nx sd1 g1=>exact λσ1 H1 ρ1 s1 r1=>⟨ρ1,sd1,g1,o,r1,e,q.step s1⟩
 |rt x g1=>cases e;exact q
 |bk _ _=>cases e;exact q
 |ct _ _=>cases e;exact q⟩
theorem ZSy{i:Nat}(hN:X.N.Nodup)(hi:X.N[i]? = some x)(hx:Loc X.env.scope x)(he:JE X e d)(hs:swapsWith e (some (.Name x pos')) pos.line X.env=pure false:=by rfl)(hf:Ye X x:=by first|exact .inl rfl|exact .inr rfl|assumption):JS X (.Assign [.Name x pos'] e pos) (ZR i d):=⟨(ZT8 hN hi hx he.h hs hf).imp λD σ H ⟨ρ,sd,g,o,r,e,q⟩=>by
 obtain⟨⟨y,g1⟩,e1,e⟩:=bnd e;cases e;exact⟨ρ,sd,g,y,g1,r,e1,λv H1 ρ1 s1 h1 r1=>q _ H1 ρ1 s1 ((r.step s1 h1).set r1 i)⟩⟩
theorem ZNK{tg:Expr}{pt:Pat}(he:JE X e d)(hg:JG X tg pt)(hs:swapsWithSole [tg] e pos.line X.env=pure false:=by rfl)(hw:swappedStores [tg] e X.env=pure none:=by rfl)(h1:(assignEach [tg] X.env).map (·.2)=[assign tg X.env]:=by rfl):JS X (.Assign [tg] e pos) (ZAB pt d):=⟨(have he:=he.h;have hg:=hg.h;(ZQ7 he hg hs hw h1).imp λD σ H ⟨ρ,sd,g,o,r,e,q⟩=>by
 obtain⟨⟨y,g1⟩,e1,e⟩:=bnd e;obtain⟨sd1,e2,e⟩:=mp e;cases e;refine⟨ρ,sd,g,y,g1,r,e1,λv H1 ρ1 s1 h1 r1=>ZH7 (f:=λ_=>true) ?_ e2 (r.step s1 h1) r1 λσ2 r2 _=>q _ H1 ρ1 s1 r2⟩;clear e2 hg;exact Pat.rec (motive_1:=λp=>p.all (λ_=>true)=true) (motive_2:=λp=>p.all (λ_=>true)=true) (λi=>by rw[Pat.all]) (λps h=>by rw[Pat.all];exact h) (by rw[Pats.all]) (λp r h1 h2=>by rw[Pats.all,h1,h2];rfl) pt)⟩
theorem ZDL(he:JE X e d):JS X (.Return (some e) pos) (ZE d):=⟨(ZVA he.h).imp λD σ H ⟨ρ,sd,g,o,r,e,q⟩=>by
 obtain⟨⟨y,g1⟩,e1,e⟩:=mp e;cases e;exact⟨ρ,sd,g,y,g1,r,e1,q⟩⟩
theorem ZQf(he:JE X e d)(hs:swapsWith e none pos.line X.env=pure false:=by rfl):JS X (.Expr e pos) (ZAT d):=⟨(ZSx he.h hs).imp λD σ H ⟨ρ,sd,g,o,r,e,q⟩=>by
 obtain⟨⟨y,g1⟩,e1,e⟩:=mp e;cases e;exact⟨ρ,sd,g,y,g1,r,e1,λv H1 ρ1 s1 h1 r1=>q σ H1 ρ1 s1 (r.step s1 h1)⟩⟩
theorem ZGQ{sa sb:List Stmt}(hc:JT X c tc)(ha:JSs X sa a)(hb:JSs X sb b):JS X (.If c sa sb pos) (Zr tc a b):=⟨(ps_if hc.h ha.h hb.h).imp λD σ H ⟨ρ,sd,g,o,r,e,q⟩=>by
 obtain⟨⟨k,g1⟩,e1,e⟩:=bnd e;refine⟨ρ,sd,g,k,g1,r,e1,λH1 ρ1 s1 h1=>?_⟩;cases k with
 |true=>exact⟨ρ1,sd,g1,o,r.step s1 h1,e,q.step s1⟩
 |false=>exact⟨ρ1,sd,g1,o,r.step s1 h1,e,q.step s1⟩⟩
end
variable{p tpos:Pos}{a:Expr}{da:DA}
section
variable{X:Cx}{tg:Expr}{pos:Pos}
theorem ZSS{l:Expr}{d:DE}(hl:JE X l d):JI X tg l (ZBY d):=⟨(ZN4 hl.h).imp λσ H R ⟨ρ,sd,g,xs,src,g',r,e,q⟩=>by
 obtain⟨⟨y,g1⟩,e1,e⟩:=bnd e;refine⟨ρ,sd,g,y,g1,r,e1,λv H1 ρ1 s1 h1 r1=>?_⟩;cases r1 with
 |ref h =>
  obtain⟨ds,e2,e⟩:=mp e;cases e;have e2:=ZFa e2;obtain⟨b,vs,e3,e4,tq⟩:=h1.at_ _ _ e2;rw[h] at e3;cases e3;exact .inl ⟨_,rfl,⟨vs,SqL.of e4⟩,q _ H1 ρ1 s1 h1 ⟨e2,ItOk.cell h⟩⟩
 |ty=>cases e
 |exc _=>cases e
 |tup _ _=>cases e
 |inp h=>cases e;exact .inl ⟨_,rfl,⟨_,h.sq⟩,q _ H1 ρ1 s1 h1 ⟨trivial,ItOk.list h RelDL.ofInts⟩⟩
 |dat h =>
  cases h with
  |tup h t=>cases e;exact .inr ⟨_,rfl,⟨_,h.sq⟩,q _ H1 ρ1 s1 h1 ⟨trivial,ItOk.tup h t⟩⟩
  |lst h n t=>cases e;exact .inl ⟨_,rfl,⟨_,SqL.of h⟩,q _ H1 ρ1 s1 h1 ⟨trivial,ItOk.list (.inl ⟨.inl h,n⟩) t⟩⟩
  |_=>cases e⟩
theorem ZLi(hg:Gl X "range")(hm:X.mg "range" = none)(ha:JA X [a] da)(hs:Yd X a:=by rfl)(hn:Many da 1):JI X tg (.Call (.Name "range" p) [a] [] pos) (ZAh da):=⟨(have ha:=ha.h;(ZOV hg hm ha hs).imp λσ H R ⟨ρ,sd,g,xs,src,g',r,e,q⟩=>by
 obtain⟨⟨ws,g1⟩,e1,e⟩:=bnd e;refine⟨ρ,sd,g,ws,g1,r,e1,λvs H1 ρ1 s1 h1 r1=>?_⟩;obtain⟨v,w,rfl,rfl,h⟩:=r1.one (hn.len e1);obtain⟨j,e2,e⟩:=bnd e;have:=ZA9 h e2;subst this
 split at e
 .rename_i hj
  cases e;exact⟨j,rfl,⋯,⋯,q _ H1 ρ1 s1 h1 ⟨trivial,ItOk.rng⟩⟩
 .cases e)⟩
theorem ZLa{b:Expr}(hg:Gl X "range")(hm:X.mg "range" = none)(ha:JA X [a,b] da)(hs:Yc X a b:=by rfl)(hs2:Yd X b:=by rfl)(hn:Many da 2):JI X tg (.Call (.Name "range" p) [a,b] [] pos) (ZAh da):=⟨(have ha:=ha.h;(ZOQ hg hm ha hs hs2).imp λσ H R ⟨ρ,sd,g,xs,src,g',r,e,q⟩=>by
 obtain⟨⟨ws,g1⟩,e1,e⟩:=bnd e;refine⟨ρ,sd,g,ws,g1,r,e1,λvs H1 ρ1 s1 h1 r1=>?_⟩;obtain⟨v,v2,w,w2,rfl,rfl,h,h2⟩:=r1.two (hn.len e1);obtain⟨i,e2,e⟩:=bnd e;obtain⟨j,e3,e⟩:=bnd e;have a1:=ZA9 h e2;have a2:=ZA9 h2 e3;subst a1 a2
 split at e
 .rename_i hj
  cases e;exact⟨i,j,rfl,⋯,q _ H1 ρ1 s1 h1 ⟨trivial,ItOk.rng⟩⟩
 .cases e)⟩
theorem ZP4(hg:Gl X "enumerate")(hm:X.mg "enumerate" = none)(ha:JA X [a] da)(hs:Yd X a:=by rfl)(hn:Many da 1):JI X (.Tuple es k tpos) (.Call (.Name "enumerate" p) [a] [] pos) (ZD3 da):=⟨(ZI0 (qb:=true) hg hm ha.h hs).imp λσ H R ⟨ρ,sd,g,xs,src,g',r,e,q⟩=>by
 obtain⟨⟨ws,g1⟩,e1,e⟩:=bnd e;refine⟨ρ,sd,g,ws,g1,r,e1,λvs H1 ρ1 s1 h1 r1=>?_⟩;obtain⟨v,w,rfl,rfl,h⟩:=r1.one (hn.len e1);obtain⟨ds,e2,e⟩:=mp e;cases e;rw[ZFu e2] at h;cases h with
 |dat h =>
  cases h with
  |tup h t=>exact⟨_,rfl,⟨_,h.sq⟩,q _ H1 ρ1 s1 h1 ⟨trivial,ItOk.enum h t⟩⟩⟩
theorem ZME{b:Expr}(hg:Gl X "zip")(hm:X.mg "zip" = none)(ha:JA X [a,b] da)(hs:Yc X a b:=by rfl)(hs2:Yd X b:=by rfl)(hn:Many da 2):JI X tg (.Call (.Name "zip" p) [a,b] [] pos) (ZJY da):=⟨(ZTv (q:=true) (qq:=true) hg hm ha.h hs hs2).imp λσ H R ⟨ρ,sd,g,xs,src,g',r,e,q⟩=>by
 obtain⟨⟨ws,g1⟩,e1,e⟩:=bnd e;refine⟨ρ,sd,g,ws,g1,r,e1,λvs H1 ρ1 s1 h1 r1=>?_⟩;obtain⟨v,v2,w,w2,rfl,rfl,h,h2⟩:=r1.two (hn.len e1);obtain⟨ds,e2,e⟩:=bnd e;obtain⟨es,e3,e⟩:=mp e;cases e;rw[ZFu e2] at h;rw[ZFu e3] at h2;cases h with
 |dat h=>cases h with
  |tup f1 t1=>cases h2 with
   |dat h2=>cases h2 with
    |tup f2 t2=>exact⟨_,_,rfl,⟨_,_,f1.sq,f2.sq⟩,q _ H1 ρ1 s1 h1 ⟨trivial,ItOk.zip f1 t1 f2 t2⟩⟩⟩
end
variable{X:Cx}
section
variable{X:Cx}{tg iter:Expr}{pos:Pos}{di:DI}{pt:Pat}{db:DS}
theorem ZTG{body:List Stmt}(hp:PassesOwn (model X.prog X.w) X.A X.env X.xe)(hc:X.calm=true)(hi:JI X tg iter di)(hg:JG X tg pt)(hb:JSs X body db)(hs:∀x,foldedSetIterable iter X.env x=pure x:=by intro _;rfl):JS X (.For tg iter body [] pos) (ZBg pt di db):=⟨(have hi:=hi.h;have hg:=hg.h;have hb:=hb.h;(ZTq hp hc hi hg hb hs).imp λD σ H ⟨ρ,sd,g,o,r,e,q⟩=>by
 obtain⟨⟨xs,src,g1⟩,e1,e⟩:=bnd e;refine⟨ρ,sd,g,xs,src,g1,r,e1,λJ H1 ρ1 s1 h1 ⟨so,it⟩=>?_⟩;refine⟨λi m σ' H'=>m=xs.length-i/\i<=xs.length/\∃ρ' sd' g',Stp ρ1 H1 ρ' H'/\Rst X.K ρ' H' σ' sd' g'/\ZAu src xs g'/\ZAA src xs pt db (xs.drop i) sd' g'=some o,⟨xs.length,rfl,zero_le _,ρ1,sd,g1,.refl,r.step s1 h1,so,e⟩,?_⟩
 rintro i m σ' H' ⟨rfl,hi,ρ',sd',g',s',r',so',e'⟩
 obtain⟨hgo,hst⟩:=(it.mono s').use r'.hr so'
 by_cases hlt:i<xs.length
 .rw[List.drop_eq_getElem_cons hlt] at e'
  rw[ZAA] at e';obtain⟨sd1,e2,e'⟩:=bnd e';obtain⟨o1,e3,e'⟩:=bnd e';obtain⟨hg1,hy⟩:=hgo i xs[i] (getElem?_eq_getElem hlt);refine .inr ⟨hg1,λσ2 H2=>∃ρ2 sd2 g2,Stp ρ1 H1 ρ2 H2/\Rst X.K ρ2 H2 σ2 sd2 g2/\ZAu src xs g2/\ZAA src xs pt db (xs.drop (i+1)) sd2 g2=some o,λσ2 H2 ⟨ρ2,sd2,g2,k1,k2,k3,k4⟩=>⟨xs.length-(i+1),⋯,rfl,hlt,ρ2,sd2,g2,k1,k2,k3,k4⟩,λv H2 y=>?_⟩;obtain⟨sm,rv⟩:=hy v H2 y;have s2:Stp ρ' H' ρ' H2:=.same sm;refine ZH7 (f:=λ_=>true) (allT pt) e2 (r'.step s2 (r'.hr.same sm)) (.dat rv) λσ3 r3 _=>⟨ρ',sd1,g',o1,r3,e3,?_⟩
  have s02:=s1.trans (s'.trans s2);cases o1 with
  |nx sd2 g2 =>
   obtain⟨so2,e4⟩:=ZCY e';exact λσ4 H4 ρ4 s4 r4=>⟨ρ4,sd2,g2,(s'.trans s2).trans s4,r4,so2,e4⟩
  |ct sd2 g2 =>
   obtain⟨so2,e4⟩:=ZCY e';exact λσ4 H4 ρ4 s4 r4=>⟨ρ4,sd2,g2,(s'.trans s2).trans s4,r4,so2,e4⟩
  |bk sd2 g2 =>
   cases e';exact ZFM.step q s02
  |rt y g2 =>
   cases e';exact ZFM.step q s02
 .have ei:i=xs.length:=⋯
  subst ei;rw[drop_length,ZAA] at e';cases e';exact .inl ⟨hst _ (le_refl _),q σ' H' ρ' (s1.trans s') r'⟩)⟩
theorem ZKb:JTs X [] ZES:=⟨ZSk.imp λσ H Q ⟨ρ,sd,g,b,g',r,e,q⟩=>by
 cases e;exact q H ρ .refl r.hr⟩
theorem ZPN{c:Expr}{d:DB}(h:JT X c d):JTs X [c] d:=⟨ZTD h.h⟩
end
section
variable{X:Cx}{tg elt iter:Expr}{ifs:List Expr}{scope sc:Scope}{pos:Pos}{di:DI}{pt:Pat}{dt:DB}{de:DE}{N NX:List Str}{own:Nat}{cap:List Nat}
theorem ZKE(hc:X.calm=true)(hi:JI X tg iter di)(hsc:X.env.scope=sc)(hNX:X.N=NX)(hb:∀cl C s0 H0 fp,JG (blk X N (compEnvC scope cl C X.env) s0 H0 fp) tg pt/\JTs (blk X N (compEnvC scope cl C X.env) s0 H0 fp) ifs dt/\JE (blk X N (compEnvC scope cl C X.env) s0 H0 fp) elt de)(co:ZHI sc scope NX N own cap=true)(hp:pt.all (λi=>decide (i<own))=true)(hs:∀x,foldedSetIterable iter X.env x=pure x:=by intro _;rfl):JE X (.ListComp elt [⟨tg,iter,ifs,0⟩] scope pos) (ZAI own cap pt di dt de):=⟨ZSV hc hi.h hsc hNX (λcl C s0 H0 fp=>⟨(hb cl C s0 H0 fp).1.h,(hb cl C s0 H0 fp).2.1.h,(hb cl C s0 H0 fp).2.2.h⟩) co hp hs⟩
theorem ZP5{i:Nat}{x:Str}{py spos:Pos}(hN:X.N.Nodup)(hi:X.N[i]? = some x)(hx:Loc X.env.scope x)(hc:X.calm=true)(hit:JI X tg iter di)(hsc:X.env.scope=sc)(hNX:X.N=NX)(hb:∀cl C s0 H0 fp,JG (blk X N (compEnvC scope cl C X.env) s0 H0 fp) tg pt/\JTs (blk X N (compEnvC scope cl C X.env) s0 H0 fp) ifs dt/\JE (blk X N (compEnvC scope cl C X.env) s0 H0 fp) elt de)(co:ZHI sc scope NX N own cap=true)(hp:pt.all (λi=>decide (i<own))=true)(hsw:swapsWith (.ListComp elt [⟨tg,iter,ifs,0⟩] scope pos) (some (.Name x py)) spos.line X.env=pure true:=by rfl)(hs:∀x,foldedSetIterable iter X.env x=pure x:=by intro _;rfl)(hf:Ye X x:=by first|exact .inl rfl|exact .inr rfl|assumption):JS X (.Assign [.Name x py] (.ListComp elt [⟨tg,iter,ifs,0⟩] scope pos) spos) (ZR i (ZAI own cap pt di dt de)):=⟨ZRr hN hi hx hc hit.h hsc hNX (λcl C s0 H0 fp=>⟨(hb cl C s0 H0 fp).1.h,(hb cl C s0 H0 fp).2.1.h,(hb cl C s0 H0 fp).2.2.h⟩) co hp hsw hs hf⟩
end
variable{p2:Pos}{o:Expr}{dl di:DE}
section
variable{X:Cx}
theorem ZP9  : JO X none ZBz:=⟨ZSi.imp λσ H Q ⟨ρ,sd,g,i,g',r,e,q⟩=>by
 cases e;exact q H ρ .refl r.hr⟩
theorem ZOe{d:DE}(h:JE X e d):JO X (some e) (ZEY d):=⟨(ZTI h.h).imp λσ H Q ⟨ρ,sd,g,i,g',r,e,q⟩=>by
 obtain⟨⟨x,g1⟩,e1,e⟩:=bnd e;refine⟨ρ,sd,g,x,g1,r,e1,λv H1 ρ1 s1 h1 r1=>?_⟩;cases r1 with
 |dat r1 =>
  cases r1 with
  |int j=>cases e;exact⟨j,rfl,q H1 ρ1 s1 h1⟩
  |_=>cases e
 |_=>cases e⟩
theorem ZUM{lo hi:Option Expr}{d:DE}{l h:DO}(he:JE X e d)(hl:JO X lo l)(hh:JO X hi h):JE X (.Subscript e (.Slice lo hi none p2) pos) (dSl d l h):=⟨(ZQU ZVq he.h hl.h hh.h).imp λσ H Q ⟨ρ,sd,g,x,g',r,e,q⟩=>by
 obtain⟨⟨y,g1⟩,e1,e⟩:=bnd e;obtain⟨⟨i,g2⟩,e2,e⟩:=bnd e;obtain⟨⟨j,g3⟩,e3,e⟩:=bnd e;refine⟨ρ,sd,g,y,g1,r,e1,λv H1 ρ1 s1 h1 r1=>⟨ρ1,sd,g1,i,g2,r.step s1 h1,e2,λH2 ρ2 s2 h2=>⟨ρ2,sd,g2,j,g3,r.step (s1.trans s2) h2,e3,λH3 ρ3 s3 h3=>?_⟩⟩⟩;exact⟨ρ3,y,g3,x,g',h3,r1.mono (s2.trans s3),e,q.step (s1.trans (s2.trans s3))⟩⟩
theorem ZDG{n:String}(hg:Gl X x)(hm:X.mg x=none)(hv:bootBuiltins x=some (.type n))(hn:x≠"__name__":=by decide)(hd:Yf x:=by decide):JE X (.Name x pos) (λ_ g=>some (.ty n,g)):=⟨(ZRt (v:=.ty n) hg hm hv rfl hn hd).imp λσ H Q ⟨ρ,sd,g,y,g',hr,e,q⟩=>by
 cases e;exact q _ H ρ .refl hr.hr .ty⟩
theorem ZSa{da:DE}(ha:JE X a da):JE X (.UnaryOp .USub a pos) (dUn (λw g=>match w with|.dat (.int i)=>some (.dat (.int (-i)),g)|_=>none) da):=⟨(pe_un ZU0 ha.h).imp λσ H Q ⟨ρ,sd,g,y,g',r,e,q⟩=>by
 obtain⟨⟨x,g1⟩,e1,e⟩:=bnd e;refine⟨ρ,sd,g,x,g1,r,e1,λv H1 ρ1 s1 h1 r1=>?_⟩;cases r1 with
 |dat r1 =>
  cases r1 with
  |int j=>cases e;exact⟨j,rfl,q _ H1 ρ1 s1 h1 (.dat (.int _))⟩
  |_=>cases e
 |_=>cases e⟩
theorem ZSo{d:DE}{apos cpos:Pos}(ho:JE X o dl)(he:JE X e d)(hbase:attributeBase o "append" X.env (eval o X.env)=eval o X.env:=by rfl)(hfew:((backTo cpos (starEach [e] X.env)).all (λx=>!x.1) && (backToKw cpos (keywordEach [] X.env)).all (λx=>x.1.isSome)
   && decide ([e].length+([]:List Keyword).length+(if ([]:List Keyword).isEmpty then 0 else 1)<30))=true:=by rfl) (hline:(apos.endLine == cpos.line)=true:=by rfl) (hs:Ya X e []:=by rfl) (hplain:Yb X cpos []:=by rfl):JE X (.Call (.Attribute o "append" apos) [e] [] cpos) (ZDy dl d):=⟨(pe_bm PySem.F.plainAttrs_list PySem.F.slot_list_append PySem.F.type_list_append ZHe ho.h (ZMm he.h ZQr hs) hbase hfew hline hs hplain).imp λσ H Q ⟨ρ,sd,g,x,g',r,e,q⟩=>by
 obtain⟨⟨y,g1⟩,e1,e⟩:=bnd e;refine⟨ρ,sd,g,y,g1,r,e1,λv H1 ρ1 s1 h1 r1=>?_⟩;cases r1 with
 |@ref la ln hn =>
  dsimp only at e
  split at e
  case isFalse=>cases e
  rename_i hil
  obtain⟨⟨p,g2⟩,e2,e⟩:=bnd e;have rich:∀{H2:Hp} {ρ2:Rh} {v2:V} {ws:List W},Stp ρ1 H1 ρ2 H2->HR X.K ρ2 H2 g2->Rel X.K ρ2 H2 v2 p->g2[ln]? = some (.rl ws)->(if ws.length<1000 then some (W.dat .none,g2.set ln (.rl (ws++[p]))) else none)=some (x,g')->∃us,H2 la=some (.lst us)/\us.length<sizeLine/\Q .non (upd H2 la (.lst (us++[v2]))):=λ{H2 ρ2 v2 ws} s2 h2 r2 e3 e=>by
   split at e
   .rename_i hz
    cases e;obtain⟨a',k1,us,k2,k3⟩:=h2.ce _ _ e3;have hn2:=ZER s2 hn;rw[hn2] at k1;cases k1;obtain⟨hw,sw⟩:=h2.writeC hn2 (o:=.lst (us++[v2])) (c:=.rl (ws++[p])) (λu e=>by rw[k2] at e;cases e;rfl) (λs=>⟨_,Za,(k3.append (.cons r2 .nil)).mono s⟩);exact⟨us,k2,by rw[k3.length];exact Zt ⋯,q _ _ ρ2 (s1.trans (s2.trans sw)) hw (.dat .non)⟩
   .cases e
  have plain:∀{H2:Hp} {ρ2:Rh} {v2:V} {d:PyData} {ds:List PyData},Stp ρ1 H1 ρ2 H2->HR X.K ρ2 H2 g2->RelD X.K ρ2 H2 v2 d->g2[ln]? = some (.pl ds)->(if ds.length<1000 then some (W.dat .none,g2.set ln (.pl (ds++[d]))) else none)=some (x,g')->∃us,H2 la=some (.lst us)/\us.length<sizeLine/\Q .non (upd H2 la (.lst (us++[v2]))):=λ{H2 ρ2 v2 d ds} s2 h2 r2 e3 e=>by
   split at e
   .rename_i hz
    cases e;obtain⟨a',us,k1,k2,k3⟩:=h2.at_ _ _ e3;have hn2:=ZER s2 hn;rw[hn2] at k1;cases k1;obtain⟨hw,sw⟩:=h2.write hn2 k2 (k3.append (.cons r2 .nil));exact⟨us,k2,by rw[k3.length];exact Zt ⋯,q _ _ ρ2 (s1.trans (s2.trans sw)) hw (.dat .non)⟩
   .cases e
  have both:∀{H2:Hp} {ρ2:Rh} {v2:V},Stp ρ1 H1 ρ2 H2->HR X.K ρ2 H2 g2->Rel X.K ρ2 H2 v2 p->∃us,H2 la=some (.lst us)/\us.length<sizeLine/\Q .non (upd H2 la (.lst (us++[v2]))):=λ{H2 ρ2 v2} s2 h2 r2=>by
   have rest:∀{w},p=w->(match g2[ln]? with|some (.rl ws)=>if ws.length<1000 then some (W.dat .none,g2.set ln (.rl (ws++[w]))) else none|_=>none)=some (x,g')->∃us,H2 la=some (.lst us)/\us.length<sizeLine/\Q .non (upd H2 la (.lst (us++[v2]))):=λ{w} ew e=>by
    split at e
    .rename_i ws e3
     exact rich s2 h2 r2 e3 (by rw[ew];exact e)
    .cases e
   cases p with
   |dat d =>
    dsimp only at e;cases r2 with
    |dat r2 =>
     split at e
     .rename_i ds e3
      exact plain s2 h2 r2 e3 e
     .rename_i ws e3
      exact rich s2 h2 (.dat r2) e3 e
     .cases e
   |ref n=>exact rest rfl e
   |inp n=>exact rest rfl e
   |ty n=>exact rest rfl e
   |exc n m=>exact rest rfl e
   |tup n=>exact rest rfl e
  obtain⟨us0,h0⟩:=ZUT hil h1 hn;refine⟨.inl ⟨rfl,_,SqL.of h0⟩,ρ1,sd,g1,[p],g2,r.step s1 h1,by show(d sd g1).bind _=_;rw[e2];rfl,λvs H2 ρ2 s2 h2 r2=>?_⟩;cases r2 with
  |cons r2 t =>
   cases t;obtain⟨us,k1,k2,k3⟩:=both s2 h2 r2;exact⟨_,us,_,rfl,rfl,k1,k2,k3⟩
 |dat r1=>cases r1 <;> cases e
 |_=>cases e⟩
theorem ZRH{i:Expr}{d:DE}(he:JE X e d)(ho:JE X o dl)(hi:JE X i di)(ha:∀v,assign (.Subscript o i tpos) X.env v=(do
   let ov <-holding [v] (eval o X.env)
   let iv <-holding [v,ov] (eval i X.env)
   standAt tpos
   holding [v,ov,iv] (setItem ov iv v)
   release [v,ov,iv] []):=by intro _;rfl) (hs:swapsWithSole [.Subscript o i tpos] e pos.line X.env=pure false:=by rfl) (hw:swappedStores [.Subscript o i tpos] e X.env=pure none:=by rfl) (h1:(assignEach [.Subscript o i tpos] X.env).map (·.2)=[assign (.Subscript o i tpos) X.env]:=by rfl):JS X (.Assign [.Subscript o i tpos] e pos) (ZGK dl di d):=⟨(ZQ7 he.h (ZUZ ho.h hi.h ZQN ha) hs hw h1).imp λD σ H ⟨ρ,sd,g,oo,r,e,q⟩=>by
 obtain⟨⟨y,g1⟩,e1,e⟩:=bnd e;obtain⟨⟨l,g2⟩,e2,e⟩:=bnd e;obtain⟨⟨k,g3⟩,e3,e⟩:=bnd e;refine⟨ρ,sd,g,y,g1,r,e1,λv H1 ρ1 s1 h1 r1=>⟨ρ1,sd,g1,l,g2,r.step s1 h1,e2,λu H2 ρ2 s2 h2 r2=>⟨ρ2,sd,g2,k,g3,r.step (s1.trans s2) h2,e3,λt H3 ρ3 s3 h3 r3=>?_⟩⟩⟩;have r1':=(r1.mono s2).mono s3;have r2':=r2.mono s3;have sall:=s1.trans (s2.trans s3);cases r2' with
 |@ref la ln hn =>
  cases r3 with
  |dat r3 =>
   cases r3 with
   |int kk =>
    have rich:∀{ws:List W},g3[ln]? = some (.rl ws)->((ixN ws.length kk).map λj=>Out.nx sd (g3.set ln (.rl (ws.set j y))))=some oo->∃p xs k n,V.ref la=V.ref p/\V.int kk=V.int k/\H3 p=some (.lst xs)/\ixN xs.length k=some n/\D.nx σ (upd H3 p (.lst (xs.set n v))):=λ{ws} e4 e=>by
     obtain⟨j,e5,e⟩:=mp e;cases e;obtain⟨a',k1,us,k2,k3⟩:=h3.ce _ _ e4;rw[hn] at k1;cases k1;obtain⟨hw,sw⟩:=h3.writeC hn (o:=.lst (us.set j v)) (c:=.rl (ws.set j y)) (λu e=>by rw[k2] at e;cases e;rfl) (λs=>⟨_,Za,(k3.set r1' j).mono s⟩);exact⟨_,us,kk,j,rfl,rfl,k2,by rw[k3.length];exact e5,q σ _ ρ3 (sall.trans sw) (r.step (sall.trans sw) hw)⟩
    have rest:∀{w},y=w->(match g3[ln]? with|some (.rl ws)=>((ixN ws.length kk).map λj=>Out.nx sd (g3.set ln (.rl (ws.set j w))))|_=>none)=some oo->∃p xs k n,V.ref la=V.ref p/\V.int kk=V.int k/\H3 p=some (.lst xs)/\ixN xs.length k=some n/\D.nx σ (upd H3 p (.lst (xs.set n v))):=λ{w} ew e=>by
     split at e
     .rename_i ws e4
      exact rich e4 (by rw[ew];exact e)
     .cases e
    cases y with
    |dat d =>
     dsimp only at e
     split at e
     .rename_i ds e4
      obtain⟨j,e5,e⟩:=mp e;cases e;obtain⟨a',us,k1,k2,k3⟩:=h3.at_ _ _ e4;rw[hn] at k1;cases k1;cases r1' with
      |dat r1' =>
       obtain⟨hw,sw⟩:=h3.write hn k2 (k3.set r1' j);exact⟨_,us,kk,j,rfl,rfl,k2,by rw[k3.length];exact e5,q σ _ ρ3 (sall.trans sw) (r.step (sall.trans sw) hw)⟩
     .rename_i ws e4
      exact rich e4 e
     .cases e
    |ref n=>exact rest rfl e
    |inp n=>exact rest rfl e
    |ty n=>exact rest rfl e
    |exc n m=>exact rest rfl e
    |tup n=>exact rest rfl e
   |_=>cases e
  |_=>cases e
 |dat r2=>cases e
 |_=>cases e⟩
theorem ZST{i:Nat}{d:DE}(hN:X.N.Nodup)(hi:X.N[i]? = some x)(hx:Loc X.env.scope x)(he:JE X e d)(hf:Ye X x:=by first|exact .inl rfl|exact .inr rfl|assumption):JS X (.AugAssign (.Name x pos') .Add e pos) (ZG1 i d):=⟨(ZPi hN hi hx he.h ZTn hf).imp λD σ H ⟨ρ,sd,g,oo,r,e,q⟩=>by
 unfold ZG1 at e;cases h:sd.getD i none with
 |none=>rw[h] at e;cases e
 |some w =>
  rw[h] at e;have h':sd[i]? = some (some w):=by
   rw[Xq] at h;cases k:sd[i]? with
   |none=>rw[k] at h;cases h
   |some w=>rw[k] at h;exact congrArg some h
  obtain⟨v,h1,h2⟩:=r.env i w h';refine⟨v,h1,?_⟩;cases h2 with
  |dat h2 =>
   cases h2 with
   |int a =>
    obtain⟨⟨y,g1⟩,e1,e⟩:=bnd e;refine⟨ρ,sd,g,y,g1,r,e1,λv H1 ρ1 s1 h1 r1=>?_⟩;cases r1 with
    |dat r1 =>
     cases r1 with
     |int b=>cases e;exact⟨a,b,rfl,rfl,q _ H1 ρ1 s1 ((r.step s1 h1).set (.dat (.int _)) i)⟩
     |_=>cases e
    |_=>cases e
   |_=>cases e
  |_=>cases e⟩
end
variable{w:World}{mg:Yj}{base:Heap}{m:Nat}{r:FW}
theorem ZFm{P:Program}{qual:Str}{st:Stmt}{f:Addr}{N:List Str}{n:Nat}{d:DS}(e:r=Zg n d)(hn:N.length=n)(hm:ps.length=m)(F:Fun K x qual st f fd)(S:FnScope N ps (ZM st))
  (hb:∀(cdv:Value) (A:Around) (outer:List Env) (s:Shared) (H:Hp) (E:XK),Room k (A.deeper (envOfC qual (ZM st) s⁻¹ f cdv))->JSs (ZFv CX0 P w K mg base N qual (ZM st) f cdv A outer s H E).nox (ZAC st) d) :
  FnOk P w K mg base CX0 (k+1) f fd ps (spD K m r):=by
 subst e hn hm;exact ZVF F S λcdv A outer s H E hr=>(hb cdv A outer s H E hr).h
theorem ZRu{a b c:Int}{j1 j2}{p1:Pos}(hc:ZWE a b)(h:a ^ b.toNat=c):JE X (.BinOp (.Constant (.int a) j1 p1) .Pow (.Constant (.int b) j2 p2) pos) (dI c):=⟨(ZTQ ZUv ZLH ZLH).imp λσ H Q ⟨ρ,sd,g,x,g',r,e,q⟩=>by
 cases e;exact⟨a,b,rfl,rfl,hc,by show Q (.int (a ^ b.toNat)) H;rw[h];exact q _ H ρ .refl r.hr (.dat (.int _))⟩⟩
noncomputable def negW:W->G->Option (W×G):=λw g=>match w with|.dat (.int i)=>some (.dat (.int (-i)),g)|_=>none
structure EvP {α:Type} (o:Option (α×G)) (P : α->G->Prop):Prop where
 h:∃x g,o=some (x,g)/\P x g
section
variable{α:Type}{P : α->G->Prop}{g:G}
theorem ZBU{x:α}(h:P x g):EvP (some (x,g)) P:=⟨x,g,rfl,h⟩
theorem ZGe{o:Option (α×G)}{x:α}(e:o=some (x,g))(h:P x g):EvP o P:=⟨x,g,e,h⟩
theorem ZCU{c:Prop}[Decidable c]{A B:Option (α×G)}(h:c)(h1:EvP A P):EvP (if c then A else B) P:=by rw[Xp h];exact h1
theorem ZJB{β:Type}{o:Option β}{y:β}{f:β->α×G}{x:α}(e:o=some y)(e2:f y=(x,g))(h:P x g):EvP (o.map f) P:=by
 subst e;exact⟨x,g,congrArg some e2,h⟩
end
variable{PO':Option Int->G->Prop}{PI':List PyData->Option Nat->G->Prop}{xs:Qd}{src:Option Nat}{dt:DB}{de:DE}
section
variable{sd:Sd}{g:G}{da db dc d:DE}{ta tb:DB}{aa:DA}{f f':W->W->G->Option (W×G)}{P:W->G->Prop}{PB:Bool->G->Prop}{PA':List W->G->Prop}
theorem ZNH{i:Nat}{x:W}(e:sd.getD i none=some x)(h:P x g):EvP (ZB i sd g) P:=⟨x,g,by unfold ZB;rw[e],h⟩
theorem x_c{d:PyData}(h:P (.dat d) g):EvP (dC d sd g) P:=⟨_,_,rfl,h⟩
theorem x_op(h:EvP (da sd g) λx g1=>EvP (db sd g1) λy g2=>EvP (f x y g2) P):EvP (dOp f da db sd g) P:=by
 obtain⟨x,g1,e1,y,g2,e2,z,g3,e3,h⟩:=h;exact⟨z,g3,by unfold dOp;rw[e1];show(db sd g1).bind _=_;rw[e2];exact e3,h⟩
theorem x_un{fu:W->G->Option (W×G)}(h:EvP (da sd g) λx g1=>EvP (fu x g1) P):EvP (dUn fu da sd g) P:=by
 obtain⟨x,g1,e1,z,g3,e3,h⟩:=h;exact⟨z,g3,by unfold dUn;rw[e1];exact e3,h⟩
structure asB (PB:Bool->G->Prop) (x:W) (g:G):Prop where
 h:∃b,x=.dat (.bool b)/\PB b g
theorem ZV8{b:Bool}(h:PB b g):asB PB (.dat (.bool b)) g:=⟨b,rfl,h⟩
theorem x_b(h:EvP (d sd g) (asB PB)):EvP (dB d sd g) PB:=by
 obtain⟨x,g1,e1,b,rfl,h⟩:=h;exact⟨b,g1,by unfold dB;rw[e1];rfl,h⟩
theorem x_not(h:EvP (ta sd g) λb g1=>PB (!b) g1):EvP (ZDJ ta sd g) PB:=by
 obtain⟨x,g1,e1,h⟩:=h;exact⟨_,g1,by unfold ZDJ;rw[e1];rfl,h⟩
theorem x_and(h:EvP (ta sd g) λb g1=>(b=true->EvP (tb sd g1) PB)/\(b=false->PB false g1)):EvP (ZCX ta tb sd g) PB:=by
 obtain⟨x,g1,e1,h1,h2⟩:=h;cases x with
 |true =>
  obtain⟨y,g2,e2,h⟩:=h1 rfl;exact⟨y,g2,by unfold ZCX;rw[e1];exact e2,h⟩
 |false=>exact⟨false,g1,by unfold ZCX;rw[e1];rfl,h2 rfl⟩
theorem x_or(h:EvP (ta sd g) λb g1=>(b=true->PB true g1)/\(b=false->EvP (tb sd g1) PB)):EvP (dOr ta tb sd g) PB:=by
 obtain⟨x,g1,e1,h1,h2⟩:=h;cases x with
 |false =>
  obtain⟨y,g2,e2,h⟩:=h2 rfl;exact⟨y,g2,by unfold dOr;rw[e1];exact e2,h⟩
 |true=>exact⟨true,g1,by unfold dOr;rw[e1];rfl,h1 rfl⟩
theorem ZT0(h:EvP (da sd g) (asB λb g1=>(b=true->EvP (db sd g1) P)/\(b=false->P (.dat (.bool false)) g1))):EvP (ZA3 da db sd g) P:=by
 obtain⟨x,g1,e1,b,rfl,h1,h2⟩:=h;cases b with
 |true =>
  obtain⟨y,g2,e2,h⟩:=h1 rfl;exact⟨y,g2,by unfold ZA3;rw[e1];exact e2,h⟩
 |false=>exact⟨_,g1,by unfold ZA3;rw[e1];rfl,h2 rfl⟩
theorem x_orV(h:EvP (da sd g) (asB λb g1=>(b=true->P (.dat (.bool true)) g1)/\(b=false->EvP (db sd g1) P))):EvP (ZOB da db sd g) P:=by
 obtain⟨x,g1,e1,b,rfl,h1,h2⟩:=h;cases b with
 |false =>
  obtain⟨y,g2,e2,h⟩:=h2 rfl;exact⟨y,g2,by unfold ZOB;rw[e1];exact e2,h⟩
 |true=>exact⟨_,g1,by unfold ZOB;rw[e1];rfl,h1 rfl⟩
theorem ZLC(h:EvP (da sd g) (asB λb g1=>P (.dat (.bool !b)) g1)):EvP (ZKV da sd g) P:=by
 obtain⟨x,g1,e1,b,rfl,h⟩:=h;exact⟨_,g1,by unfold ZKV;rw[e1];rfl,h⟩
theorem x_nil(h:PA' [] g):EvP (ZC sd g) PA':=⟨_,_,rfl,h⟩
theorem ZVZ(h:EvP (d sd g) λx g1=>EvP (aa sd g1) λxs g2=>PA' (x::xs) g2):EvP (ZA d aa sd g) PA':=by
 obtain⟨x,g1,e1,y,g2,e2,h⟩:=h;exact⟨_,g2,by unfold ZA;rw[e1];show(aa sd g1).map _=_;rw[e2];rfl,h⟩
theorem x_f{fn:FW}(h:EvP (aa sd g) λxs g1=>EvP (fn xs g1) P):EvP (dF fn aa sd g) P:=by
 obtain⟨x,g1,e1,y,g2,e2,h⟩:=h;exact⟨y,g2,by unfold dF;rw[e1];exact e2,h⟩
theorem ZRb(h:EvP (da sd g) λx g1=>EvP (db sd g1) λy g2=>EvP (f x y g2) (asB λb g3=>(b=true->EvP (dc sd g3) λz g4=>EvP (f' y z g4) P)/\(b=false->P (.dat (.bool false)) g3))):EvP (ZDu f f' da db dc sd g) P:=by
 obtain⟨x,g1,e1,y,g2,e2,z,g3,e3,b,rfl,h1,h2⟩:=h;cases b with
 |true =>
  obtain⟨u,g4,e4,v,g5,e5,h⟩:=h1 rfl;exact⟨v,g5,by unfold ZDu;rw[e1];show(db sd g1).bind _=_;rw[e2];show(f x y g2).bind _=_;rw[e3];show(dc sd g3).bind _=_;rw[e4];exact e5,h⟩
 |false=>exact⟨_,g3,by unfold ZDu;rw[e1];show(db sd g1).bind _=_;rw[e2];show(f x y g2).bind _=_;rw[e3];rfl,h2 rfl⟩
theorem ZPH(h:PO' none g):EvP (ZBz sd g) PO':=⟨_,_,rfl,h⟩
structure asI (PO':Option Int->G->Prop) (x:W) (g:G):Prop where
 h:∃i,x=.dat (.int i)/\PO' (some i) g
theorem as_i(h:PO' (some i) g):asI PO' (.dat (.int i)) g:=⟨i,rfl,h⟩
theorem ZUg(h:EvP (d sd g) (asI PO')):EvP (ZEY d sd g) PO':=by
 obtain⟨x,g1,e1,i,rfl,h⟩:=h;exact⟨some i,g1,by unfold ZEY;rw[e1];rfl,h⟩
theorem x_sl{l u:DO}(h:EvP (d sd g) λx g1=>EvP (l sd g1) λi g2=>EvP (u sd g2) λj g3=>EvP (slO x i j g3) P):EvP (dSl d l u sd g) P:=by
 obtain⟨x,g1,e1,i,g2,e2,j,g3,e3,z,g4,e4,h⟩:=h;exact⟨z,g4,by unfold dSl;rw[e1];show(l sd g1).bind _=_;rw[e2];show(u sd g2).bind _=_;rw[e3];exact e4,h⟩
structure EvI (o:Option (List PyData×Option Nat×G)) (P:List PyData->Option Nat->G->Prop):Prop where
 h:∃xs src g,o=some (xs,src,g)/\P xs src g
theorem ZTp(h:PI' xs src g):EvI (some (xs,src,g)) PI':=⟨_,_,_,rfl,h⟩
theorem i_of{o:Option (List PyData×Option Nat×G)}(e:o=some (xs,src,g))(h:PI' xs src g):EvI o PI':=⟨_,_,_,e,h⟩
theorem ZVt(h:EvP (d sd g) λx g1=>EvI (ZNF x g1) PI'):EvI (ZBY d sd g) PI':=by
 obtain⟨x,g1,e1,xs,src,g2,e2,h⟩:=h;exact⟨xs,src,g2,by unfold ZBY;rw[e1];exact e2,h⟩
theorem ZAt{j:Int}{g1:G}(h:EvP (aa sd g) λws g1=>∃j:Int,ws=[.dat (.int j)]/\(j<=1000/\-1000<=j)/\PI' (ZDx j.toNat 0) none g1):EvI (ZAh aa sd g) PI':=by
 obtain⟨ws,g1,e1,j,rfl,hj,h⟩:=h;exact⟨_,_,g1,by unfold ZAh;rw[e1];exact Xp hj,h⟩
theorem ZRU(h:EvP (aa sd g) λws g1=>∃ds:List PyData,ws=[.dat (.tuple ds)]/\PI' (ZBn 0 ds) none g1):EvI (ZD3 aa sd g) PI':=by
 obtain⟨ws,g1,e1,j,rfl,h⟩:=h;exact⟨_,_,g1,by unfold ZD3;rw[e1];rfl,h⟩
theorem ZVk(h:EvP (aa sd g) λws g1=>∃ds es:List PyData,ws=[.dat (.tuple ds),.dat (.tuple es)]/\PI' (ZCt ds es) none g1):EvI (ZJY aa sd g) PI':=by
 obtain⟨ws,g1,e1,j,k,rfl,h⟩:=h;exact⟨_,_,g1,by unfold ZJY;rw[e1];rfl,h⟩
theorem ZUU{own:Nat}{cap:List Nat}{pt:Pat}{di:DI}(h:EvI (di sd g) λxs src g1=>xs.length<=20000/\EvP (ZBM src xs pt dt de (ZOU own cap sd) xs g1) λys g2=>P (.dat (.list ys)) g2):EvP (ZAI own cap pt di dt de sd g) P:=by
 obtain⟨xs,src,g1,e1,hl,ys,g2,e2,h⟩:=h;refine⟨_,g2,?_,h⟩;unfold ZAI;rw[e1];show(if xs.length<=20000 then _ else _)=_;rw[Xp hl];show(ZBM src xs pt dt de (ZOU own cap sd) xs g1).map _=_;rw[e2];rfl
structure EvS (o:Option Out) (P:Out->Prop):Prop where
 h:∃x,o=some x/\P x
variable{PS':Out->Prop}{a b:DS}
inductive seqP (b:DS) (P:Out->Prop):Out->Prop
 |nx {sd:Sd} {g:G}:EvS (b sd g) P->seqP b P (.nx sd g)
 |rt {x:W} {g:G}:P (.rt x g)->seqP b P (.rt x g)
 |bk {sd:Sd} {g:G}:P (.bk sd g)->seqP b P (.bk sd g)
 |ct {sd:Sd} {g:G}:P (.ct sd g)->seqP b P (.ct sd g)
theorem ZKw(h:EvS (b sd g) PS'):seqP b PS' (.nx sd g):=.nx h
theorem ZUG{x:W}(h:PS' (.rt x g)):seqP b PS' (.rt x g):=.rt h
theorem ZQ6(h:EvS (a sd g) (seqP b PS')):EvS (ZD a b sd g) PS':=by
 obtain⟨o,e,h⟩:=h;cases h with
 |nx h =>
  obtain⟨o,e2,h⟩:=h;exact⟨o,by unfold ZD;rw[e];exact e2,h⟩
 |rt h=>exact⟨_,by unfold ZD;rw[e];rfl,h⟩
 |bk h=>exact⟨_,by unfold ZD;rw[e];rfl,h⟩
 |ct h=>exact⟨_,by unfold ZD;rw[e];rfl,h⟩
theorem ZTk(h:PS' (.nx sd g)):EvS (dNx sd g) PS':=⟨_,rfl,h⟩
theorem x_set{i:Nat}(h:EvP (d sd g) λx g1=>PS' (.nx (sd.set i (some x)) g1)):EvS (ZR i d sd g) PS':=by
 obtain⟨x,g1,e,h⟩:=h;exact⟨_,by unfold ZR;rw[e];rfl,h⟩
theorem x_asg{pt:Pat}(h:EvP (d sd g) λx g1=>∃sd1,Zs pt x sd=some sd1/\PS' (.nx sd1 g1)):EvS (ZAB pt d sd g) PS':=by
 obtain⟨x,g1,e,sd1,e1,h⟩:=h;exact⟨_,by unfold ZAB;rw[e];show(Zs pt x sd).map _=_;rw[e1];rfl,h⟩
theorem x_ret(h:EvP (d sd g) λx g1=>PS' (.rt x g1)):EvS (ZE d sd g) PS':=by
 obtain⟨x,g1,e,h⟩:=h;exact⟨_,by unfold ZE;rw[e];rfl,h⟩
theorem ZP8(h:EvP (d sd g) λx g1=>PS' (.nx sd g1)):EvS (ZAT d sd g) PS':=by
 obtain⟨x,g1,e,h⟩:=h;exact⟨_,by unfold ZAT;rw[e];rfl,h⟩
theorem x_ifS(h:EvP (ta sd g) λk g1=>(k=true->EvS (a sd g1) PS')/\(k=false->EvS (b sd g1) PS')):EvS (Zr ta a b sd g) PS':=by
 obtain⟨k,g1,e,h1,h2⟩:=h;cases k with
 |true =>
  obtain⟨o,e2,h⟩:=h1 rfl;exact⟨o,by unfold Zr;rw[e];exact e2,h⟩
 |false =>
  obtain⟨o,e2,h⟩:=h2 rfl;exact⟨o,by unfold Zr;rw[e];exact e2,h⟩
theorem x_for{pt:Pat}{di:DI}(h:EvI (di sd g) λxs src g1=>EvS (ZAA src xs pt b xs sd g1) PS'):EvS (ZBg pt di b sd g) PS':=by
 obtain⟨xs,src,g1,e1,o,e2,h⟩:=h;exact⟨o,by unfold ZBg;rw[e1];exact e2,h⟩
theorem ZPP{i:Nat}{k:Int}(hk:sd.getD i none=some (.dat (.int k)))(h:EvP (d sd g) λx g1=>∃j,x=.dat (.int j)/\PS' (.nx (sd.set i (some (.dat (.int (k+j))))) g1)):EvS (ZG1 i d sd g) PS':=by
 obtain⟨x,g1,e,j,rfl,h⟩:=h;exact⟨_,by unfold ZG1;rw[hk];show(d sd g).bind _=_;rw[e];rfl,h⟩
theorem ZTW(h:EvP (dl sd g) λl g1=>∃n,l=.ref n/\isL g1 n=true/\EvP (d sd g1) λx g2=>∃y,x=.dat y/\∃ds,g2[n]? = some (.pl ds)/\ds.length<1000/\P (.dat .none) (g2.set n (.pl (ds++[y])))):EvP (ZDy dl d sd g) P:=by
 obtain⟨l,g1,e1,n,rfl,hil,x,g2,e2,y,rfl,ds,e3,hl,h⟩:=h;refine⟨_,_,?_,h⟩;unfold ZDy;rw[e1];show(if isL g1 n=true then _ else _)=_;rw[Xp hil];show(d sd g1).bind _=_;rw[e2];show(match g2[n]? with|some (.pl ds)=>_|some (.rl ws)=>_|_=>_)=_;rw[e3];exact Xp hl
theorem ZTb(h:EvP (d sd g) λv g1=>∃x,v=.dat x/\EvP (dl sd g1) λl g2=>∃n,l=.ref n/\EvP (di sd g2) λi g3=>∃k,i=.dat (.int k)/\∃ds,g3[n]? = some (.pl ds)/\∃j,ixN ds.length k=some j/\PS' (.nx sd (g3.set n (.pl (ds.set j x))))):EvS (ZGK dl di d sd g) PS':=by
 obtain⟨v,g1,e1,x,rfl,l,g2,e2,n,rfl,i,g3,e3,k,rfl,ds,e4,j,e5,h⟩:=h;refine⟨_,?_,h⟩;unfold ZGK;rw[e1];show(dl sd g1).bind _=_;rw[e2];show(di sd g2).bind _=_;rw[e3];show(match g3[n]? with|some (.pl ds)=>_|some (.rl ws)=>_|_=>_)=_;rw[e4];show(ixN ds.length k).map _=_;rw[e5];rfl
end
inductive runP (P:W->G->Prop):Out->Prop
 |rt {x:W} {g':G}:P x g'->runP P (.rt x g')
 |nx {sd:Sd} {g':G}:P (.dat .none) g'->runP P (.nx sd g')
variable{g':G}
theorem ZO3{x:W}{P:W->G->Prop}(h:P x g'):runP P (.rt x g'):=.rt h
variable{sd:Sd}
theorem ZT2{P:W->G->Prop}(h:P (.dat .none) g'):runP P (.nx sd g'):=.nx h
theorem ZQV{n:Nat}{d:DS}{ws:List W}{P:W->G->Prop}(h:EvS (d (ws.map some++List.replicate (n-ws.length) none) g) (runP P)):EvP (Zg n d ws g) P:=by
 obtain⟨o,e,h⟩:=h;unfold Zg;rw[e];cases h with
 |rt h=>exact⟨_,_,rfl,h⟩
 |nx h=>exact⟨_,_,rfl,h⟩
def stepP(src:Option Nat)(xs:List PyData)(I:Sd->G->Prop)(P:Out->Prop):Out->Prop
 |.nx sd g=>ZAu src xs g/\I sd g
 |.ct sd g=>ZAu src xs g/\I sd g
 |.bk sd g=>P (.nx sd g)
 |.rt x g=>P (.rt x g)
variable{α:Type}
theorem ZBP{k:Option α}(h:ZAu src xs g):ZBo src xs g k=k:=by
 unfold ZBo;cases src with
 |none=>rfl
 |some n=>exact Xp h
theorem ZBZ{pt:Pat}{db:DS}{P:Out->Prop}(I:Nat->Sd->G->Prop)(h0:I 0 sd g)
  (hs:∀i x sd g,xs[i]? = some x->I i sd g->∃sd1,Zs pt (.dat x) sd=some sd1/\EvS (db sd1 g) (stepP src xs (I (i+1)) P))(hd:∀sd g,I xs.length sd g->P (.nx sd g)):EvS (ZAA src xs pt db xs sd g) P:=by
 have go:∀(k i:Nat) sd g,i+k=xs.length->I i sd g->EvS (ZAA src xs pt db (xs.drop i) sd g) P:=by
  intro k
  induction k with
  |zero =>
   intro i sd g hi h;have:i=xs.length:=⋯
   subst this
   rw[drop_length,ZAA];exact⟨_,rfl,hd sd g h⟩
  |succ k ih =>
   intro i sd g hi h;have hlt:i<xs.length:=⋯
   rw[List.drop_eq_getElem_cons hlt,ZAA];obtain⟨sd1,e1,o,e2,h2⟩:=hs i xs[i] sd g (getElem?_eq_getElem hlt) h;rw[e1];show EvS ((db sd1 g).bind _) P;rw[e2];cases o with
   |nx sd2 g2=>show EvS (ZBo _ _ _ _) P;rw[ZBP h2.1];exact ih (i+1) sd2 g2 ⋯ h2.2
   |ct sd2 g2=>show EvS (ZBo _ _ _ _) P;rw[ZBP h2.1];exact ih (i+1) sd2 g2 ⋯ h2.2
   |bk sd2 g2=>exact⟨_,rfl,h2⟩
   |rt x g2=>exact⟨_,rfl,h2⟩
 exact go xs.length 0 sd g ⋯ h0
theorem ZQX{α:Type}{src:Option Nat}{xs:Qd}{pt:Pat}{dt:DB}{de:DE}{sd0:Sd}{g:G}(enc : α->PyData)(c : α->Bool)(f : α->PyData)(so:ZAu src xs g):∀L:List α,
  (∀a∈L,∃sd1,Zs pt (.dat (enc a)) sd0=some sd1/\EvP (dt sd1 g) λb g1=>b=c a/\g1=g/\(c a=true->EvP (de sd1 g) λy g2=>y=.dat (f a)/\g2=g))->ZBM src xs pt dt de sd0 (L.map enc) g=some ((L.filter c).map f,g)
 |[],_=>rfl
 |a::L,h=>by
  obtain⟨sd1,e1,b,g1,e2,rfl,rfl,h2⟩:=h a (Xs ..);rw[map_cons,ZBM,e1];show((dt sd1 g1).bind _)=_;rw[e2];show(if c a=true then _ else _)=_;have ih:=ZQX enc c f so L λz hz=>h z (Xo _ hz)
  cases hc:c a with
  |true =>
   rw[Xp rfl];obtain⟨y,g2,e3,rfl,rfl⟩:=h2 hc;rw[e3];show ZBo src xs g2 _=_;rw[ZBP so,ih,List.filter_cons_of_pos hc];rfl
  |false =>
   rw[Xn Xf,ZBP so,ih,List.filter_cons_of_neg (by rw[hc];exact Xf)]
variable{P:List PyData->G->Prop}{sd0:Sd}
theorem ZDW{pt:Pat}(enc : α->PyData)(c : α->Bool)(f : α->PyData)(L:List α)(e:xs=L.map enc)(so:ZAu src xs g)
  (h:∀a∈L,∃sd1,Zs pt (.dat (enc a)) sd0=some sd1/\EvP (dt sd1 g) λb g1=>b=c a/\g1=g/\(c a=true->EvP (de sd1 g) λy g2=>y=.dat (f a)/\g2=g))(hP:P ((L.filter c).map f) g):EvP (ZBM src xs pt dt de sd0 xs g) P:=by
 refine⟨_,g,?_,hP⟩
 conv=>lhs;arg 7;rw[e]
 exact ZQX enc c f so L h
theorem ZAi{pt:Pat}(enc : α->PyData)(f : α->PyData)(L:List α)(e:xs=L.map enc)(so:ZAu src xs g)
  (h:∀a∈L,∃sd1,Zs pt (.dat (enc a)) sd0=some sd1/\EvP (de sd1 g) λy g2=>y=.dat (f a)/\g2=g)(hP:P (L.map f) g):EvP (ZBM src xs pt ZES de sd0 xs g) P:=by
 refine ZDW enc (λ_=>true) f L e so (λa ha=>?_) ?_
 .obtain⟨sd1,e1,h1⟩:=h a ha
  exact⟨sd1,e1,true,g,rfl,rfl,rfl,λ_=>h1⟩
 .rw[List.filter_eq_self.mpr λ_ _=>rfl]
  exact hP
theorem ZTh{pt:Pat}(J:Nat->List PyData->G->Prop)(h0:J 0 [] g)
  (h:∀i x g acc,xs[i]? = some x->J i acc g->∃sd1,Zs pt (.dat x) sd0=some sd1/\EvP (dt sd1 g) λb g1=>(b=true->EvP (de sd1 g1) λy g2=>∃d,y=.dat d/\ZAu src xs g2/\J (i+1) (acc++[d]) g2)/\(b=false->ZAu src xs g1/\J (i+1) acc g1))
  (hP:∀acc g,J xs.length acc g->P acc g):EvP (ZBM src xs pt dt de sd0 xs g) P:=by
 have go:∀(k i:Nat) acc g,i+k=xs.length->J i acc g->EvP (ZBM src xs pt dt de sd0 (xs.drop i) g) λys g2=>P (acc++ys) g2:=by
  intro k
  induction k with
  |zero =>
   intro i acc g hi h1;have:i=xs.length:=⋯
   subst this
   rw[drop_length,ZBM];exact⟨_,_,rfl,by show P (acc++[]) g;rw[append_nil];exact hP acc g h1⟩
  |succ k ih =>
   intro i acc g hi h1;have hlt:i<xs.length:=⋯
   rw[List.drop_eq_getElem_cons hlt,ZBM];obtain⟨sd1,e1,b,g1,e2,kt,kf⟩:=h i xs[i] g acc (getElem?_eq_getElem hlt) h1;rw[e1];show EvP ((dt sd1 g).bind _) _;rw[e2];show EvP (if b=true then _ else _) _;cases b with
   |true =>
    obtain⟨y,g2,e3,d,rfl,so,i2⟩:=kt rfl;rw[Xp rfl,e3];show EvP (ZBo _ _ _ _) _;rw[ZBP so];obtain⟨ys,g3,e4,hp⟩:=ih (i+1) (acc++[d]) g2 ⋯ i2;rw[e4];refine⟨_,g3,rfl,?_⟩;rw[append_assoc] at hp;exact hp
   |false =>
    obtain⟨so,i2⟩:=kf rfl;rw[Xn Xf,ZBP so];exact ih (i+1) acc g1 ⋯ i2
 have:=go xs.length 0 [] g ⋯ h0;rw[drop_zero] at this
 exact this
theorem ZPK{pt:Pat}(I:G->Prop)(R:Nat->List PyData->Prop)(h0:I g)(hR0:R 0 [])
  (h:∀i x g acc,xs[i]? = some x->I g->R i acc->∃sd1,Zs pt (.dat x) sd0=some sd1/\EvP (dt sd1 g) λb g1=>(b=true->EvP (de sd1 g1) λy g2=>∃d,y=.dat d/\ZAu src xs g2/\I g2/\R (i+1) (acc++[d]))/\(b=false->ZAu src xs g1/\I g1/\R (i+1) acc))
  (hP:∀acc g,I g->R xs.length acc->P acc g):EvP (ZBM src xs pt dt de sd0 xs g) P:=ZTh (λi acc g=>I g/\R i acc) ⟨h0,hR0⟩ (λi x g acc hx j=>h i x g acc hx j.1 j.2) λacc g j=>hP acc g j.1 j.2
variable{ys:Qd}
section
variable{g:G}{P:W->G->Prop}
theorem ZLF(h:xs.length+ys.length<=1000)(q:P (.dat (.tuple (xs++ys))) g):EvP (Zz (.dat (.tuple xs)) (.dat (.tuple ys)) g) P:=ZCU h (ZBU q)
theorem ZTo(h:xs.length+ys.length<=1000)(q:P (.dat (.list (xs++ys))) g):EvP (Zz (.dat (.list xs)) (.dat (.list ys)) g) P:=ZGe (Xp h) q
theorem ZEH(h:ZIF i j=true)(q:P (.dat (.int (i*j))) g):EvP (ZAQ (.dat (.int i)) (.dat (.int j)) g) P:=ZCU h (ZBU q)
theorem ZDk(h : 0<j)(q:P (.dat (.int (i % j))) g):EvP (ZAq (.dat (.int i)) (.dat (.int j)) g) P:=ZCU (Xe h) (ZBU q)
theorem ZTU(h : 0<j)(h2:j<2 ^ 64)(q:P (.dat (.int (i / j))) g):EvP (ZIn (.dat (.int i)) (.dat (.int j)) g) P:=ZCU (by show(decide (0<j) && decide (j<2 ^ 64))=true;rw[Xe h,Xe h2];rfl) (ZBU q)
theorem ZAd(h:atI xs i=some d)(q:P (.dat d) g):EvP (ZO (.dat (.tuple xs)) (.dat (.int i)) g) P:=ZJB h rfl q
theorem y_ixL(h:atI xs i=some d)(q:P (.dat d) g):EvP (ZO (.dat (.list xs)) (.dat (.int i)) g) P:=ZJB h rfl q
theorem ZBd{n:Nat}(hn:g[n]? = some (.pl xs))(h:atI xs i=some d)(q:P (.dat d) g):EvP (ZO (.ref n) (.dat (.int i)) g) P:=by
 refine⟨_,_,?_,q⟩;show(match g[n]? with|some (.pl ds)=>(atI ds i).map λd=>(W.dat d,g)|some (.rl ws)=>(atI ws i).map λw=>(w,g)|_=>none)=_;rw[hn];show(atI xs i).map _=_;rw[h];rfl
theorem ZCh{n:Nat}{xs:List W}{d:W}(hn:g[n]? = some (.rl xs))(h:atI xs i=some d)(q:P d g):EvP (ZO (.ref n) (.dat (.int i)) g) P:=by
 refine⟨_,_,?_,q⟩;show(match g[n]? with|some (.pl ds)=>(atI ds i).map λd=>(W.dat d,g)|some (.rl ws)=>(atI ws i).map λw=>(w,g)|_=>none)=_;rw[hn];show(atI xs i).map _=_;rw[h];rfl
theorem ZK5{n:Nat}(hn:g[n]? = some (.pl xs))(q:P (.dat (.int (xs.length:Int))) g):EvP (f1 ZBQ [.ref n] g) P:=by
 refine⟨_,_,?_,q⟩;show(match g[n]? with|some (.pl ds)=>some (W.dat (.int (ds.length:Int)),g)|some (.rl ws)=>some (W.dat (.int (ws.length:Int)),g)|_=>none)=_;rw[hn]
theorem ZDo{n:Nat}(hn:g[n]? = some (.pl xs))(q:P (.dat (.tuple xs)) g):EvP (f1 ZEr [.ref n] g) P:=ZJB (y:=xs) (ZDl hn) rfl q
theorem ZOg{n:Nat}(hn:g[n]? = some (.pl xs))(q:PI' xs (some n) g):EvI (ZNF (.ref n) g) PI':=by
 refine⟨xs,some n,g,?_,q⟩;show(lk g n).map _=_;rw[ZDl hn];rfl
theorem ZWG{x y:PyData}(h:(ok0 x && ok0 y)=true)(q:P (.dat (.bool (!x.eqv y))) g):EvP (ZCM (.dat x) (.dat y) g) P:=ZCU h (ZBU q)
theorem ZFE{x:PyData}(h:(ok0 x && PyData.canLayAll0 ys)=true)(q:P (.dat (.bool (ys.any λy=>y.eqv x))) g):EvP (ZDK (.dat x) (.dat (.tuple ys)) g) P:=ZCU h (ZBU q)
theorem y_inL{x:PyData}(h:(ok0 x && PyData.canLayAll0 ys)=true)(q:P (.dat (.bool (ys.any λy=>y.eqv x))) g):EvP (ZDK (.dat x) (.dat (.list ys)) g) P:=ZCU h (ZBU q)
theorem ZPJ{x:PyData}(h:(ok0 x && PyData.canLayAll0 ys)=true)(q:P (.dat (.bool (!ys.any λy=>y.eqv x))) g):EvP (ZCj (.dat x) (.dat (.tuple ys)) g) P:=ZCU h (ZBU q)
end
theorem ZBy(ns:List Int):PyData.canLayAll0 (ns.map .int)=true:=by
 induction ns with
 |nil=>rfl
 |cons n ns ih=>show(true && PyData.canLayAll0 (ns.map .int))=true;rw[ih];rfl
theorem any_ints{k:Int}:((ns.map PyData.int).any λy=>y.eqv (.int k))=ns.contains k:=by
 induction ns with
 |nil=>rfl
 |cons n ns ih =>
  rw[map_cons,any_cons,ih,List.contains_cons]
  congr 1
  show(n == k)=(k == n);exact Bool.beq_comm
theorem Ze:(PyData.int i).eqv (.int j)=decide (i=j):=by
 show(i == j)=_;exact rfl
theorem ZIj{enc:α->PyData}{L:List α}{i:Nat}{a:α}(h:L[i]? = some a):atI (L.map enc) (i:Int)=some (enc a):=ZFs (by rw[getElem?_map,h];rfl)
theorem Zj{enc:α->PyData}{L:List α}{i:Nat}{a:α}(h:i<L.length):atI (L.map enc) (i:Int)=some (enc (L.getD i a)):=ZIj (by rw[Xq,getElem?_eq_getElem h];rfl)
noncomputable def ZB7:List Str:=["about","again","newer","others","own","refute","wait"]
theorem ok7:∀s∈ZB7,ok0 (.str s)=true:=by decide +kernel
theorem ZC8(h : -(2 ^ 64)<j/\j<2 ^ 64):ZIF i j=true:=by
 unfold ZIF;rw[Xe h.1,Xe h.2];simp
theorem ZUH(h : -(2 ^ 64)<i/\i<2 ^ 64):ZIF i j=true:=by
 unfold ZIF;rw[Xe h.1,Xe h.2];simp
variable{b:Nat}
theorem ZAK{g:List α}{x:α}(h:b<g.length):(g.set b x)[b]? = some x:=getElem?_set_self h
def Bx(g:G)(b:Nat):Prop:=∃x n c:Int,g[b]? = some (.pl [.int x,.int n,.int c])
theorem Bx.lt(h:Bx g b):b<g.length:=by
 obtain⟨x,n,c,e⟩:=h;exact(List.getElem?_eq_some_iff.mp e).1
structure Dr (b:Nat) (g g':G):Prop where
 bx:Bx g' b
 len:g.length<=g'.length
 kp:∀n,n<g.length->n≠b->g'[n]? = g[n]?
theorem Dr.refl(h:Bx g b):Dr b g g:=⟨h,le_refl _,λ_ _ _=>rfl⟩
theorem Dr.trans{b:Nat}{g g1 g2:G}(h:Dr b g g1)(k:Dr b g1 g2):Dr b g g2:=⟨k.bx,le_trans h.len k.len,λn h1 hn=>(k.kp n (lt_of_lt_of_le h1 h.len) hn).trans (h.kp n h1 hn)⟩
theorem Dr.set{b:Nat}{g:G}{x n c:Int}(h:b<g.length):Dr b g (g.set b (.pl [.int x,.int n,.int c])):=⟨⟨x,n,c,ZAK h⟩,by rw[length_set];exact le_refl _,λm _ hm=>getElem?_set_ne (Ne.symm hm)⟩
variable{gx:G}
theorem Dr.put{n:Nat}{c:Cell}(h:Dr b g gx)(hb:b<g.length)(hn:g.length<=n):Dr b g (gx.set n c):=⟨by
 obtain⟨x,y,z,e⟩:=h.bx;exact⟨x,y,z,by rw[getElem?_set_ne ⋯];exact e⟩,by rw[length_set];exact h.len,λm h1 h2=>by rw[getElem?_set_ne ⋯];exact h.kp m h1 h2⟩
theorem Dr.app{c:Cell}(h:Dr b g gx):Dr b g (gx++[c]):=⟨by
 obtain⟨x,y,z,e⟩:=h.bx;exact⟨x,y,z,by rw[getElem?_append_left h.bx.lt];exact e⟩,by have:=h.len;rw[Xa];omega,λm h1 h2=>by rw[getElem?_append_left (by have:=h.len;omega)];exact h.kp m h1 h2⟩
structure Ex (g g':G):Prop where
 len:g.length<=g'.length
 kp:∀n,n<g.length->g'[n]? = g[n]?
theorem Ex.refl:Ex g g:=⟨le_refl _,λ_ _=>rfl⟩
theorem Ex.trans{g g1 g2:G}(h:Ex g g1)(k:Ex g1 g2):Ex g g2:=⟨le_trans h.len k.len,λn h1=>(k.kp n (lt_of_lt_of_le h1 h.len)).trans (h.kp n h1)⟩
theorem Ex.app{c:Cell}(h:Ex g gx):Ex g (gx++[c]):=⟨by have:=h.len;rw[Xa];omega,λm h1=>by rw[getElem?_append_left (by have:=h.len;omega)];exact h.kp m h1⟩
theorem Ex.put{n:Nat}{c:Cell}(h:Ex g gx)(hn:g.length<=n):Ex g (gx.set n c):=⟨by rw[length_set];exact h.len,λm h1=>by rw[getElem?_set_ne ⋯];exact h.kp m h1⟩
theorem Dr.ex{g1 g2:G}(h:Dr b g g1)(k:Ex g1 g2):Dr b g g2:=⟨by
 obtain⟨x,y,z,e⟩:=h.bx;exact⟨x,y,z,by rw[k.kp _ h.bx.lt];exact e⟩,le_trans h.len k.len,λn h1 h2=>by rw[k.kp n (lt_of_lt_of_le h1 h.len)];exact h.kp n h1 h2⟩
theorem Zk{c:Cell}:(g++[c])[g.length]? = some c:=by
 rw[getElem?_append_right (le_refl _),sub_self];rfl
theorem ZVp{P:Program}{f:Addr}(F:FnOk P w K mg base CX0 k f fd ps (spD K 1 r))
  (h:∀ns:List Int,ns.length<=63->∃g',r [.inp ns] []=some (.dat (.bool true),g')):FnOk P w K mg base CX0 k f fd ps (λvs H Q _=>∃(a:Addr) (ns:List Int),vs=[.ref a]/\SqL K H a (ns.map V.int)/\ns.length<=63/\∀H',Q (.bl true) H'):=F.imp λvs H Q E ⟨a,ns,e,hS,hl,q⟩=>by
 subst e;obtain⟨g',eg⟩:=h ns hl;refine⟨rfl,⟨[],[]⟩,[.inp ns],[],.dat (.bool true),g',⟨rfl,List.nodup_nil,λn ds e=>by simp at e,λa z=>by cases z⟩,.cons (.inp ?_) .nil,eg,λv H' ρ' s' h' r'=>?_⟩
 .rcases hS with z|z
  .exact .inl ⟨z,λq=>q.elim (λz=>by cases z) λz=>by cases z⟩
  .exact .inr z
 .cases r' with
  |dat r' =>
   cases r' with
   |bl b=>exact q H'
theorem ZG5(ks:Qi):(ZBw ks).Perm ks:=mergeSort_perm _ _
theorem ZI7(hn:ks.Nodup):(ZBw ks).Pairwise (λa b=>gtW b a=true):=by
 have ha:∀a b:Int×Int,(!gtW a b)=true ↔ a.1<b.1\/(a.1=b.1/\a.2<=b.2):=λa b=>by
  rw[Bool.not_eq_true',<-Bool.not_eq_true,ZAD];omega
 have h1:(ZBw ks).Pairwise (λa b=>(!gtW a b)=true):=by
  refine List.pairwise_mergeSort (le:=λa b=>!gtW a b) (λa b c h1 h2=>?_) (λa b=>?_) ks
  .rw[ha] at *
   omega
  .rw[Bool.or_eq_true,ha,ha]
   omega
 have h2:(ZBw ks).Nodup:=(ZG5 ks).nodup_iff.mpr hn;refine List.Pairwise.imp₂ (R:=λa b=>(!gtW a b)=true) (S:=λa b=>a≠b) (λa b z w=>?_) h1 h2;rw[ha] at z;rw[ZAD];have : ¬(a.1=b.1/\a.2=b.2):=λe=>w (Prod.ext e.1 e.2)
 omega
def ZAw(r:Ru)(told:List Int)(x:Int)(due:List Int):List Int:=((ZBw (Z6 told r.t x due)).take r.c.toNat).map λp=>p.2
structure NewsOk (r:Ru) (told:List Int) (i:Nat) (due news:List Int):Prop where
 nd:news.Nodup
 mem:∀k∈news,∃n:Nat,k=(n:Int)/\n<told.length/\told.getD n 0<r.t/\n≠i/\(n:Int)∉due
 len:news.length<=r.c.toNat
 all:news.length<r.c.toNat->∀n:Nat,n<told.length->told.getD n 0<r.t->n≠i->(n:Int)∉due->(n:Int)∈news
 later:∀n h:Nat,n<told.length->told.getD n 0<r.t->n≠i->(n:Int)∉due->(n:Int)∉news->(h:Int)∈news->HT.lexLt [told.getD n 0,(n:Int)] [told.getD h 0,(h:Int)]=false
theorem ZK6(r:Ru)(told:List Int)(i:Nat)(due:List Int):NewsOk r told i due (ZAw r told i due):=by
 have pm:=ZG5 (Z6 told r.t i due);have ps:=ZI7 (ZEJ told r.t i due);have mem:∀k∈ZAw r told i due,∃n:Nat,k=(n:Int)/\n<told.length/\told.getD n 0<r.t/\n≠i/\(n:Int)∉due/\(told.getD n 0,(n:Int))∈(ZBw (Z6 told r.t i due)).take r.c.toNat:=λk hk=>by
  unfold ZAw at hk;obtain⟨p,hp,rfl⟩:=List.mem_map.mp hk;obtain⟨n,rfl,h1,h2,h3,h4⟩:=ZLE (pm.mem_iff.mp (List.mem_of_mem_take hp));exact⟨n,rfl,h1,h2,λz=>h3 (by rw[z]),h4,hp⟩
 refine⟨ZLA pm,λk hk=>?_,?_,λhl n h1 h2 h3 h4=>?_,λn h h1 h2 h3 h4 h5 h6=>?_⟩
 .obtain⟨n,e,a,b,c,d,_⟩:=mem k hk
  exact⟨n,e,a,b,c,d⟩
 .unfold ZAw
  rw[Xm,length_take];omega
 .unfold ZAw at hl ⊢
  rw[Xm] at hl;rw[ZOu hl];exact List.mem_map.mpr ⟨_,pm.mem_iff.mpr (ZF0 h1 h2 (λz=>h3 ⋯) h4),rfl⟩
 .obtain⟨h',e,_,_,_,_,hp⟩:=mem h h6
  have e:h=h':=⋯
  subst e;have hn:(told.getD n 0,(n:Int))∉(ZBw (Z6 told r.t i due)).take r.c.toNat:=λz=>h5 (List.mem_map.mpr ⟨_,z,rfl⟩)
  have hg:=ZLL ps (pm.mem_iff.mpr (ZF0 h1 h2 (λz=>h3 ⋯) h4)) hn hp;rw[ZAD] at hg;show(if told.getD n 0=told.getD h 0 then (if (n:Int)=(h:Int) then false else decide ((n:Int)<(h:Int))) else decide (told.getD n 0<told.getD h 0))=false;dsimp only at hg
  split
  .split
   .rfl
   .exact decide_eq_false ⋯
  .exact decide_eq_false ⋯
theorem ZKx(ns:List Int):ZA7 (ns.map .int)=some ns:=by
 induction ns with
 |nil=>rfl
 |cons n ns ih=>rw[map_cons,ZA7,ih];rfl
theorem ZJw(ns:List Bool):ZBB (ns.map .bool)=some ns:=by
 induction ns with
 |nil=>rfl
 |cons n ns ih=>rw[map_cons,ZBB,ih];rfl
section
variable{g:G}{P:W->G->Prop}
theorem ZQe{bs:List Bool}(q:P (.dat (.bool (bs.all id))) g):EvP (f1 ZFX [.dat (.list (bs.map .bool))] g) P:=by
 refine ZGe ?_ q;show ZFX _ g=_;unfold ZFX;show((ZBB (bs.map .bool)).map _)=_;rw[ZJw];rfl
end
theorem ZCb(n:Nat):ZDx n 0=(List.range n).map λj:Nat=>PyData.int (j:Int):=by
 unfold ZDx;refine map_congr_left λj _=>?_
 rw[Int.zero_add]
theorem ZRk{P:Program}{f:Addr}:FnOk P w K mg base CX0 k f fd ps (spD K m λ_ _=>none) :=
 ⟨(λvs H Q E h=>by obtain⟨_,_,_,_,_,_,_,_,e,_⟩:=h;cases e),λA outer s H args us vs Q E hr he hb hv h=>by obtain⟨_,_,_,_,_,_,_,_,e,_⟩:=h;cases e⟩
section
variable{X:Cx}
theorem ZNj(hc:X.calm=true):Zi X (.builtin "any") (λxs H Q=>∃(p:Addr) (ns:List Int),xs=[.ref p]/\SqT X.K H p (ns.map V.int)/\Q (.bl (ns.any λk=>k != 0)) H):=by
 intro pq s σ H xs us Q I r h;obtain⟨p,ns,rfl,hq,q⟩:=h;obtain⟨u,rfl,ru⟩:=ZBt r;cases ru;obtain⟨its,rv,pl,hz⟩:=I.tuple hq;have hlen:=rv.length;rw[Xm] at hlen;have hpl:p<s⁻¹:=by
  obtain⟨o,e,_⟩:=pl;exact lt_size e
 refine call_any_walk (iter_tuple pl ⟨s⁻¹,_,_,_,_,_,λi=>ns.getD i 0 != 0,rfl,Walks.tuple (A:=X.A.in1) (show X.A.in1.handled=none from I.ok.hd hc) s⁻¹ p (ne_of_lt hpl) its.toArray,?_,?_,λh' tk k=>?_⟩)
 .exact⟨⟨_,get?_push_size _ rfl,rfl,rfl⟩,pl.push _⟩
 .intro i v s' Q' E' hv hQ
  have hv':its[i]? = some v:=by simpa using hv
  have hi:i<ns.length:=by rw[hlen];exact(List.getElem?_eq_some_iff.mp hv').1
  obtain⟨u,hu,ru⟩:=rv.get (i:=i) (x:=V.int ns[i]) (by simp[hi]);rw[hv'] at hu;cases hu;obtain⟨t,rfl⟩:=ru;have e:ns.getD i 0=ns[i]:=by simp[List.getD,hi]
  dsimp only at hQ;rw[e] at hQ;exact PySem.P.truthy_int hQ
 .have e:((List.range its.toArray.size).any λi=>ns.getD i 0 != 0)=ns.any λk=>k != 0:=by
   rw[Bool.eq_iff_iff,any_eq_true,any_eq_true];constructor
   .rintro ⟨i,hi,z⟩
    have hi':i<ns.length:=by simpa [<-hlen] using hi
    exact⟨ns[i],getElem_mem hi',by simpa [List.getD,hi'] using z⟩
   .rintro ⟨b,hb,z⟩
    obtain⟨i,hi,rfl⟩:=List.mem_iff_getElem.mp hb;exact⟨i,by simp[<-hlen,hi],by simpa [List.getD,hi] using z⟩
  rw[e];exact⟨.bl _,H,I.kept λb o q=>k b o (by simp;exact ne_of_lt (lt_size q)) (get?_push_of_some _ q),rfl,q⟩
def ZQS:W->G->Option (W×G)
 |.dat (.tuple ds),g=>(ZA7 ds).map λns=>(.dat (.bool (ns.any λk=>k != 0)),g)
 |w,g=>ZRV w g
theorem cAny2(hc:X.calm=true):Zi X (.builtin "any") (rF X.K (f1 ZQS)):=c1 ((ZPR hc).or (ZNj hc)) λρ H g x w z g' Q hR r e q=>by
 have lists:ZRV w g=some (z,g')->(∃(p:Addr) (bs:List Bool),[x]=[V.ref p]/\SqL X.K H p (bs.map V.bl)/\Q (.bl (bs.any id)) H):=λe=>by
  obtain⟨ds,e1,e⟩:=bnd e;obtain⟨bs,e2,e⟩:=mp e;cases e;obtain⟨l,vs,rfl,h1,t1⟩:=Z3 hR r e1;have:=ZFL t1 e2;subst this
  exact⟨l,bs,rfl,SqL.of h1,q.at hR (.dat (.bl _))⟩
 cases r with
 |ref h=>exact .inl (lists e)
 |ty=>exact .inl (lists e)
 |exc _=>exact .inl (lists e)
 |tup _ _=>exact .inl (lists e)
 |inp h=>exact .inl (lists e)
 |dat r =>
  cases r with
  |tup f t =>
   obtain⟨ns,e1,e⟩:=mp e;cases e;have:=ZBh t e1;subst this
   exact .inr ⟨_,ns,rfl,f.sq,q.at hR (.dat (.bl _))⟩
  |lst h n t=>exact .inl (lists e)
  |_=>exact .inl (lists e)
end
theorem ZNP{P:Program}{w:World}{K:Frag}{mg:Yj}{base:Heap}{x qual:Str}{st:Stmt}{f:Addr}{fd:FuncData}{N ps:List Str}{n m:Nat}(c:Nat){d:(FW)->DS}{r:Nat->FW}(e0:r 0 = λ_ _=>none)(e:∀k,r (k+1)=Zg n (d (r k)))(hn:N.length=n)(hm:ps.length=m)(F:Fun K x qual st f fd)(S:FnScope N ps (ZM st))
  (hb:∀k,FnOk P w K mg base CX0 (c+k) f fd ps (spD K m (r k))->∀(cdv:Value) (A:Around) (outer:List Env) (s:Shared) (H:Hp) (E:XK),Room (c+k) (A.deeper (envOfC qual (ZM st) s⁻¹ f cdv))->JSs (ZFv CX0 P w K mg base N qual (ZM st) f cdv A outer s H E).nox (ZAC st) (d (r k))) :
  ∀k,FnOk P w K mg base CX0 (c+k) f fd ps (spD K m (r k))
 |0=>by rw[e0];exact(ZRk (k:=0)).mono (zero_le _)
 |k+1=>ZFm (d:=d (r k)) (n:=n) (e k) hn hm F S (hb k (ZNP c e0 e hn hm F S hb k))
end _L
namespace _L
open PySem PySem.Spec PyProof.Rows H1
open AutoSeq1 (wpAny_loadPart')
variable{r:Addr}{a b:Int}{t u v:Tok}
section
variable{prog:Program}{w:World}{A:Around}{E:Yi}{s:Shared}
theorem ZDa{Q:List Value->Shared->Prop}{c:Int}{n:Nat}(hh:A.handled=none)(hr:IsRange s.heap r a b c t u v)(hsmall:Builtin.Range.small a b c=true)
  (hn:Builtin.Range.rangeSize a b c=n)(hlen:n<=2 ^ 24)
  (hQ:∀(h':Heap) tk (acc:Array Value),(∀b o,s.heap.get? b=some o->h'.get? b=some o)->ItemsOf (λi v=>∃t,v=.int (a+i*c) t) acc n->Q acc.toList { s with heap:=h',toks:=tk }):Yl prog w A (collect (.ref r)) Q E s:=by
 have hS₁ : (s.heap.push { cls:=.type "list",data:=.seq ([]:List Value).toArray }).get? s⁻¹=some { cls:=.type "list",data:=.seq #[] }:=get?_push_size _ rfl;have key:∀R:Result->Shared->Prop,(∀(h':Heap) tk (acc':Array Value) c',(∀b o,s.heap.get? b=some o->h'.get? b=some o)->h'.get? s⁻¹=some { cls:=.type "list",dict:=none,data:=.seq acc' c',slots:=#[] }->ItemsOf (λi v=>∃t,v=.int (a+i*c) t) acc' n->R (.ok (.ret (.ref s⁻¹))) { s with heap:=h',toks:=tk })->codeAny (model prog w) A (.builtin "proto.collect" ⟨[.ref r],[]⟩) R s:=by
  intro R hR;refine codeAny_builtin F.entry_proto_collect ?_;rw[Around.under_plainId F.plain_proto_collect _];show wpAny _ A.in1 (newList [] >>= λl=>again (.builtin "list.__iadd__" ⟨[l,.ref r],[]⟩)) _ _ s;refine Xb (wpAny_newObj_type ?_);refine Xu ⟨plainId_quiet F.plain_list_iadd _,codeAny_builtin F.entry_list_iadd ?_⟩;rw[Around.under_plainId F.plain_list_iadd _];exact wpAny_extend_range (R:=R) (s:={ s with heap:=s.heap.push { cls:=.type "list",data:=.seq ([]:List Value).toArray } }) hh (get?_push_of_some _ hr) hsmall hn hlen s⁻¹ (.ref s⁻¹) 0 hS₁ λh' tk acc' c' hk hS' hacc=>hR h' tk acc' c' (λb o e=>hk b o (ne_of_lt (lt_size e)) (get?_push_of_some _ e)) hS' hacc
 unfold collect;refine Xb (wpAny_runValue (key _ λh' tk acc' c' hk hS' hacc=>?_));show wpAny _ A (load s⁻¹ >>= _) _ _ _;refine Xb (wpAny_load hS' ?_);exact Xu (hQ h' tk acc' hk hacc)
theorem ZC3{Q₁:Value->Shared->Prop}{c:Int}{n:Nat}(hh:A.handled=none)(hr:IsRange s.heap r a b c t u v)(hsmall:Builtin.Range.small a b c=true)
  (hn:Builtin.Range.rangeSize a b c=n)(hlen:n<=2 ^ 24)(hsz:n<=sizeLine)
  (h:∀(h':Heap) tk (acc:Array Value),(∀b o,s.heap.get? b=some o->h'.get? b=some o)->ItemsOf (λi v=>∃t,v=.int (a+i*c) t) acc n->Q₁ (.ref h'.objs.size) { s with heap:=h'.push { cls:=.type "tuple",data:=.seq acc },toks:=tk }) :
  codeAny (model prog w) A (.call (.builtin "tuple.__new__") ⟨[.type "tuple",.ref r],[]⟩) (wants Q₁ E) s:=by
 refine codeAny_of_tree ?_;show wpAny _ A.in1 (do checkBuiltinCall "tuple.__new__" ⟨[.type "tuple",.ref r],[]⟩;again (.builtin "tuple.__new__" ⟨[.type "tuple",.ref r],[]⟩)) _ _ s;refine Xb (wpAny_of_eq (F.newCall_tuple_1 _) (Xu ⟨plainId_quiet F.plain_tuple_new _,codeAny_builtin F.entry_tuple_new ?_⟩));rw[Around.under_plainId F.plain_tuple_new _];have hsub:=sub_tuple_self;have hinit:=init_tuple_lookup;have hmh:=madeHere_tuple;have hTI:s.TypeIs (.ref r) "range":=⟨_,hr,rfl⟩;have hh1:A.in1.handled=none:=hh
 wp_walk using wpAny_typeOf hTI,ZDa hh1 hr hsmall hn hlen
 intro h' tk acc hm hacc;show wpAny _ _ (Builtin.Tuple.tupleExact acc.toList.toArray >>= λv=>ret v) _ _ _;unfold Builtin.Tuple.tupleExact;refine Xb (wpAny_newObj_type ?_ (by show acc.toList.toArray.size<=sizeLine;simp only[Array.toArray_toList];rw[hacc.1];exact hsz));refine Xu ?_;have e:acc.toList.toArray=acc:=by simp
 rw[e];exact h h' tk acc hm hacc
theorem ZE3{Q:Yi}{c:Int}{n:Nat}(hh:A.handled=none)(hr:IsRange s.heap r a b c t u v)(hsmall:Builtin.Range.small a b c=true)
  (hn:Builtin.Range.rangeSize a b c=n)(hlen:n<=2 ^ 24)(hsz:n<=sizeLine)
  (hQ:∀(h':Heap) tk (acc:Array Value),(∀b o,s.heap.get? b=some o->h'.get? b=some o)->ItemsOf (λi v=>∃t,v=.int (a+i*c) t) acc n->Q (.ref h'.objs.size) { s with heap:=h'.push { cls:=.type "tuple",data:=.seq acc },toks:=tk }) :
  Yl prog w A (call (.type "tuple") [.ref r]) Q E s:=by
 refine callType_codes (Q₁:=λobj s₁=>s₁.TypeIs obj "tuple"/\Q obj s₁) F.called_tuple (F.typeCall_tuple_1 _) F.entry_object_init
  (ZC3 hh hr hsmall hn hlen hsz λh' tk acc hm hacc=>⟨⟨_,get?_push_size _ rfl,rfl⟩,hQ h' tk acc hm hacc⟩) λobj s₁ h₁=>?_
 exact⟨h₁.1,F.args_object_init_2 obj _,object_init_meets F.called_tuple.init.lookup F.called_tuple.made (by decide) prog w A.in1 _ s₁ ⟨h₁.1,rfl,h₁.2⟩⟩
end
end _L
namespace _L
open PySem PySem.Spec PyProof.Rows H1
section
variable{X:Cx}
theorem ZGj(hc:X.calm=true):Zi X (.type "tuple") (λxs H Q=>∃p j,xs=[.ref p]/\H p=some (.rng 0 j)/\(0<=j/\j<=1000)/\∀l,H l=none->Q (.ref l) (upd H l (.tup (ZId j.toNat)))):=by
 intro pq s σ H xs us Q I r h;obtain⟨p,j,rfl,hp,⟨h0,h1⟩,q⟩:=h;obtain⟨u,rfl,ru⟩:=ZBt r;cases ru;obtain⟨t,u,v,ho⟩:=I.hok p _ hp;have hj:(j.toNat:Int)=j:=toNat_of_nonneg h0;have hl:(ZId j.toNat).length=j.toNat:=by unfold ZId;simp
 refine ZE3 (n:=j.toNat) (I.ok.hd hc) (show IsRange s.heap p 0 j 1 t u v from ho) (small_one ⋯ ⋯ ⋯ ⋯) (by rw[rangeSize_one];split <;> omega) ⋯ (le_of_lt (Zt ⋯)) λh' tk acc kp hacc=>?_
 have e:(rangeInts 0 1 j.toNat)=(List.range j.toNat).map λ(i:Nat)=>(i:Int):=by
  unfold rangeInts;apply map_congr_left;intro a _;omega
 have ca:CarriedAll acc.toList ((rangeInts 0 1 j.toNat).map .int):=carriedAll_of_get _ _ (by simp[hacc.1,rangeInts_length]) λi v hv=>by
  have hv':acc[i]? = some v:=by simpa using hv
  obtain⟨tk,rfl⟩:=hacc.2 i v hv';have hi:i<j.toNat:=by
   have:=(Array.getElem?_eq_some_iff.mp hv').1;rw[hacc.1] at this;exact this
  exact⟨.int (0+(i:Nat)*1),by simp[rangeInts_get hi],.int _ _⟩
 have ev:Zb (ZId j.toNat) acc.toList:=by
  have:=ZJ7 ca;rw[e,map_map] at this
  exact this
 have I1:Inv X pq σ H { s with heap:=h',toks:=tk }:=I.kept (t':=tk) kp;have I2:Inv X pq σ (upd H h'.objs.size (.tup (ZId j.toNat))) { s with heap:=h'.push { cls:=.type "tuple",data:=.seq acc },toks:=tk } :=
  I1.laid (t':=tk) (λb o e=>get?_push_of_some _ e) (le_refl _) (show ZBI X.prog X.w _ _ _ (.tup (ZId j.toNat)) from ⟨by rw[hl];exact le_of_lt (Zt ⋯),acc.toList,ev,IsTup.new _ _⟩)
 exact⟨.ref h'.objs.size,_,I2,rfl,q _ (I1.hok.fresh (le_refl _))⟩
end
variable{K:Frag}{ρ:Rh}{H:Hp}{e:Expr}{d:DE}{p:Pos}
section
variable{X:Cx}
def ZMY(d:DE):DE:=λsd g=>(d sd g).bind λp=>match p.1 with
 |.dat (.int j)=>if 0<=j/\j<=1000 then some (.dat (.tuple (ZDx j.toNat 0)),p.2) else none
 |_=>none
theorem ZKH{K:Frag}{ρ:Rh}{H:Hp}{α:Type}(f : α->Int):∀L:List α,RelDL K ρ H (L.map λi=>V.int (f i)) (L.map λi=>PyData.int (f i))
 |[]=>.nil
 |a::r=>.cons (.int _) (ZKH f r)
theorem ZSt(n:Nat):RelDL K ρ H (ZId n) (ZDx n 0):=by
 rw[ZCb];unfold ZId;exact ZKH (λj:Nat=>(j:Int)) _
theorem ZLl{p2 pos pos2:Pos}(hc:X.calm=true)(hg:Gl X "tuple")(hm:X.mg "tuple" = none)(hgr:Gl X "range")(hmr:X.mg "range" = none)(ha:JE X e d)
  (hs1:starEach [.Call (.Name "range" p2) [e] [] pos2] X.env=(false,eval (.Call (.Name "range" p2) [e] [] pos2) X.env)::starEach [] X.env:=by rfl)(hs2:Ya X e []:=by rfl)
  (hpl:Yb X pos []:=by rfl)(hpl2:Yb X pos2 []:=by rfl) :
  JE X (.Call (.Name "tuple" p) [.Call (.Name "range" p2) [e] [] pos2] [] pos) (ZMY d):=⟨(ZEd (ZGj hc) hg hm boot_tuple (ZIG (ZEd (T:="range") ZKc hgr hmr rfl (ZIG ha.h ZK1 hs2) (by decide) (by decide) hs2 hpl2) ZK1 hs1) (by decide) (by decide) hs1 hpl).imp λσ H Q ⟨ρ,sd,g,x,g',r,e,q⟩=>by
  obtain⟨⟨y,g1⟩,e1,e⟩:=bnd e;cases y with
  |dat y =>
   cases y with
   |int j =>
    dsimp only at e
    split at e
    .rename_i hj
     cases e;refine⟨ρ,sd,g,.dat (.int j),_,r,e1,λv H1 ρ1 s1 h1 r1=>?_⟩;cases r1 with
     |dat r1 =>
      cases r1 with
      |int _ =>
       refine⟨j,rfl,λa hp=>?_⟩;obtain⟨sm,hr2,hn⟩:=ZCV (o:=.rng 0 j) h1 hp;refine⟨a,j,rfl,Za,hj,λl hl=>?_⟩;obtain⟨sm2,hr3,hn3⟩:=ZCV (o:=.tup (ZId j.toNat)) hr2 hl;exact q _ _ ρ1 (s1.trans ((Stp.same sm).trans (.same sm2))) hr3 (.dat (.tup (.inl ⟨.inl Za,hn3⟩) (ZSt _)))
    .cases e
   |_=>cases e
  |_=>cases e⟩
end
section
variable{sd:Sd}{g:G}{P:W->G->Prop}{d:DE}
theorem ZUS(h:EvP (d sd g) λx g1=>∃j:Int,x=.dat (.int j)/\(0<=j/\j<=1000)/\P (.dat (.tuple (ZDx j.toNat 0))) g1):EvP (ZMY d sd g) P:=by
 obtain⟨x,g1,e1,j,rfl,hz,h⟩:=h;refine⟨_,_,?_,h⟩;unfold ZMY;rw[e1];exact Xp hz
end
variable{i j:Nat}{aa:DA}{x:Str}{a b:Expr}{px py:Pos}
section
variable{X:Cx}{pos:Pos}
noncomputable def ZKk(i j l:Nat)(a:DA):DS:=λsd g=>(a sd g).bind λp=>match p.1 with|[x,y,z]=>some (.nx (((sd.set l (some z)).set j (some y)).set i (some x)) p.2)|_=>none
theorem ZSR{l:Nat}{D:Ends}{σ:St}(h:tS X.K (ZKk i j l aa) D σ H):ZTY i j l (tA X.K aa) D σ H:=by
 obtain⟨ρ,sd,g,oo,r,e,q⟩:=h;obtain⟨⟨ws,g1⟩,e1,e⟩:=bnd e;refine⟨ρ,sd,g,ws,g1,r,e1,λvs H1 ρ1 s1 h1 r1=>?_⟩;cases r1 with
 |nil=>cases e
 |cons a t =>
  cases t with
  |nil=>cases e
  |cons b t =>
   cases t with
   |nil=>cases e
   |cons c t =>
    cases t with
    |nil=>cases e;exact⟨_,_,_,rfl,q _ H1 ρ1 s1 ((((r.step s1 h1).set c l).set b j).set a i)⟩
    |cons _ _=>cases e
theorem ZQc{l:Nat}{y z:Str}{c:Expr}{pz pt:Pos}{kt k2 pt2}(hc:X.calm=true)(hN:X.N.Nodup)(hi:X.N[i]? = some x)(hj:X.N[j]? = some y)(hl:X.N[l]? = some z)
  (hx:Yg X x)(hy:Yg X y)(hz:Yg X z)(ha:JA X [a,b,c] aa)
  (hw:swappedStores [.Tuple [.Name x px,.Name y py,.Name z pz] kt pt] (.Tuple [a,b,c] k2 pt2) X.env=pure (some [x,y,z]):=by rfl)
  (hs:swapsWithSole [.Tuple [.Name x px,.Name y py,.Name z pz] kt pt] (.Tuple [a,b,c] k2 pt2) pos.line X.env=pure false:=by rfl) :
  JS X (.Assign [.Tuple [.Name x px,.Name y py,.Name z pz] kt pt] (.Tuple [a,b,c] k2 pt2) pos) (ZKk i j l aa):=⟨(ZRZ hc hN hi hj hl hx hy hz ha.h hw hs).imp λ_ _ _ h=>ZSR h⟩
theorem ZRy{y:Str}{pt:Pos}{kt k2 pt2}(hc:X.calm=true)(hN:X.N.Nodup)(hi:X.N[i]? = some x)(hj:X.N[j]? = some y)(hij:i≠j)
  (hx:Yg X x)(hy:Yg X y)(ha:JA X [a,b] aa)
  (hw:swappedStores [.Tuple [.Name x px,.Name y py] kt pt] (.Tuple [a,b] k2 pt2) X.env=pure (some [x,y]))
  (hs:swapsWithSole [.Tuple [.Name x px,.Name y py] kt pt] (.Tuple [a,b] k2 pt2) pos.line X.env=pure false:=by rfl) :
  JS X (.Assign [.Tuple [.Name x px,.Name y py] kt pt] (.Tuple [a,b] k2 pt2) pos) (ZPX i j aa):=⟨(ZUf hc hN hi hj hij hx hy ha.h hw hs).imp λ_ _ _ h=>ZUR h⟩
end
section
variable{sd:Sd}{g:G}{aa:DA}{PS':Out->Prop}
theorem ZVi{l:Nat}(h:EvP (aa sd g) λws g1=>∃x y z,ws=[x,y,z]/\PS' (.nx (((sd.set l (some z)).set j (some y)).set i (some x)) g1)):EvS (ZKk i j l aa sd g) PS':=by
 obtain⟨ws,g1,e1,x,y,z,rfl,h⟩:=h;exact⟨_,by unfold ZKk;rw[e1];rfl,h⟩
theorem x_par(h:EvP (aa sd g) λws g1=>∃x y,ws=[x,y]/\PS' (.nx ((sd.set i (some x)).set j (some y)) g1)):EvS (ZPX i j aa sd g) PS':=by
 obtain⟨ws,g1,e1,x,y,rfl,h⟩:=h;exact⟨_,by unfold ZPX;rw[e1];rfl,h⟩
end
structure Kls (K:Frag) (mg:Yj) (c:CD) (C:Addr):Prop where
 ns:nsIn K mainGlobals c.nm=some (some (.ref C))
 mg_:mg c.nm=some (.ref C)
 cl:Cls K C
 nd:c.fs.Nodup
 na:∀f∈c.fs,ZC1 K C f
structure MDef (K:Frag) (C:Addr) (x qual:Str) (st:Stmt) (ps:List Str) (f:Addr) (fd:FuncData):Prop where
 me:Meth K C x f
 fn:Fun K x qual st f fd
 bd:ZDA K fd ps []
section
variable{K:Frag}{ρ:Rh}{H:Hp}
theorem RelF.look:∀{ns:List Str} {vs:List (Str×V)} {ws:List W} {i:Nat} {f:Str} {w:W},ns.Nodup->RelF K ρ H ns vs ws->ns[i]? = some f->ws[i]? = some w->∃v,vs.lookup f=some v/\Rel K ρ H v w
 |_,_,_,_,_,_,_,.nil,_,e=>by simp at e
 |_,_,_,0,_,_,_,.cons (v:=v) h t,e1,e2=>by
  cases e1;cases e2;exact⟨v,by simp[List.lookup],h⟩
 |f0::ns,_,_,i+1,f,w,nd,.cons (v:=v) h t,e1,e2=>by
  rw[nodup_cons] at nd;have e1':ns[i]? = some f:=by simpa using e1
  obtain⟨v,h1,h2⟩:=RelF.look nd.2 t e1' (by simpa using e2);have hne:(f == f0)=false:=beq_eq_false_iff_ne.mpr λz=>nd.1 (by rw[<-z];exact mem_of_getElem? e1')
  exact⟨v,by rw[List.lookup,hne];exact h1,h2⟩
theorem RelF.no:∀{ns:List Str} {vs:List (Str×V)} {ws:List W} {m:Str},RelF K ρ H ns vs ws->m∉ns->vs.lookup m=none
 |_,_,_,_,.nil,_=>rfl
 |f0::ns,_,_,m,.cons h t,hn=>by
  have hne:(m == f0)=false:=beq_eq_false_iff_ne.mpr λz=>hn (by rw[z];exact Xs ..)
  rw[List.lookup,hne];exact t.no λz=>hn (Xo _ z)
theorem RelF.len:∀{ns:List Str} {vs:List (Str×V)} {ws:List W},RelF K ρ H ns vs ws->vs.length=ws.length
 |_,_,_,.nil=>rfl
 |_,_,_,.cons h t=>by rw[Xc,Xc,t.len]
theorem RelF.set{v:V}{w:W}(r:Rel K ρ H v w):∀{ns:List Str} {vs:List (Str×V)} {ws:List W} {i:Nat} {f:Str},ns.Nodup->RelF K ρ H ns vs ws->ns[i]? = some f->i<ws.length->RelF K ρ H ns (ZCH f v vs) (ws.set i w)
 |_,_,_,_,_,_,.nil,_,e=>by simp at e
 |f0::ns,_,_,0,_,_,.cons h t,e1,e2=>by
  cases e1;show RelF K ρ H _ (if f0=f0 then _ else _) _;rw[Xp rfl];exact .cons r t
 |f0::ns,_,_,i+1,f,nd,.cons (v:=v0) (vs:=vs) h t,e1,e2=>by
  rw[nodup_cons] at nd;have e1':ns[i]? = some f:=by simpa using e1
  have hne : ¬f0=f:=λz=>nd.1 (by rw[z];exact mem_of_getElem? e1')
  show RelF K ρ H _ (if f0=f then _ else _) _;rw[Xn hne];exact .cons h (RelF.set r nd.2 t e1' (by simpa using e2))
theorem RelF.snoc{v:V}{w:W}(r:Rel K ρ H v w):∀{ns:List Str} {vs:List (Str×V)} {ws:List W} {f:Str},ns.Nodup->RelF K ρ H ns vs ws->ns[ws.length]? = some f->RelF K ρ H ns (ZCH f v vs) (ws++[w])
 |[],_,_,_,_,.nil,e=>by simp at e
 |f0::ns,_,_,_,_,.nil,e=>by
  cases e;exact .cons r .nil
 |f0::ns,_,_,f,nd,.cons (v:=v0) (vs:=vs) (xs:=xs) h t,e1=>by
  rw[nodup_cons] at nd;have e1':ns[xs.length]? = some f:=by simpa using e1
  have hne : ¬f0=f:=λz=>nd.1 (by rw[z];exact mem_of_getElem? e1')
  show RelF K ρ H _ (if f0=f then _ else _) _;rw[Xn hne];exact .cons h (RelF.snoc r nd.2 t e1')
end
open Classical in
noncomputable def ZHP(c:CD)(w:W)(g:G):Option (List W):=match w with
 |.ref n=>match g[n]? with
  |some (.ob c' ws)=>if c'=c then some ws else none
  |_=>none
 |_=>none
variable{g:G}{ws:List W}
theorem ZIo{c:CD}{n:Nat}(h:g[n]? = some (.ob c ws)):ZHP c (.ref n) g=some ws:=by
 unfold ZHP;dsimp only;rw[h];exact Xp rfl
theorem ZGy{c:CD}{w:W}{v:V}(h:ZHP c w g=some ws)(hR:HR K ρ H g)(r:Rel K ρ H v w):∃n a C dx vs,w=.ref n/\ρ.c[n]? = some a/\g[n]? = some (.ob c ws)/\v=.ref a/\nsIn K mainGlobals c.nm=some (some (.ref C))/\H a=some (.ins C dx vs)/\RelF K ρ H c.fs vs ws:=by
 unfold ZHP at h;cases w with
 |ref n =>
  dsimp only at h
  split at h
  .rename_i c' ws' e
   split at h
   .rename_i ec
    cases h;subst ec;cases r with
    |ref hn =>
     obtain⟨b,h1,C,dx,vs,h2,h3,h4⟩:=hR.ce _ _ e;rw[hn] at h1;cases h1;exact⟨n,_,C,dx,vs,rfl,hn,e,rfl,h2,h3,h4⟩
   .cases h
  .cases h
 |_=>cases h
variable{o:Expr}{C:Addr}{dobj:DE}{es:List Expr}{m qual:Str}{ps:List Str}{fd:FuncData}{k:Nat}{apos:Pos}
section
variable{X:Cx}{pos:Pos}
def ZAr(c:CD)(i:Nat)(d:DE):DE:=λsd g=>(d sd g).bind λp=>(ZHP c p.1 p.2).bind λws=>(ws[i]?).map λw=>(w,p.2)
theorem ZTP{c:CD}{f:Str}(k:Kls X.K X.mg c C)(hf:c.fs[i]? = some f)(ho:JE X o d)(hb:attributeBase o f X.env (eval o X.env)=eval o X.env:=by rfl):JE X (.Attribute o f pos) (ZAr c i d):=⟨(ZUI ho.h hb).imp λσ H Q ⟨ρ,sd,g,x,g',r,e,q⟩=>by
 obtain⟨⟨y,g1⟩,e1,e⟩:=bnd e;obtain⟨ws,e2,e⟩:=bnd e;obtain⟨w,e3,e⟩:=mp e;cases e;refine⟨ρ,sd,g,y,g1,r,e1,λv H1 ρ1 s1 h1 r1=>?_⟩;obtain⟨n,a,C',dx,vs,rfl,hn,hg,rfl,hC,ha,hF⟩:=ZGy e2 h1 r1;rw[k.ns] at hC;cases hC;obtain⟨u,l1,l2⟩:=hF.look k.nd hf e3;exact⟨a,C,dx,vs,u,rfl,ha,k.cl,k.na f (mem_of_getElem? hf),l1,q u H1 ρ1 s1 h1 l2⟩⟩
noncomputable def ZRa(i:Nat)(w:W)(ws:List W):Option (List W):=if i<ws.length then some (ws.set i w) else if i=ws.length then some (ws++[w]) else none
def ZCG(c:CD)(i:Nat)(dobj d:DE):DS:=λsd g=>(d sd g).bind λv=>(dobj sd v.2).bind λo=>(ZHP c o.1 o.2).bind λws=>match o.1 with
 |.ref n=>if ws.length<1000 then (ZRa i v.1 ws).map λus=>.nx sd (o.2.set n (.ob c us)) else none
 |_=>none
theorem ZRz{c:CD}{f:Str}{pos':Pos}(k:Kls X.K X.mg c C)(hf:c.fs[i]? = some f)(ho:JE X o dobj)(he:JE X e d)(hs:swapsWith e (some (.Attribute o f pos')) pos.line X.env=pure false:=by rfl) :
  JS X (.Assign [.Attribute o f pos'] e pos) (ZCG c i dobj d):=⟨(have ho:=ho.h;have he:=he.h;(ZVw ho he hs).imp λD σ H ⟨ρ,sd,g,oo,r,e,q⟩=>by
 obtain⟨⟨y,g1⟩,e1,e⟩:=bnd e;obtain⟨⟨z,g2⟩,e2,e⟩:=bnd e;obtain⟨ws,e3,e⟩:=bnd e;refine⟨ρ,sd,g,y,g1,r,e1,λv H1 ρ1 s1 h1 r1=>⟨ρ1,sd,g1,z,g2,r.step s1 h1,e2,λu H2 ρ2 s2 h2 r2=>?_⟩⟩;obtain⟨n,a,C',dx,vs,rfl,hn,hg,rfl,hC,ha,hF⟩:=ZGy e3 h2 r2;rw[k.ns] at hC;cases hC;dsimp only at e
 split at e
 .rename_i hz
  obtain⟨us,e4,e⟩:=mp e;cases e;have r1':=r1.mono s2;have hF2:RelF X.K ρ2 H2 c.fs (ZCH f v vs) us:=by
   unfold ZRa at e4
   split at e4
   .rename_i hi
    cases e4;exact hF.set r1' k.nd hf hi
   .split at e4
    .rename_i hi
     cases e4;subst hi;exact hF.snoc r1' k.nd hf
    .cases e4
  obtain⟨hw,sw⟩:=h2.writeC hn (o:=.ins C dx (ZCH f v vs)) (c:=.ob c us) (λu e=>by rw[ha] at e;cases e;rfl) (λs=>⟨C,dx,_,k.ns,Za,hF2.mono s⟩);exact⟨a,C,dx,vs,rfl,ha,k.cl,k.na f (mem_of_getElem? hf),by rw[hF.len];exact hz,q σ _ ρ2 (s1.trans (s2.trans sw)) (r.step (s1.trans (s2.trans sw)) hw)⟩
 .cases e)⟩
def ZFD(c:CD)(fn:FW)(dobj:DE)(aa:DA):DE:=λsd g=>(dobj sd g).bind λo=>(ZHP c o.1 o.2).bind λ_=>(aa sd o.2).bind λp=>fn (o.1::p.1) p.2
theorem ZS2{c:CD}{st:Stmt}{f:Addr}{n:Nat}{fn:FW}{pl:Sem Bool}(kl:Kls X.K X.mg c C)(D:MDef X.K C m qual st ps f fd)(F:FnOk X.prog X.w X.K X.mg X.base CX0 k f fd ps (spD X.K (n+1) fn))(hr:Room k X.A)(hm:m∉c.fs)
  (ho:PE X o (tE X.K dobj))(ha:PA X (e::es) (tA X.K aa))(hn:Many aa n)(hst:Ya X e es:=by rfl)(hpl:Yb X pos es:=by rfl)
  (ht:eval (.Call (.Attribute o m apos) (e :: es) [] pos) X.env=(do
   let ov <-eval o X.env
   standAt apos.atName
   let (f,first) <-holding [ov] (getMethod ov m pl)
   callWith pos f first (backTo pos (starEach (e::es) X.env)) (backToKw pos (keywordEach [] X.env))):=by rfl) :
  PE X (.Call (.Attribute o m apos) (e::es) [] pos) (tE X.K (ZFD c fn dobj aa)):=(ZTC (pl:=pl) ho kl.cl D.me F hr D.bd .nil ZMb ha hst hpl ht).imp λσ H Q ⟨ρ,sd,g,x,g',r,e,q⟩=>by
 obtain⟨⟨y,g1⟩,e1,e⟩:=bnd e;obtain⟨ws,e2,e⟩:=bnd e;obtain⟨⟨us,g2⟩,e3,e⟩:=bnd e;refine⟨ρ,sd,g,y,g1,r,e1,λv H1 ρ1 s1 h1 r1=>?_⟩;obtain⟨n',a,C',dx,vs,rfl,hn',hg,rfl,hC,ha,hF⟩:=ZGy e2 h1 r1;rw[kl.ns] at hC;cases hC;refine⟨a,dx,vs,rfl,ha,hF.no hm,ρ1,sd,g1,us,g2,r.step s1 h1,e3,λvs2 H2 ρ2 s2 h2 r2=>?_⟩;show spD X.K (n+1) fn (V.ref a::(vs2++[])) H2 Q E0;rw[append_nil];exact⟨by rw[Xc,r2.length,hn.len e3],ρ2,_,g2,x,g',h2,.cons (r1.mono s2) r2,e,q.step (s1.trans s2)⟩
theorem ZO1{c:CD}{st:Stmt}{f:Addr}{n:Nat}{fn:FW}{pl:Sem Bool}(kl:Kls X.K X.mg c C)(D:MDef X.K C m qual st ps f fd)(F:FnOk X.prog X.w X.K X.mg X.base CX0 k f fd ps (spD X.K (n+1) fn))(hr:Room k X.A)(hm:m∉c.fs)
  (ho:JE X o dobj)(ha:JA X (e::es) aa)(hn:Many aa n)(hst:Ya X e es:=by rfl)(hpl:Yb X pos es:=by rfl)
  (ht:eval (.Call (.Attribute o m apos) (e :: es) [] pos) X.env=(do
   let ov <-eval o X.env
   standAt apos.atName
   let (f,first) <-holding [ov] (getMethod ov m pl)
   callWith pos f first (backTo pos (starEach (e::es) X.env)) (backToKw pos (keywordEach [] X.env))):=by rfl) :
  JE X (.Call (.Attribute o m apos) (e::es) [] pos) (ZFD c fn dobj aa):=⟨ZS2 (pl:=pl) kl D F hr hm ho.h ha.h hn hst hpl ht⟩
noncomputable def ZMn(c:CD)(fn:FW)(aa:DA):DE:=λsd g=>(aa sd g).bind λp=>(fn (.ref p.2.length::p.1) (p.2++[.ob c []])).bind λz=>match z.1 with
 |.dat .none=>some (.ref p.2.length,z.2)
 |_=>none
theorem ZOm{c:CD}{st:Stmt}{f:Addr}{n:Nat}{fn:FW}(kl:Kls X.K X.mg c C)(hx:x=c.nm)(M:Mk X.K C f)(D:MDef X.K C "__init__" qual st ps f fd)(F:FnOk X.prog X.w X.K X.mg X.base CX0 k f fd ps (spD X.K (n+1) fn))(hr:Room (k+1) X.A)
  (ha:JA X (e::es) aa)(hn:Many aa n)(hg:Gl X x:=by rfl)(hdb:Yf x:=by decide)(he:Ya X e es:=by rfl)(hpl:Yb X pos es:=by rfl) :
  JE X (.Call (.Name x p) (e::es) [] pos) (ZMn c fn aa):=⟨(ZRW M F hr hg (by rw[hx];exact kl.mg_) D.bd .nil ZMb ha.h hdb he hpl).imp λσ H Q ⟨ρ,sd,g,z,g',r,e,q⟩=>by
 obtain⟨⟨ws,g1⟩,e1,e⟩:=bnd e;obtain⟨⟨z2,g2⟩,e2,e⟩:=bnd e;refine⟨ρ,sd,g,ws,g1,r,e1,λvs H1 ρ1 s1 h1 r1=>?_⟩;intro a dx na ndx ne;obtain⟨sm,hr2,hnm⟩:=ZCV (o:=.own a) h1 ndx;have s2:Stp ρ1 H1 ρ1 (upd H1 dx (.own a)):=.same sm;obtain⟨hr3,s3⟩:=hr2.allocC (p:=a) (by rw[ZG (Ne.symm ne)];exact na) (o:=.ins C dx []) (c:=.ob c []) λs=>⟨C,dx,[],kl.ns,Za,.nil⟩
 have r1':=(r1.mono s2).mono s3;show spD X.K (n+1) fn (V.ref a::(vs++[])) _ _ E0;rw[append_nil];have ha':(ρ1.add a).c[g1.length]? = some a:=by show(ρ1.c++[a])[_]? = _;rw[<-h1.len];simp
 refine⟨by rw[Xc,r1.length,hn.len e1],ρ1.add a,_,_,z2,g2,hr3,.cons (.ref ha') r1',e2,λv H4 ρ4 s4 h4 r4=>?_⟩;cases r4 with
 |dat r4 =>
  cases r4 with
  |non =>
   cases e;exact⟨rfl,q _ H4 ρ4 (s1.trans (s2.trans (s3.trans s4))) h4 (.ref (ZER s4 ha'))⟩
  |_=>cases e
 |_=>cases e⟩
noncomputable def ZVP:DS:=λ_ _=>none
theorem ZSG{st:Stmt}:JS X st ZVP:=⟨λpq s σ H D I h=>by obtain⟨_,_,_,_,_,e,_⟩:=h;cases e⟩
noncomputable def ZKq(ws:List W)(g:G):Option (W×G):=if ws.length<=1000 then some (.ref g.length,g++[.rl ws]) else none
theorem ZNh(h:JA X es aa):JE X (.List es pos) (dF ZKq aa):=⟨(ZLD h.h).imp λσ H Q ⟨ρ,sd,g,x,g',r,e,q⟩=>by
 obtain⟨⟨ws,g1⟩,e1,e⟩:=bnd e;refine⟨ρ,sd,g,ws,g1,r,e1,λvs H1 ρ1 s1 h1 r1=>?_⟩;unfold ZKq at e
 split at e
 .rename_i hz
  cases e;refine⟨by rw[r1.length];exact le_of_lt (Zt hz),λp hp=>?_⟩;obtain⟨hr2,st⟩:=h1.allocC hp (o:=.lst vs) (c:=.rl ws) λs=>⟨vs,Za,r1.mono s⟩
  exact q _ _ _ (s1.trans st) hr2 (.ref (by show(ρ1.c++[p])[_]? = _;rw[<-h1.len];simp))
 .cases e⟩
end
section
variable{sd:Sd}{g:G}{P:W->G->Prop}{PS':Out->Prop}{d dobj:DE}{aa:DA}{c:CD}
theorem x_fld(h:EvP (d sd g) λx g1=>∃n ws w,x=.ref n/\g1[n]? = some (.ob c ws)/\ws[i]? = some w/\P w g1):EvP (ZAr c i d sd g) P:=by
 obtain⟨x,g1,e1,n,ws,w,rfl,e2,e3,h⟩:=h;refine⟨w,g1,?_,h⟩;unfold ZAr;rw[e1];show(ZHP c (.ref n) g1).bind _=_;rw[ZIo e2];show(ws[i]?).map _=_;rw[e3];rfl
theorem ZUb(h:EvP (d sd g) λv g1=>EvP (dobj sd g1) λx g2=>∃n ws us,x=.ref n/\g2[n]? = some (.ob c ws)/\ws.length<1000/\ZRa i v ws=some us/\PS' (.nx sd (g2.set n (.ob c us)))):EvS (ZCG c i dobj d sd g) PS':=by
 obtain⟨v,g1,e1,x,g2,e2,n,ws,us,rfl,e3,hz,e4,h⟩:=h;refine⟨_,?_,h⟩;unfold ZCG;rw[e1];show(dobj sd g1).bind _=_;rw[e2];show(ZHP c (.ref n) g2).bind _=_;rw[ZIo e3];show(if ws.length<1000 then _ else _)=_;rw[Xp hz];show(ZRa i v ws).map _=_;rw[e4];rfl
theorem ZUw{fn:FW}(h:EvP (dobj sd g) λx g1=>∃n ws,x=.ref n/\g1[n]? = some (.ob c ws)/\EvP (aa sd g1) λvs g2=>EvP (fn (.ref n::vs) g2) P):EvP (ZFD c fn dobj aa sd g) P:=by
 obtain⟨x,g1,e1,n,ws,rfl,e2,vs,g2,e3,y,g3,e4,h⟩:=h;refine⟨y,g3,?_,h⟩;unfold ZFD;rw[e1];show(ZHP c (.ref n) g1).bind _=_;rw[ZIo e2];show(aa sd g1).bind _=_;rw[e3];exact e4
theorem ZTm{fn:FW}(h:EvP (aa sd g) λvs g1=>EvP (fn (.ref g1.length::vs) (g1++[.ob c []])) λz g2=>z=.dat .none/\P (.ref g1.length) g2):EvP (ZMn c fn aa sd g) P:=by
 obtain⟨vs,g1,e1,z,g2,e2,rfl,h⟩:=h;refine⟨_,g2,?_,h⟩;unfold ZMn;rw[e1];show(fn _ _).bind _=_;rw[e2];rfl
end
end _L
namespace _L
open PySem PySem.Spec PyProof.Rows H1
theorem ZGU{M:Model}{A:Around}{E:Yi}{s:Shared}{a b:Value}{T id:String}{Q:Yi}(ha:s.TypeIs a T)(hb:s.TypeIs b T)
  (hI:typeLookup (.type T) (dunderI "add")=pure (some (.builtin id)))(hS:isSeqSlot (some (.builtin id))=true)(hfill:fillsNumberSlot (.type T) "add" = pure false)
  (hc:wpAny M A (call (.builtin id) [a,b]) Q E s):wpAny M A (inplaceOp .Add a b) Q E s:=by
 unfold inplaceOp;refine wpAny_holding ?_;have hfi:fillsInplaceSlot (.type T) "add" (Operator.Add == .Add)=pure false:=by
  unfold fillsInplaceSlot;show(typeLookup (.type T) (dunderI "add") >>= λfi=>pure (fi.isSome && !isSeqSlot fi))=pure false;rw[hI,pure_bind,hS];rfl
 have hsi:seqSlot? (.type T) (dunderI "add")=pure (some (.builtin id)):=PySem.seqSlot_of hI hS;refine Xb (wpAny_typeOf ha (Xb (wpAny_of_eq hfi ?_)));show wpAny M A (if false=true then _ else _) Q E s;rw[Xn Xf];refine Xb (wpAny_binaryOp1_none (nm:="add") ha hb hfill ?_);refine Xb (wpAny_of_eq hsi ?_);exact Xb (wpAny_rule hc)
variable{i:Nat}{d:DE}
section
variable{X:Cx}
def ipExt:TIp:=λx y H Q=>∃l b xs zs,x=.ref l/\y=.ref b/\H l=some (.lst xs)/\H b=some (.lst zs)/\xs.length+zs.length<=sizeLine/\Q (.ref l) (upd H l (.lst (xs++zs)))
theorem ZTr:PIp X .Add ipExt:=by
 intro pq s σ H x y v u Q I rx ry h;obtain⟨l,b,xs,zs,rfl,rfl,hH,hB,hz,q⟩:=h;cases rx;cases ry;obtain⟨z,its,n,r,hl,e⟩:=I.lstM hH;obtain⟨z2,its2,n2,r2,hl2,e2⟩:=I.lstM hB;have hsz:its.toArray.size+its2.toArray.size<=sizeLine:=by rw[size_toArray,size_toArray];omega
 have hlong : ¬(!its.toArray.isEmpty && Builtin.List.listTooLong (its.toArray.size+its2.toArray.size))=true:=by
  rw[ZJi hsz,Bool.and_false];exact Xf
 refine ZGU (T:="list") ⟨_,e,rfl⟩ ⟨_,e2,rfl⟩ F.slot_list_iadd.lookup (by decide +kernel) PySem.noFill_list_add ?_;refine call_meets F.slot_list_iadd ⟨_,e,rfl⟩ F.entry_list_iadd (F.args_list_iadd_2 _ _)
  (AutoSeq1.list___iadd___list_list_0 l its.toArray n b its2.toArray n2 hlong (by rw[size_toArray];omega) ⋯) ⟨e,e2,?_⟩
 refine⟨.ref l,_,I.lset (its':=its++its2) hH e (by simp) (r.append r2) ?_,rfl,q⟩;rw[Xa];omega
def ZJx(i:Nat)(d:DE):DS:=λsd g=>match sd.getD i none with
 |some (.ref n)=>(d sd g).bind λp=>match p.1 with
  |.dat (.list es)=>(lk p.2 n).bind λds=>if ds.length+es.length<=1000 then some (.nx (sd.set i (some (.ref n))) (p.2.set n (.pl (ds++es)))) else none
  |_=>none
 |_=>none
theorem ZPc{x:Str}{e:Expr}{pos pos':Pos}(hN:X.N.Nodup)(hi:X.N[i]? = some x)(hx:Loc X.env.scope x)(he:JE X e d)(hf:Ye X x:=by first|exact .inl rfl|exact .inr rfl|assumption) :
  JS X (.AugAssign (.Name x pos') .Add e pos) (ZJx i d):=⟨(ZPi hN hi hx he.h ZTr hf).imp λD σ H ⟨ρ,sd,g,oo,r,e,q⟩=>by
 unfold ZJx at e;cases h:sd.getD i none with
 |none=>rw[h] at e;cases e
 |some w =>
  rw[h] at e;have h':sd[i]? = some (some w):=by
   rw[Xq] at h;cases k:sd[i]? with
   |none=>rw[k] at h;cases h
   |some w=>rw[k] at h;exact congrArg some h
  obtain⟨v,h1,h2⟩:=r.env i w h';refine⟨v,h1,?_⟩;cases h2 with
  |@ref a n hn =>
   obtain⟨⟨y,g1⟩,e1,e⟩:=bnd e;refine⟨ρ,sd,g,y,g1,r,e1,λv H1 ρ1 s1 h1 r1=>?_⟩;cases r1 with
   |dat r1 =>
    cases r1 with
    |@lst b vs ds hb nb t =>
     obtain⟨es,e2,e⟩:=bnd e;dsimp only at e
     split at e
     .rename_i hz
      cases e;obtain⟨a',us,k1,k2,k3⟩:=h1.at_ _ _ (ZFa e2);have hn2:=ZER s1 hn;rw[hn2] at k1;cases k1;obtain⟨hw,sw⟩:=h1.write hn2 k2 (k3.append t);exact⟨_,_,us,vs,rfl,rfl,k2,hb,by rw[k3.length,t.length];exact le_of_lt (Zt hz),q _ _ ρ1 (s1.trans sw) ((r.step (s1.trans sw) hw).set (.ref hn2) i)⟩
     .cases e
    |_=>cases e
   |_=>cases e
  |_=>cases e⟩
end
variable{sd:Sd}{g:G}
theorem ZVL{PS':Out->Prop}{n:Nat}(hi:sd.getD i none=some (.ref n))(h:EvP (d sd g) λx g1=>∃es,x=.dat (.list es)/\∃ds,g1[n]? = some (.pl ds)/\ds.length+es.length<=1000/\PS' (.nx (sd.set i (some (.ref n))) (g1.set n (.pl (ds++es))))):EvS (ZJx i d sd g) PS':=by
 obtain⟨x,g1,e1,es,rfl,ds,e2,hz,h⟩:=h;refine⟨_,?_,h⟩;unfold ZJx;rw[hi];show(d sd g).bind _=_;rw[e1];show(lk g1 n).bind _=_;rw[ZDl e2];exact Xp hz
noncomputable def ZTX:W->Bool
 |.dat .none=>true
 |_=>false
def ZMI:W->W->G->Option (W×G)
 |x,.dat .none,g=>some (.dat (.bool (ZTX x)),g)
 |_,_,_=>none
variable{K:Frag}
theorem ZOZ{ρ:Rh}{H:Hp}{x:V}{w:W}{v:Value}(r:Rel K ρ H x w)(rx:Zq x v):(v == Value.none)=ZTX w:=by
 cases r with
 |dat r =>
  cases r with
  |non=>cases rx;rfl
  |bl b=>cases rx;rfl
  |int i=>obtain⟨t,rfl⟩:=rx;rfl
  |str i=>obtain⟨t,rfl⟩:=rx;rfl
  |tup _ _=>cases rx;rfl
  |lst _ _ _=>cases rx;rfl
  |dct _ _=>cases rx;rfl
 |ref _=>cases rx;rfl
 |inp _=>cases rx;rfl
 |ty=>cases rx;rfl
 |exc _=>cases rx;rfl
 |tup _ _=>cases rx;rfl
section
variable{X:Cx}
theorem ZUq:OpR X (compareOp .Is) (rOp X.K ZMI):=by
 intro pq s σ H x y v u Q I rx ry h;obtain⟨ρ,a,b,g,z,g',hR,ra,rb,e,q⟩:=h;cases rb with
 |dat rb =>
  cases rb with
  |non =>
   cases e;cases ry;exact is_none_gen ⟨.bl _,H,I,by rw[ZOZ ra rx];rfl,q.at hR (.dat (.bl _))⟩
  |_=>cases e
 |_=>cases e
end
noncomputable def H0:Hs:=(0,[],[],[])
structure En where
 r:Ru
 ts:List (Int×Int)
 tn:Int
 lo:List Int
abbrev Lt:=Int×Int×Bool
noncomputable def ltD(l:Lt):PyData:=.tuple [.int l.1,.int l.2.1,.bool l.2.2]
structure Rw where
 hs:List Hs
 le:List Lt
noncomputable def abF(b:List (Int×Int))(h:Nat):Bool:=decide ((b.getD h (0,0)).2<2)
section
variable(e:En)
def ZAf(x y:Nat):List Int:=ZAg e.r.cl x y (ZAE (e.ts.getD x (0,0)) e.tn % ((e.ts.length:Nat):Int))
def ZBS(h:Hs)(x y:Nat):List Int:=ZAw e.r h.2.2.1 x (ZAf e x y)
def Zn(x y:Nat)(hs:List Hs):List Hs:=hs.set x ((hs.getD x H0).1,(hs.getD x H0).2.1,Z9 (hs.getD x H0).2.2.1 (ZBS e (hs.getD x H0) x y),(hs.getD x H0).2.2.2)
def Zp(x y:Nat)(hs:List Hs):List Hs:=(Zn e x y hs).set y (ZW e.r.cl y (hs.getD y H0) (ZAO (hs.getD x H0).2.1 (ZAf e x y) (ZBS e (hs.getD x H0) x y) e.ts.length))
def ZH(x y:Nat)(R:Rw):Bool×Rw :=
 if e.lo.contains (R.le.length:Int)=true then (false,⟨Zn e x y R.hs,R.le++[((x:Int),(y:Int),true)]⟩)
 else if (R.hs.getD y H0).1=0 then (false,⟨Zn e x y R.hs,R.le++[((x:Int),(y:Int),false)]⟩)
 else (true,⟨Zp e x y R.hs,R.le++[((x:Int),(y:Int),false)]⟩)
def Zu:List (Nat×Nat)->Rw->Bool×Rw
 |[],R=>(true,R)
 |p::w,R=>if (ZH e p.1 p.2 R).1=true then Zu w (ZH e p.1 p.2 R).2 else (false,(ZH e p.1 p.2 R).2)
def ZX:List (List (Nat×Nat))->Rw->Bool×Rw
 |[],R=>(false,R)
 |w::ws,R=>if (Zu e w R).1=true then (true,(Zu e w R).2) else ZX ws (Zu e w R).2
def ZFy(book:List (Int×Int))(a b:Nat):List Nat:=((((List.range (book.length-1)).map λk=>(a+(k+1)) % book.length).filter λh=>!decide (h=b) && abF book h)).take e.r.o.toNat
def Zc(hs:List Hs)(a b:Nat):List (List (Nat×Nat)):=[(a,b),(b,a)] ::
 (if (ZS e.r.cl "others" && abF (hs.getD a H0).2.1 b)=true then (ZFy e (hs.getD a H0).2.1 a b).map λh=>[(a,h),(h,b),(b,h),(h,a)] else [])
def ZA2(b:Nat)(ans:Bool)(h:Hs):Hs :=
 if ans=true then (h.1,h.2.1,h.2.2.1,h.2.2.2.set b 0)
 else if (abF h.2.1 b && (!ZS e.r.cl "wait" || decide (h.2.2.2.getD b 0=1)))=true then (h.1,h.2.1.set b ((h.2.1.getD b (0,0)).1,2),h.2.2.1.set b 0,h.2.2.2.set b 0)
 else if (abF h.2.1 b && decide (h.2.2.2.getD b 0=0))=true then
  (if (h.2.1.getD b (0,0)).2=0 then (h.1,h.2.1.set b ((h.2.1.getD b (0,0)).1,1),h.2.2.1.set b 0,h.2.2.2.set b e.r.w) else (h.1,h.2.1,h.2.2.1,h.2.2.2.set b e.r.w))
 else if abF h.2.1 b=true then (h.1,h.2.1,h.2.2.1,h.2.2.2.set b (h.2.2.2.getD b 0-1))
 else h
def ZAG(a b:Nat)(ans:Bool)(hs:List Hs):List Hs:=hs.set a (ZA2 e b ans (hs.getD a H0))
def tgF(a:Nat):Nat:=(((a:Int)+1+(ZAE (e.ts.getD a (0,0)) e.tn-1) % ((e.ts.length:Int)-1)) % (e.ts.length:Int)).toNat
def ZDZ(a b:Nat)(hs:List Hs):Bool:=if b=tgF e a then ZS e.r.cl "again" || abF (hs.getD a H0).2.1 b else decide (0<(hs.getD a H0).2.2.2.getD b 0)
def Zf(a b:Nat)(R:Rw):Rw:=if ZDZ e a b R.hs=true then ⟨ZAG e a b (ZX e (Zc e R.hs a b) R).1 (ZX e (Zc e R.hs a b) R).2.hs,(ZX e (Zc e R.hs a b) R).2.le⟩ else R
def ZBX(a:Nat):List Nat:=tgF e a::(List.range e.ts.length).filter λb=>!decide (b=a) && !decide (b=tgF e a)
def ZG8(a:Nat)(R:Rw):Rw:=(ZBX e a).foldl (λR b=>Zf e a b R) R
noncomputable def ZAH(c:Int×Int)(n:Int):Bool:=decide (c.2<=n) && decide ((n-c.2) % c.1=0)
def ZCP(a:Nat)(hs:List Hs):Bool:=decide ((hs.getD a H0).1=1) && ZAH (e.ts.getD a (0,0)) e.tn
def ZQ(a:Nat)(R:Rw):Rw:=if ZCP e a R.hs=true then ZG8 e a R else R
def ZBr(R:Rw):Rw:=(List.range e.ts.length).foldl (λR a=>ZQ e a R) R
def Z2(x:Nat)(R:Rw):Rw:=(List.range e.ts.length).foldl (λR y=>if y=x then R else (ZH e x y R).2) R
end
def Z5(x:Nat)(hs:List Hs):List Hs:=hs.set x (0,(hs.getD x H0).2.1,(hs.getD x H0).2.2.1,(hs.getD x H0).2.2.2)
noncomputable def doH(fa le co:List Int)(i:Nat)(h:Hs):Hs :=
 if fa.contains (i:Int)=true then (0,h.2.1,h.2.2.1,List.replicate h.2.2.2.length 0)
 else if le.contains (i:Int)=true then (h.1,h.2.1.set i ((h.2.1.getD i (0,0)).1,3),h.2.2.1.set i 0,List.replicate h.2.2.2.length 0)
 else if co.contains (i:Int)=true then (1,h.2.1.set i ((h.2.1.getD i (0,0)).1+1,0),h.2.2.1.set i 0,h.2.2.2)
 else h
def ZU(fa le co:List Int)(hs:List Hs):List Hs:=(List.range hs.length).map λi=>doH fa le co i (hs.getD i H0)
def ZAc(r:Ru)(ts:List (Int×Int))(tn:Int)(hs:List Hs)(lo fa le co:List Int):Rw :=
 let e:En:=⟨r,ts,tn,lo⟩
 let R1:=(le++co).foldl (λR x=>Z2 e x.toNat R) ⟨ZU fa le co hs,[]⟩
 ZBr e ⟨le.foldl (λhs x=>Z5 x.toNat hs) R1.hs,R1.le⟩
structure HL (n:Nat) (h:Hs):Prop where
 up:h.1=0\/h.1=1
 bl:h.2.1.length=n
 tl:h.2.2.1.length=n
 ml:h.2.2.2.length=n
structure HsL (n:Nat) (hs:List Hs):Prop where
 len:hs.length=n
 all:∀h∈hs,HL n h
variable{hs:List Hs}
theorem HsL.get{n:Nat}(w:HsL n hs)(hi:i<n):HL n (hs.getD i H0):=w.all _ (ZFB (d:=H0) (by rw[w.len];exact hi))
theorem HsL.set{n i:Nat}{hs:List Hs}{h:Hs}(w:HsL n hs)(hh:HL n h):HsL n (hs.set i h):=⟨by rw[length_set];exact w.len,λz hz=>ZLQ w.all hh hz⟩
variable{cl:List Str}{h:Hs}
theorem ZS1{y n:Nat}{x:Nat×(Int×Int)}(w:HL n h):HL n (ZY cl y h x):=by
 unfold ZY
 split
 .unfold ZCv
  split
  .exact⟨w.up,by rw[length_set];exact w.bl,by rw[length_set];exact w.tl,w.ml⟩
  .exact w
 .unfold ZCu
  split
  .refine⟨w.up,by rw[length_set];exact w.bl,by rw[length_set];exact w.tl,?_⟩
   show(if x.2.2=1 then h.2.2.2 else h.2.2.2.set x.1 0).length=n
   split
   .exact w.ml
   .rw[length_set];exact w.ml
  .exact w
theorem ZF5{cl:List Str}{y n:Nat}:∀{ns:List (Nat×(Int×Int))} {h:Hs},HL n h->HL n (ZW cl y h ns)
 |[],_,w=>w
 |x::r,h,w=>by
  show HL n (ZW cl y (ZY cl y h x) r);exact ZF5 (ZS1 w)
variable{x a b:Nat}{R:Rw}{book:Qi}{ans:Bool}
section
variable{e:En}{n:Nat}
theorem ZJA{y:Nat}(w:HsL n hs)(hx:x<n):HsL n (Zn e x y hs):=w.set ⟨(w.get hx).up,(w.get hx).bl,by rw[show ∀(a:Int) b c d,((a,b,c,d):Hs).2.2.1=c from λ_ _ _ _=>rfl,ZBb];exact(w.get hx).tl,(w.get hx).ml⟩
theorem ZRL{y:Nat}(w:HsL n hs)(hx:x<n)(hy:y<n):HsL n (Zp e x y hs):=(ZJA w hx).set (ZF5 (w.get hy))
theorem ZAv{y:Nat}(w:HsL n R.hs)(hx:x<n)(hy:y<n):HsL n (ZH e x y R).2.hs:=by
 unfold ZH
 split
 .exact ZJA w hx
 .split
  .exact ZJA w hx
  .exact ZRL w hx hy
theorem ZEG{y:Nat}:(ZH e x y R).2.le.length=R.le.length+1:=by
 unfold ZH
 split
 .simp
 .split <;> simp
theorem ZCi:∀{w:List (Nat×Nat)} {R:Rw},HsL n R.hs->(∀p∈w,p.1<n/\p.2<n)->HsL n (Zu e w R).2.hs/\(Zu e w R).2.le.length<=R.le.length+w.length
 |[],R,h,_=>⟨h,le_refl _⟩
 |p::w,R,h,hp=>by
  have hp0:=hp p (Xs ..);have h1:=ZAv (e:=e) h hp0.1 hp0.2;have h2:=ZEG (e:=e) (x:=p.1) (y:=p.2) (R:=R);rw[Zu]
  split
  .obtain⟨h3,h4⟩:=ZCi (w:=w) h1 λq hq=>hp q (Xo _ hq)
   exact⟨h3,by rw[Xc];omega⟩
  .exact⟨h1,by rw[Xc];show(ZH e p.1 p.2 R).2.le.length<=_;omega⟩
theorem ZBN:∀{ws:List (List (Nat×Nat))} {R:Rw},HsL n R.hs->(∀w∈ws,∀p∈w,p.1<n/\p.2<n)->HsL n (ZX e ws R).2.hs/\(ZX e ws R).2.le.length<=R.le.length+(ws.map List.length).sum
 |[],R,h,_=>⟨h,le_refl _⟩
 |w::ws,R,h,hp=>by
  obtain⟨h1,h2⟩:=ZCi (e:=e) (w:=w) h (hp w (Xs ..));rw[ZX]
  split
  .exact⟨h1,by rw[map_cons,sum_cons];show(Zu e w R).2.le.length<=_;omega⟩
  .obtain⟨h3,h4⟩:=ZBN (ws:=ws) h1 λq hq=>hp q (Xo _ hq)
   exact⟨h3,by rw[map_cons,sum_cons];omega⟩
theorem ZHS{h:Nat}(hh:h∈ZFy e book a b)(hn : 0<book.length):h<book.length/\h≠b/\∃k,k<book.length-1/\h=(a+(k+1)) % book.length:=by
 unfold ZFy at hh;have h1:=List.mem_filter.mp (List.mem_of_mem_take hh);obtain⟨k,hk,rfl⟩:=List.mem_map.mp h1.1;refine⟨mod_lt _ hn,λz=>?_,k,List.mem_range.mp hk,rfl⟩;have h2:=h1.2;rw[z,Xe rfl] at h2;cases h2
theorem ZOd{h:Nat}(hh:h∈ZFy e book a b)(ha:a<book.length):h≠a:=by
 obtain⟨h1,h2,k,hk,rfl⟩:=ZHS hh ⋯
 by_cases z:a+(k+1)<book.length
 .rw[Nat.mod_eq_of_lt z];omega
 .rw[Nat.mod_eq_sub_mod ⋯,Nat.mod_eq_of_lt ⋯];omega
theorem ZHb(ho : 0<=e.r.o/\e.r.o<=3):(ZFy e book a b).length<=3:=by
 unfold ZFy;rw[length_take];omega
theorem Z4{hs:List Hs}{a b:Nat}(w:HsL n hs)(ha:a<n)(hb:b<n)(hab:a≠b):∀v∈Zc e hs a b,∀p∈v,(p.1<n/\p.2<n)/\p.1≠p.2:=by
 have hbl:=(w.get ha).bl;intro v hv p hp;unfold Zc at hv;rcases List.mem_cons.mp hv with rfl|hv
 .simp only[mem_cons,not_mem_nil,or_false] at hp
  rcases hp with rfl|rfl
  .exact⟨⟨ha,hb⟩,hab⟩
  .exact⟨⟨hb,ha⟩,λz=>hab z.symm⟩
 .split at hv
  .obtain⟨h,hh,rfl⟩:=List.mem_map.mp hv
   have h1:=ZHS hh (by rw[hbl];omega);have h2:=ZOd hh (by rw[hbl];exact ha);rw[hbl] at h1;simp only[mem_cons,not_mem_nil,or_false] at hp;rcases hp with rfl|rfl|rfl|rfl
   .exact⟨⟨ha,h1.1⟩,λz=>h2 z.symm⟩
   .exact⟨⟨h1.1,hb⟩,h1.2.1⟩
   .exact⟨⟨hb,h1.1⟩,λz=>h1.2.1 z.symm⟩
   .exact⟨⟨h1.1,ha⟩,h2⟩
  .cases hv
theorem ZHZ(ho : 0<=e.r.o/\e.r.o<=3):((Zc e hs a b).map List.length).sum<=14:=by
 unfold Zc;rw[map_cons,sum_cons]
 split
 .rw[map_map]
  have:∀L:List Nat,(L.map (List.length ∘ λh=>[(a,h),(h,b),(b,h),(h,a)])).sum=4*L.length:=by
   intro L
   induction L with
   |nil=>rfl
   |cons x r ih=>rw[map_cons,sum_cons,ih,Xc];show 4+_=_;omega
  rw[this];have:=ZHb (e:=e) (book:=(hs.getD a H0).2.1) (a:=a) (b:=b) ho;show 2+_<=14;omega
 .show 2+0<=14
  omega
theorem ZVo(w:HL n h):HL n (ZA2 e b ans h):=by
 unfold ZA2;have sl:∀{α:Type} {xs:List α} {i:Nat} {v : α},(xs.set i v).length=xs.length:=length_set
 split
 .exact⟨w.up,w.bl,w.tl,sl.trans w.ml⟩
 .split
  .exact⟨w.up,sl.trans w.bl,sl.trans w.tl,sl.trans w.ml⟩
  .split
   .split
    .exact⟨w.up,sl.trans w.bl,sl.trans w.tl,sl.trans w.ml⟩
    .exact⟨w.up,w.bl,w.tl,sl.trans w.ml⟩
   .split
    .exact⟨w.up,w.bl,w.tl,sl.trans w.ml⟩
    .exact w
theorem ZPG(w:HsL n hs)(ha:a<n):HsL n (ZAG e a b ans hs):=w.set (ZVo (w.get ha))
theorem ZTy(hn : 2<=e.ts.length):tgF e a<e.ts.length:=by
 unfold tgF;have h1:=emod_nonneg ((a:Int)+1+(ZAE (e.ts.getD a (0,0)) e.tn-1) % ((e.ts.length:Int)-1)) (show(e.ts.length:Int)≠0 by omega);have h2:=emod_lt_of_pos ((a:Int)+1+(ZAE (e.ts.getD a (0,0)) e.tn-1) % ((e.ts.length:Int)-1)) (show(0:Int)<e.ts.length by omega);omega
theorem ZVs(hn : 2<=e.ts.length)(ha:a<e.ts.length):tgF e a≠a:=by
 unfold tgF;have h1:=emod_nonneg (ZAE (e.ts.getD a (0,0)) e.tn-1) (show(e.ts.length:Int)-1≠0 by omega);have h2:=emod_lt_of_pos (ZAE (e.ts.getD a (0,0)) e.tn-1) (show(0:Int)<(e.ts.length:Int)-1 by omega)
 generalize (ZAE (e.ts.getD a (0,0)) e.tn-1) % ((e.ts.length:Int)-1)=k at *
 by_cases z:(a:Int)+1+k<e.ts.length
 .rw[emod_eq_of_lt ⋯ z];omega
 .have:((a:Int)+1+k) % (e.ts.length:Int)=(a:Int)+1+k-e.ts.length:=by
   rw[<-Int.sub_emod_right,emod_eq_of_lt ⋯ ⋯]
  rw[this];omega
theorem ZAm(ho : 0<=e.r.o/\e.r.o<=3)(w:HsL n R.hs)(ha:a<n)(hb:b<n)(hab:a≠b):HsL n (Zf e a b R).hs/\(Zf e a b R).le.length<=R.le.length+14:=by
 unfold Zf
 split
 .obtain⟨h1,h2⟩:=ZBN (e:=e) (ws:=Zc e R.hs a b) w λv hv p hp=>(Z4 w ha hb hab v hv p hp).1
  have:=ZHZ (e:=e) (hs:=R.hs) (a:=a) (b:=b) ho;exact⟨ZPG h1 ha,by show(ZX e (Zc e R.hs a b) R).2.le.length<=_;omega⟩
 .exact⟨w,⋯⟩
theorem Z0(hn : 2<=e.ts.length)(ha:a<e.ts.length)(hb:b∈ZBX e a):b<e.ts.length/\a≠b:=by
 unfold ZBX at hb;rcases List.mem_cons.mp hb with rfl|hb
 .exact⟨ZTy hn,λz=>ZVs hn ha z.symm⟩
 .obtain⟨h1,h2⟩:=List.mem_filter.mp hb
  refine⟨List.mem_range.mp h1,λz=>?_⟩;rw[z,Xe rfl] at h2;cases h2
theorem ZF2(hn : 2<=e.ts.length)(ha:a<e.ts.length):(ZBX e a).length<=e.ts.length:=by
 unfold ZBX;rw[Xc];have:=(List.length_filter_lt_length_iff_exists (l:=List.range e.ts.length) (p:=λb=>!decide (b=a) && !decide (b=tgF e a))).mpr ⟨a,List.mem_range.mpr ha,show ¬(!decide (a=a) && !decide (a=tgF e a))=true by rw[Xe rfl];exact Xf⟩;rw[length_range] at this
 exact this
theorem ZAk{α:Type}{f:Rw->α->Rw}{m:Nat}:∀{L:List α} {R:Rw},HsL n R.hs->(∀x∈L,∀R,HsL n R.hs->HsL n (f R x).hs/\(f R x).le.length<=R.le.length+m)->HsL n (L.foldl f R).hs/\(L.foldl f R).le.length<=R.le.length+m*L.length
 |[],R,h,_=>⟨h,le_refl _⟩
 |x::L,R,h,hf=>by
  obtain⟨h1,h2⟩:=hf x (Xs ..) R h;obtain⟨h3,h4⟩:=ZAk (L:=L) h1 λy hy=>hf y (Xo _ hy)
  refine⟨h3,?_⟩;rw[foldl_cons,Xc,mul_succ];omega
theorem ZS8(ho : 0<=e.r.o/\e.r.o<=3)(hn : 2<=e.ts.length)(w:HsL e.ts.length R.hs)(ha:a<e.ts.length):HsL e.ts.length (ZG8 e a R).hs/\(ZG8 e a R).le.length<=R.le.length+14*e.ts.length:=by
 obtain⟨h1,h2⟩:=ZAk (f:=λR b=>Zf e a b R) (m:=14) (L:=ZBX e a) w λb hb R w=>ZAm ho w ha (Z0 hn ha hb).1 (Z0 hn ha hb).2
 refine⟨h1,le_trans h2 ?_⟩;have:=ZF2 hn ha;have:=mul_le_mul_left 14 this
 omega
theorem ZAy(ho : 0<=e.r.o/\e.r.o<=3)(hn : 2<=e.ts.length)(w:HsL e.ts.length R.hs)(ha:a<e.ts.length):HsL e.ts.length (ZQ e a R).hs/\(ZQ e a R).le.length<=R.le.length+14*e.ts.length:=by
 unfold ZQ
 split
 .exact ZS8 ho hn w ha
 .exact⟨w,⋯⟩
theorem ZCB(w:HsL e.ts.length R.hs)(hx:x<e.ts.length):HsL e.ts.length (Z2 e x R).hs/\(Z2 e x R).le.length<=R.le.length+e.ts.length:=by
 obtain⟨h1,h2⟩:=ZAk (f:=λR y=>if y=x then R else (ZH e x y R).2) (m:=1) (L:=List.range e.ts.length) w λy hy R w=>by
  by_cases z:y=x
  .rw[Xp z];exact⟨w,⋯⟩
  .rw[Xn z];exact⟨ZAv w hx (List.mem_range.mp hy),by rw[ZEG];omega⟩
 refine⟨h1,le_trans h2 ?_⟩;rw[length_range];omega
end
theorem ZNO{n:Nat}(w:HsL n hs)(hx:x<n):HsL n (Z5 x hs):=w.set ⟨.inl rfl,(w.get hx).bl,(w.get hx).tl,(w.get hx).ml⟩
variable{fa le co:List Int}
theorem doH_L{n:Nat}(w:HL n h):HL n (doH fa le co i h):=by
 unfold doH;have sl:∀{α:Type} {xs:List α} {i:Nat} {v : α},(xs.set i v).length=xs.length:=length_set
 split
 .exact⟨.inl rfl,w.bl,w.tl,by rw[show ∀(a:Int) b c d,((a,b,c,d):Hs).2.2.2=d from λ_ _ _ _=>rfl,length_replicate];exact w.ml⟩
 .split
  .exact⟨w.up,sl.trans w.bl,sl.trans w.tl,by rw[show ∀(a:Int) b c d,((a,b,c,d):Hs).2.2.2=d from λ_ _ _ _=>rfl,length_replicate];exact w.ml⟩
  .split
   .exact⟨.inr rfl,sl.trans w.bl,sl.trans w.tl,w.ml⟩
   .exact w
theorem ZDO{n:Nat}(w:HsL n hs):HsL n (ZU fa le co hs):=⟨by unfold ZU;rw[Xm,length_range];exact w.len,λh hh=>by
 unfold ZU at hh;obtain⟨i,hi,rfl⟩:=List.mem_map.mp hh;exact doH_L (w.get (by rw[<-w.len];exact List.mem_range.mp hi))⟩
theorem ZEM{n:Nat}:∀{L:List Int} {hs:List Hs},HsL n hs->(∀x∈L,x.toNat<n)->HsL n (L.foldl (λhs x=>Z5 x.toNat hs) hs)
 |[],_,h,_=>h
 |x::L,hs,h,hx=>ZEM (L:=L) (ZNO h (hx x (Xs ..))) λy hy=>hx y (Xo _ hy)
inductive loopP (src:Option Nat) (xs:List PyData) (pt:Pat) (db:DS) (r:List PyData) (P:Out->Prop):Out->Prop
 |nx {sd:Sd} {g:G}:ZAu src xs g->EvS (ZAA src xs pt db r sd g) P->loopP src xs pt db r P (.nx sd g)
 |ct {sd:Sd} {g:G}:ZAu src xs g->EvS (ZAA src xs pt db r sd g) P->loopP src xs pt db r P (.ct sd g)
 |bk {sd:Sd} {g:G}:P (.nx sd g)->loopP src xs pt db r P (.bk sd g)
 |rt {x:W} {g:G}:P (.rt x g)->loopP src xs pt db r P (.rt x g)
variable{src:Option Nat}{xs:Qd}{db:DS}
theorem ZB6{pt:Pat}{P:Out->Prop}(h:P (.nx sd g)):EvS (ZAA src xs pt db [] sd g) P:=by
 rw[ZAA];exact⟨_,rfl,h⟩
theorem ZBG{pt:Pat}{P:Out->Prop}{sd1:Sd}{x:PyData}{r:Qd}(e:Zs pt (.dat x) sd=some sd1)(h:EvS (db sd1 g) (loopP src xs pt db r P)):EvS (ZAA src xs pt db (x::r) sd g) P:=by
 rw[ZAA,e];obtain⟨o,e2,h⟩:=h;show EvS ((db sd1 g).bind _) P;rw[e2];cases h with
 |nx so h=>show EvS (ZBo _ _ _ _) P;rw[ZBP so];exact h
 |ct so h=>show EvS (ZBo _ _ _ _) P;rw[ZBP so];exact h
 |bk h=>exact⟨_,rfl,h⟩
 |rt h=>exact⟨_,rfl,h⟩
theorem ZOJ{aa:DA}{PI':List PyData->Option Nat->G->Prop}(h:EvP (aa sd g) λws g1=>∃i j:Int,ws=[.dat (.int i),.dat (.int j)]/\((j<=1000/\-1000<=j)/\(i<=1000/\-1000<=i))/\PI' (ZDx (j-i).toNat i) none g1):EvI (ZAh aa sd g) PI':=by
 obtain⟨ws,g1,e1,i,j,rfl,hj,h⟩:=h;exact⟨_,_,g1,by unfold ZAh;rw[e1];exact Xp hj,h⟩
noncomputable def prD(p:Nat×Nat):PyData:=.tuple [.int (p.1:Int),.int (p.2:Int)]
def wyD(w:List (Nat×Nat)):PyData:=.tuple (w.map prD)
variable{r:Ru}{ts:Qi}{tn:Int}{lo:List Int}
theorem ZQ5{le co:List Int}(ho : 0<=r.o/\r.o<=3)(n2 : 2<=ts.length)(n8:ts.length<=8)(w:HsL ts.length hs)(hle:∀k∈le,0<=k/\k<ts.length)(hco:∀k∈co,0<=k/\k<ts.length)(hlc:le.length+co.length<=ts.length) :
  HsL ts.length (ZAc r ts tn hs lo fa le co).hs/\(ZAc r ts tn hs lo fa le co).le.length<=960:=by
 have k1:=ZAk (f:=λ (R:Rw) (x:Int)=>Z2 ⟨r,ts,tn,lo⟩ x.toNat R) (n:=ts.length) (m:=ts.length) (L:=le ++ co) (R:=⟨ZU fa le co hs,[]⟩) (ZDO w) λ x hx R w=>ZCB (e:=⟨r,ts,tn,lo⟩) w (by
  show x.toNat<ts.length;rcases List.mem_append.mp hx with h|h
  .have:=hle x h;omega
  .have:=hco x h;omega)
 have k2:=ZEM (L:=le) k1.1 λx hx=>by have:=hle x hx;omega
 have k3:=ZAk (f:=λ(R:Rw) (a:Nat)=>ZQ ⟨r,ts,tn,lo⟩ a R) (n:=ts.length) (m:=14*ts.length) (L:=List.range ts.length) (R:=⟨le.foldl (λhs x=>Z5 x.toNat hs) ((le++co).foldl (λ(R:Rw) (x:Int)=>Z2 ⟨r,ts,tn,lo⟩ x.toNat R) ⟨ZU fa le co hs,[]⟩).hs,((le++co).foldl (λ(R:Rw) (x:Int)=>Z2 ⟨r,ts,tn,lo⟩ x.toNat R) ⟨ZU fa le co hs,[]⟩).le⟩) k2 λa ha R w=>ZAy (e:=⟨r,ts,tn,lo⟩) ho n2 w (List.mem_range.mp ha)
 refine⟨k3.1,?_⟩;have h1:((le++co).foldl (λ(R:Rw) (x:Int)=>Z2 ⟨r,ts,tn,lo⟩ x.toNat R) ⟨ZU fa le co hs,[]⟩).le.length<=64:=by
  have h0:_<=0+ts.length*(le++co).length:=k1.2;have:ts.length*(le++co).length<=8*8:=mul_le_mul n8 (by rw[Xa];omega);exact le_trans h0 ⋯
 have h2 : 14*ts.length*(List.range ts.length).length<=896:=by
  rw[length_range];have:=mul_le_mul (mul_le_mul_left 14 n8) n8;omega
 exact le_trans k3.2 (le_trans (add_le_add h1 h2) (by decide))
abbrev Do4:=List Int×List Int×List Int×List Int
def doX(d:Do4):PyData:=.tuple [ZI d.1,ZI d.2.1,ZI d.2.2.1,ZI d.2.2.2]
def ZQK(L:List Lt):PyData:=.tuple (L.map ltD)
abbrev Sx:=Int×List Hs
def stX(s:Sx):PyData:=Zm s.1 s.2
def nxR(r:Ru)(ts:List (Int×Int))(s:Sx)(d:Do4):Rw:=ZAc r ts s.1 s.2 d.1 d.2.1 d.2.2.1 d.2.2.2
def nxS(r:Ru)(ts:List (Int×Int))(s:Sx)(d:Do4):Sx:=(s.1+1,(nxR r ts s d).hs)
def ZFV(r:Ru)(ts:List (Int×Int))(s:Sx)(ds:List Do4):Sx:=ds.foldl (nxS r ts) s
def ZOs(r:Ru)(ts:List (Int×Int)):Sx->List Do4->List (List Lt)
 |_,[]=>[]
 |s,d::ds=>(nxR r ts s d).le::ZOs r ts (nxS r ts s d) ds
def ZLM(r:Ru)(ts:List (Int×Int)):Sx->List Do4->List (Sx×List Lt)
 |_,[]=>[]
 |s,d::ds=>(nxS r ts s d,(nxR r ts s d).le)::ZLM r ts (nxS r ts s d) ds
def tsX(p:Sx×List Lt):PyData:=.tuple [stX p.1,ZQK p.2]
variable{A B:Prop}
theorem bT(h:A):(true=true->A)/\(true=false->B):=⟨λ_=>h,λz=>by cases z⟩
theorem bF(h:B):(false=true->A)/\(false=false->B):=⟨(λz=>by cases z),λ_=>h⟩
def ZOG(K:Frag)(x ql:Str)(st:Stmt)(f:Addr):Prop:=∃fd,Fun K x ql st f fd
theorem fnAt_mk{x qual:Str}{st:Stmt}{f:Addr}{oc:Value}{od an:Option Addr}{osl:Array (Option Value)}{kV doc pm cdv ct:Value}(l:K.lookup f=some ⟨oc,od,.func (fnOf x qual (ZBD st) (ZAC st) (ZM st) .none kV doc pm an cdv ct),osl⟩)
  (c:codeIn K cdv qual=true)(k:keepIn K (.ref f)=true):ZOG K x qual st f:=⟨_,ZP1 l c k⟩
noncomputable def ZAX(hs:List Hs):List Int:=hs.map (·.1)
theorem ZID(e:h.1=(hs.getD i H0).1):ZAX (hs.set i h)=ZAX hs:=by
 unfold ZAX;rw[map_set,e]
 by_cases hi:i<hs.length
 .rw[Xq,getElem?_eq_getElem hi]
  apply List.ext_getElem?;intro j
  by_cases hj:i=j
  .subst hj
   rw[getElem?_set_self (by rw[Xm];exact hi),getElem?_map,getElem?_eq_getElem hi];rfl
  .rw[getElem?_set_ne hj]
 .rw[List.set_eq_of_length_le (by rw[Xm];omega)]
variable{hs':List Hs}
theorem ZN(h:ZAX hs'=ZAX hs)(i:Nat):(hs'.getD i H0).1=(hs.getD i H0).1:=by
 have e:∀l:List Hs,(l.getD i H0).1=(ZAX l).getD i 0:=λl=>by
  unfold ZAX;rw[Xq,Xq,getElem?_map];cases l[i]? <;> rfl
 rw[e,e,h]
noncomputable def ZP2(lo:List Int)(n:Nat):List Bool:=(List.range n).map λk:Nat=>lo.contains (k:Int)
structure Grow (e:En) (R R':Rw):Prop where
 ex:∃ex:List Lt,R'.le=R.le++ex/\∀l∈ex,l.1≠l.2.1
 fl:R.le.map (·.2.2)=ZP2 e.lo R.le.length->R'.le.map (·.2.2)=ZP2 e.lo R'.le.length
 up:ZAX R'.hs=ZAX R.hs
section
variable{e:En}{n:Nat}
theorem Grow.refl:Grow e R R:=⟨⟨[],(append_nil _).symm,λl hl=>by cases hl⟩,id,rfl⟩
theorem Grow.trans{R R1 R2:Rw}(h:Grow e R R1)(k:Grow e R1 R2):Grow e R R2:=by
 obtain⟨a,ea,ha⟩:=h.ex;obtain⟨b,eb,hb⟩:=k.ex;refine⟨⟨a++b,by rw[eb,ea,append_assoc],λl hl=>(List.mem_append.mp hl).elim (ha l) (hb l)⟩,λz=>k.fl (h.fl z),k.up.trans h.up⟩
theorem ZFp{y:Nat}:ZAX (Zn e x y hs)=ZAX hs:=ZID rfl
theorem ZH5{cl:List Str}{y:Nat}:∀{ns:List (Nat×(Int×Int))} {h:Hs},(ZW cl y h ns).1=h.1
 |[],_=>rfl
 |x::r,h=>by
  show(ZW cl y (ZY cl y h x) r).1=h.1;rw[ZH5];unfold ZY ZCv ZCu
  split <;> split <;> rfl
theorem ZRs{y:Nat}(hxy:x≠y):ZAX (Zp e x y hs)=ZAX hs:=by
 unfold Zp;rw[ZID,ZFp];rw[ZH5];exact(ZN (ZFp (e:=e) (x:=x) (y:=y) (hs:=hs)) y).symm
theorem ZGh{L:List Lt}{x y:Int}{b:Bool}(hb:lo.contains (L.length:Int)=b)(h:L.map (·.2.2)=ZP2 lo L.length):(L++[(x,y,b)]).map (·.2.2)=ZP2 lo (L++[(x,y,b)]).length:=by
 rw[map_append,h,Xa];unfold ZP2;show _=(List.range (L.length+1)).map _;rw[range_succ,map_append,<-hb];rfl
theorem ZAF{y:Nat}(hxy:x≠y):Grow e R (ZH e x y R).2:=by
 have hne:∀{b:Bool},∀l∈[(((x:Int),(y:Int),b):Lt)],l.1≠l.2.1:=λl hl=>by
  rw[List.mem_singleton.mp hl];show(x:Int)≠(y:Int);omega
 unfold ZH
 split
 .rename_i h
  exact⟨⟨_,rfl,hne⟩,ZGh h,ZFp⟩
 .rename_i h
  have h:e.lo.contains (R.le.length:Int)=false:=by simpa using h
  split
  .exact⟨⟨_,rfl,hne⟩,ZGh h,ZFp⟩
  .exact⟨⟨_,rfl,hne⟩,ZGh h,ZRs hxy⟩
theorem ZDF:∀{w:List (Nat×Nat)} {R:Rw},(∀p∈w,p.1≠p.2)->Grow e R (Zu e w R).2
 |[],R,_=>.refl
 |p::w,R,hp=>by
  have h1:=ZAF (e:=e) (R:=R) (hp p (Xs ..));rw[Zu]
  split
  .exact h1.trans (ZDF λq hq=>hp q (Xo _ hq))
  .exact h1
theorem ZA6:∀{ws:List (List (Nat×Nat))} {R:Rw},(∀w∈ws,∀p∈w,p.1≠p.2)->Grow e R (ZX e ws R).2
 |[],R,_=>.refl
 |w::ws,R,hp=>by
  have h1:=ZDF (e:=e) (R:=R) (hp w (Xs ..));rw[ZX]
  split
  .exact h1
  .exact h1.trans (ZA6 λq hq=>hp q (Xo _ hq))
theorem ZSd:(ZA2 e b ans h).1=h.1:=by
 unfold ZA2
 split
 .rfl
 .split
  .rfl
  .split
   .split <;> rfl
   .split <;> rfl
theorem Z8(w:HsL n R.hs)(ha:a<n)(hb:b<n)(hab:a≠b):Grow e R (Zf e a b R):=by
 unfold Zf
 split
 .have h1:=ZA6 (e:=e) (ws:=Zc e R.hs a b) (R:=R) λv hv p hp=>(Z4 w ha hb hab v hv p hp).2
  refine⟨h1.ex,h1.fl,?_⟩;show ZAX (ZAG e a b _ _)=_;unfold ZAG;rw[ZID ZSd];exact h1.up
 .exact .refl
theorem ZAa{α:Type}{f:Rw->α->Rw}:∀{L:List α} {R:Rw},HsL n R.hs->(∀x∈L,∀R,HsL n R.hs->HsL n (f R x).hs/\Grow e R (f R x))->Grow e R (L.foldl f R)
 |[],R,_,_=>.refl
 |x::L,R,w,hf=>by
  obtain⟨h1,h2⟩:=hf x (Xs ..) R w;exact h2.trans (ZAa h1 λy hy=>hf y (Xo _ hy))
theorem ZO2{R:Rw}(ho : 0<=e.r.o/\e.r.o<=3)(hn : 2<=e.ts.length)(w:HsL e.ts.length R.hs)(ha:a<e.ts.length):Grow e R (ZG8 e a R):=ZAa w λb hb R w=>⟨(ZAm ho w ha (Z0 hn ha hb).1 (Z0 hn ha hb).2).1,Z8 w ha (Z0 hn ha hb).1 (Z0 hn ha hb).2⟩
theorem ZCN(ho : 0<=e.r.o/\e.r.o<=3)(hn : 2<=e.ts.length)(w:HsL e.ts.length R.hs)(ha:a<e.ts.length):Grow e R (ZQ e a R):=by
 unfold ZQ
 split
 .exact ZO2 ho hn w ha
 .exact .refl
theorem ZHg{R:Rw}(ho : 0<=e.r.o/\e.r.o<=3)(hn : 2<=e.ts.length)(w:HsL e.ts.length R.hs):Grow e R (ZBr e R):=ZAa w λa ha R w=>⟨(ZAy ho hn w (List.mem_range.mp ha)).1,ZCN ho hn w (List.mem_range.mp ha)⟩
theorem ZHY{R:Rw}(w:HsL e.ts.length R.hs)(hx:x<e.ts.length):Grow e R (Z2 e x R):=ZAa (f:=λR y=>if y=x then R else (ZH e x y R).2) w λy hy R w=>by
 by_cases z:y=x
 .rw[Xp z];exact⟨w,.refl⟩
 .rw[Xn z];exact⟨ZAv w hx (List.mem_range.mp hy),ZAF λh=>z h.symm⟩
end
theorem ZJj{le:List Int}:∀{hs:List Hs} {a:Nat},a<hs.length->(∀k∈le,0<=k)->((le.foldl (λhs x=>Z5 x.toNat hs) hs).getD a H0).1=if (a:Int)∈le then 0 else (hs.getD a H0).1:=by
 induction le with
 |nil=>intro hs a _ _;rfl
 |cons x le ih =>
  intro hs a ha hk;rw[foldl_cons,ih (by unfold Z5;rw[length_set];exact ha) λk h=>hk k (Xo _ h)];have h0:=hk x (Xs ..)
  by_cases h1:(a:Int)∈le
  .rw[Xp h1,Xp (Xo _ h1)]
  .rw[Xn h1]
   by_cases h2:(a:Int)=x
   .rw[Xp (by rw[h2];exact Xs ..)]
    unfold Z5;rw[Xq,show x.toNat=a by omega,getElem?_set_self ha];rfl
   .rw[Xn (λz=>(List.mem_cons.mp z).elim h2 h1)]
    unfold Z5;rw[Xq,getElem?_set_ne ⋯,<-Xq]
theorem ZNJ(ha:a<hs.length):((ZU fa le co hs).getD a H0).1=if (a:Int)∈fa then 0 else if (a:Int)∈le then (hs.getD a H0).1 else if (a:Int)∈co then 1 else (hs.getD a H0).1:=by
 unfold ZU;rw[Xq,getElem?_map,getElem?_range ha];show(doH fa le co a (hs.getD a H0)).1=_;unfold doH;simp only[List.contains_iff_mem]
 split
 .rfl
 .split
  .rfl
  .split <;> rfl
def tmr(hs:List Hs)(a b:Nat):Int:=(hs.getD a H0).2.2.2.getD b 0
def Shr(hs hs':List Hs)(a b:Nat):Prop:=0<tmr hs' a b->0<tmr hs a b
theorem Shr.refl:Shr hs hs a b:=id
theorem Shr.trans{h1 h2 h3:List Hs}(h:Shr h1 h2 a b)(k:Shr h2 h3 a b):Shr h1 h3 a b:=λz=>h (k z)
variable{α:Type}
theorem ZK{l:List α}{j:Nat}{x d:α}:(l.set i x).getD j d=if i=j/\j<l.length then x else l.getD j d:=by
 rw[Xq,Xq]
 by_cases h:i=j
 .subst h
  by_cases hi:i<l.length
  .rw[getElem?_set_self hi,Xp ⟨rfl,hi⟩];rfl
  .rw[Xn (λz=>hi z.2),List.set_eq_of_length_le ⋯]
 .rw[getElem?_set_ne h,Xn (λz=>h z.1)]
theorem ZIi(k:a=x->0<h.2.2.2.getD b 0->0<tmr hs a b):Shr hs (hs.set x h) a b:=by
 unfold Shr tmr;rw[ZK]
 split
 .rename_i z
  exact k z.1.symm
 .exact id
section
variable{e:En}{n:Nat}
theorem ZGB{y:Nat}:Shr hs (Zn e x y hs) a b:=ZIi λz h=>by subst z;exact h
theorem ZHs{cl:List Str}{y b:Nat}:∀{ns:List (Nat×(Int×Int))} {h:Hs},0<(ZW cl y h ns).2.2.2.getD b 0->0<h.2.2.2.getD b 0
 |[],_,z=>z
 |x::r,h,z=>by
  have z : 0<(ZW cl y (ZY cl y h x) r).2.2.2.getD b 0:=z;have z:=ZHs z;unfold ZY ZCv ZCu at z
  split at z
  .split at z <;> exact z
  .split at z
   .dsimp only at z
    split at z
    .exact z
    .rw[ZK] at z
     split at z
     .cases z
     .exact z
   .exact z
theorem ZQy{y:Nat}:Shr hs (Zp e x y hs) a b:=by
 unfold Zp;refine Shr.trans (ZGB (e:=e) (x:=x) (y:=y)) (ZIi λz h=>?_);subst z;have h:=ZHs h;unfold tmr Zn;rw[ZK]
 split
 .rename_i z
  rw[z.1];exact h
 .exact h
theorem ZPy{y:Nat}:Shr R.hs (ZH e x y R).2.hs a b:=by
 unfold ZH
 split
 .exact ZGB
 .split
  .exact ZGB
  .exact ZQy
theorem ZHf{x a b:Nat}:∀{L:List Nat} {R:Rw},Shr R.hs (L.foldl (λR y=>if y=x then R else (ZH e x y R).2) R).hs a b
 |[],R=>.refl
 |y::L,R=>by
  rw[foldl_cons];refine Shr.trans ?_ (ZHf (L:=L))
  split
  .exact .refl
  .exact ZPy
theorem ZEx{a b:Nat}:∀{L:List Int} {R:Rw},Shr R.hs (L.foldl (λ(R:Rw) (x:Int)=>Z2 e x.toNat R) R).hs a b
 |[],R=>.refl
 |y::L,R=>by
  rw[foldl_cons];exact Shr.trans (ZHf (e:=e) (x:=y.toNat) (L:=List.range e.ts.length) (R:=R)) (ZEx (L:=L))
end
theorem ZH2{a b:Nat}:∀{L:List Int} {hs:List Hs},Shr hs (L.foldl (λhs x=>Z5 x.toNat hs) hs) a b
 |[],_=>.refl
 |x::L,hs=>by
  rw[foldl_cons];refine Shr.trans ?_ (ZH2 (L:=L));unfold Z5;exact ZIi λz h=>by subst z;exact h
theorem ZBf{n:Nat}:(List.replicate n (0:Int)).getD b 0=0:=by
 rw[Xq,getElem?_replicate]
 split <;> rfl
structure HQ (r:Ru) (n i:Nat) (h:Hs):Prop where
 up:h.1=0\/h.1=1
 bl:h.2.1.length=n
 bs:∀w∈h.2.1,0<=w.1/\0<=w.2/\w.2<=3
 tl:h.2.2.1.length=n
 ts:∀k∈h.2.2.1,0<=k/\k<=r.t
 ml:h.2.2.2.length=n
 ms:∀k∈h.2.2.2,0<=k/\k<=r.w
 m0:h.2.2.2.getD i 0=0
 mu:h.1=1\/∀k∈h.2.2.2,k=0
structure AQ (r:Ru) (n:Nat) (hs:List Hs):Prop where
 len:hs.length=n
 all:∀i,i<n->HQ r n i (hs.getD i H0)
theorem ZCQ{l:List α}{i:Nat}{v:α}{P:α->Prop}(h:∀x∈l,P x)(hv:P v):∀x∈l.set i v,P x:=λx hx=>by
 rcases List.mem_or_eq_of_mem_set hx with z|z
 .exact h x z
 .rw[z];exact hv
theorem ZFT{l:List α}{d:α}{P:α->Prop}(h:∀x∈l,P x)(hd:P d):P (l.getD i d):=by
 rw[Xq]
 by_cases z:i<l.length
 .rw[getElem?_eq_getElem z];exact h _ (getElem_mem _)
 .rw[List.getElem?_eq_none ⋯];exact hd
theorem AQ.set{r:Ru}{n x:Nat}{hs:List Hs}{h:Hs}(w:AQ r n hs)(k:x<n->HQ r n x h):AQ r n (hs.set x h):=⟨by rw[length_set];exact w.len,λi hi=>by
 rw[ZK]
 split
 .rename_i z
  rw[<-z.1];exact k (by rw[z.1];exact hi)
 .exact w.all i hi⟩
theorem AQ.L{n:Nat}(w:AQ r n hs):HsL n hs:=⟨w.len,λh hh=>by
 obtain⟨i,hi,e⟩:=List.mem_iff_getElem.mp hh;have:=w.all i (by rw[<-w.len];exact hi);rw[Xq,getElem?_eq_getElem hi] at this
 have this:HQ r n i hs[i]:=this
 rw[e] at this
 exact⟨this.up,this.bl,this.tl,this.ml⟩⟩
theorem ZND{t:Int}:∀{news told:List Int},news.Nodup->(∀k∈news,∃n:Nat,k=(n:Int)/\told.getD n 0<t)->(∀k∈told,0<=k/\k<=t)->0<=t->∀k∈Z9 told news,0<=k/\k<=t
 |[],told,_,_,h,_=>h
 |x::news,told,nd,hn,h,ht=>by
  have nd:=List.nodup_cons.mp nd;obtain⟨m,rfl,hm⟩:=hn x (Xs ..);have h0 : 0<=told.getD m 0:=(ZFT (P:=λk:Int=>0<=k/\k<=t) h ⟨Int.le_refl 0,ht⟩).1;show ∀k∈Z9 (told.set (m:Int).toNat (told.getD (m:Int).toNat 0+1)) news,0<=k/\k<=t;rw[toNat_natCast];refine ZND nd.2 (λk hk=>?_) (ZCQ h ⟨⋯,⋯⟩) ht;obtain⟨j,rfl,hj⟩:=hn k (Xo _ hk);refine⟨j,rfl,?_⟩;rw[ZK,Xn λz=>nd.1 (by rw[z.1];exact hk)];exact hj
variable{p:Nat×(Int×Int)}
section
variable{e:En}{n:Nat}
theorem ZLb{y:Nat}(ht : 0<=e.r.t)(w:AQ e.r n hs):AQ e.r n (Zn e x y hs):=w.set λhx=>by
 have v:=w.all x hx;have no:=ZK6 e.r (hs.getD x H0).2.2.1 x (ZAf e x y);refine⟨v.up,v.bl,v.bs,?_,?_,v.ml,v.ms,v.m0,v.mu⟩
 .show(Z9 _ _).length=n
  rw[ZBb];exact v.tl
 .refine ZND no.nd (λk hk=>?_) v.ts ht
  obtain⟨m,hm,_,h2,_⟩:=no.mem k hk;exact⟨m,hm,h2⟩
theorem ZQ1{y:Nat}(ht : 0<=r.t)(hw : 0<=r.w)(v:HQ r n y h)(hp : 0<=p.2.1/\0<=p.2.2/\p.2.2<=3):HQ r n y (ZY cl y h p):=by
 have sl:∀{α:Type} {xs:List α} {i:Nat} {v : α},(xs.set i v).length=xs.length:=length_set;unfold ZY ZCv ZCu
 split
 .split
  .exact⟨v.up,sl.trans v.bl,ZCQ v.bs ⟨by show 0<=p.2.1+1;omega,by show(0:Int)<=0;omega,by show(0:Int)<=3;omega⟩,sl.trans v.tl,ZCQ v.ts ⟨Int.le_refl 0,ht⟩,v.ml,v.ms,v.m0,v.mu⟩
  .exact v
 .split
  .have hm:(if p.2.2=1 then h.2.2.2 else h.2.2.2.set p.1 0).length=n/\(∀k∈(if p.2.2=1 then h.2.2.2 else h.2.2.2.set p.1 0),0<=k/\k<=r.w)/\(if p.2.2=1 then h.2.2.2 else h.2.2.2.set p.1 0).getD y 0=0/\(h.1=1\/∀k∈(if p.2.2=1 then h.2.2.2 else h.2.2.2.set p.1 0),k=0):=by
    split
    .exact⟨v.ml,v.ms,v.m0,v.mu⟩
    .refine⟨sl.trans v.ml,ZCQ v.ms ⟨Int.le_refl 0,hw⟩,?_,v.mu.imp id λz=>ZCQ z rfl⟩
     rw[ZK]
     split
     .rfl
     .exact v.m0
   exact⟨v.up,sl.trans v.bl,ZCQ v.bs hp,sl.trans v.tl,ZCQ v.ts ⟨Int.le_refl 0,ht⟩,hm.1,hm.2.1,hm.2.2.1,hm.2.2.2⟩
  .exact v
theorem ZNA{r:Ru}{cl:List Str}{y:Nat}(ht : 0<=r.t)(hw : 0<=r.w):∀{ns:List (Nat×(Int×Int))} {h:Hs},HQ r n y h->(∀p∈ns,0<=p.2.1/\0<=p.2.2/\p.2.2<=3)->HQ r n y (ZW cl y h ns)
 |[],_,v,_=>v
 |p::ns,h,v,hp=>ZNA (ns:=ns) ht hw (ZQ1 ht hw v (hp p (Xs ..))) λq hq=>hp q (Xo _ hq)
theorem ZBR{due news:List Int}{m:Nat}(h:p∈ZAO book due news m):p.2=book.getD p.1 (0,0):=by
 unfold ZAO at h;obtain⟨j,_,rfl⟩:=List.mem_map.mp h;rfl
theorem ZLK{y:Nat}(ht : 0<=e.r.t)(hw : 0<=e.r.w)(w:AQ e.r n R.hs)(hx:x<n):AQ e.r n (ZH e x y R).2.hs:=by
 unfold ZH
 split
 .exact ZLb ht w
 .split
  .exact ZLb ht w
  .refine(ZLb ht w).set λhy=>ZNA ht hw (w.all y hy) λp hp=>?_
   rw[ZBR hp];exact ZFT (P:=λw:Int×Int=>0<=w.1/\0<=w.2/\w.2<=3) (w.all x hx).bs ⟨Int.le_refl 0,Int.le_refl 0,by show(0:Int)<=3;omega⟩
theorem ZTS(ht : 0<=e.r.t)(hw : 0<=e.r.w):∀{l:List (Nat×Nat)} {R:Rw},AQ e.r n R.hs->(∀p∈l,p.1<n)->AQ e.r n (Zu e l R).2.hs
 |[],R,w,_=>w
 |p::l,R,w,hp=>by
  have h1:=ZLK (y:=p.2) ht hw w (hp p (Xs ..));rw[Zu]
  split
  .exact ZTS ht hw h1 λq hq=>hp q (Xo _ hq)
  .exact h1
theorem ZOy(ht : 0<=e.r.t)(hw : 0<=e.r.w):∀{ws:List (List (Nat×Nat))} {R:Rw},AQ e.r n R.hs->(∀l∈ws,∀p∈l,p.1<n)->AQ e.r n (ZX e ws R).2.hs
 |[],R,w,_=>w
 |l::ws,R,w,hp=>by
  have h1:=ZTS ht hw w (hp l (Xs ..));rw[ZX]
  split
  .exact h1
  .exact ZOy ht hw h1 λq hq=>hp q (Xo _ hq)
theorem jud_q(ht : 0<=e.r.t)(hw : 0<=e.r.w)(v:HQ e.r n a h)(hu:h.1=1)(hab:a≠b):HQ e.r n a (ZA2 e b ans h):=by
 have sl:∀{α:Type} {xs:List α} {i:Nat} {v : α},(xs.set i v).length=xs.length:=length_set;have m0:∀t:Int,(h.2.2.2.set b t).getD a 0=0:=λt=>by rw[ZK,Xn λz=>hab z.1.symm];exact v.m0
 have wd : 0<=(h.2.1.getD b (0,0)).1:=(ZFT (P:=λw:Int×Int=>0<=w.1/\0<=w.2/\w.2<=3) v.bs ⟨Int.le_refl 0,Int.le_refl 0,by show(0:Int)<=3;omega⟩).1;have tm : 0<=h.2.2.2.getD b 0/\h.2.2.2.getD b 0<=e.r.w:=ZFT (P:=λk:Int=>0<=k/\k<=e.r.w) v.ms ⟨Int.le_refl 0,hw⟩;have z0:∀k∈h.2.2.2.set b 0,0<=k/\k<=e.r.w:=ZCQ v.ms ⟨Int.le_refl 0,hw⟩;have zw:∀k∈h.2.2.2.set b e.r.w,0<=k/\k<=e.r.w:=ZCQ v.ms ⟨hw,Int.le_refl _⟩;unfold ZA2
 split
 .exact⟨v.up,v.bl,v.bs,v.tl,v.ts,sl.trans v.ml,z0,m0 _,.inl hu⟩
 .split
  .exact⟨v.up,sl.trans v.bl,ZCQ v.bs ⟨wd,by show(0:Int)<=2;omega,by show(2:Int)<=3;omega⟩,sl.trans v.tl,ZCQ v.ts ⟨Int.le_refl 0,ht⟩,sl.trans v.ml,z0,m0 _,.inl hu⟩
  .split
   .split
    .exact⟨v.up,sl.trans v.bl,ZCQ v.bs ⟨wd,by show(0:Int)<=1;omega,by show(1:Int)<=3;omega⟩,sl.trans v.tl,ZCQ v.ts ⟨Int.le_refl 0,ht⟩,sl.trans v.ml,zw,m0 _,.inl hu⟩
    .exact⟨v.up,v.bl,v.bs,v.tl,v.ts,sl.trans v.ml,zw,m0 _,.inl hu⟩
   .split
    .rename_i h3 h4
     have hn:h.2.2.2.getD b 0≠0:=λz=>h3 (by rw[h4,Xe z];rfl)
     exact⟨v.up,v.bl,v.bs,v.tl,v.ts,sl.trans v.ml,ZCQ v.ms ⟨⋯,⋯⟩,m0 _,.inl hu⟩
    .exact v
theorem ZI2(ht : 0<=e.r.t)(hw : 0<=e.r.w)(w:AQ e.r n R.hs)(ha:a<n)(hb:b<n)(hab:a≠b)(hu:(R.hs.getD a H0).1=1):AQ e.r n (Zf e a b R).hs:=by
 unfold Zf
 split
 .have h1:=ZOy (ws:=Zc e R.hs a b) ht hw w λv hv p hp=>(Z4 w.L ha hb hab v hv p hp).1.1
  have h2:=ZA6 (e:=e) (ws:=Zc e R.hs a b) (R:=R) λv hv p hp=>(Z4 w.L ha hb hab v hv p hp).2
  show AQ e.r n (ZAG e a b _ _);unfold ZAG;exact h1.set λ_=>jud_q ht hw (h1.all a ha) ((ZN h2.up a).trans hu) hab
 .exact w
theorem ZIU{a:Nat}(ht : 0<=e.r.t)(hw : 0<=e.r.w)(ha:a<n):∀{L:List Nat} {R:Rw},AQ e.r n R.hs->(∀b∈L,b<n/\a≠b)->(R.hs.getD a H0).1=1->AQ e.r n (L.foldl (λR b=>Zf e a b R) R).hs
 |[],R,w,_,_=>w
 |b::L,R,w,hb,hu=>by
  obtain⟨h1,h2⟩:=hb b (Xs ..);rw[foldl_cons];exact ZIU ht hw ha (ZI2 ht hw w ha h1 h2 hu) (λc hc=>hb c (Xo _ hc)) ((ZN (Z8 (e:=e) w.L ha h1 h2).up a).trans hu)
theorem ZFf(ht : 0<=e.r.t)(hw : 0<=e.r.w)(hn : 2<=e.ts.length):∀{L:List Nat} {R:Rw},AQ e.r e.ts.length R.hs->(∀a∈L,a<e.ts.length)->AQ e.r e.ts.length (L.foldl (λR a=>ZQ e a R) R).hs
 |[],R,w,_=>w
 |a::L,R,w,hl=>by
  have ha:=hl a (Xs ..);rw[foldl_cons];refine ZFf (L:=L) ht hw hn ?_ λc hc=>hl c (Xo _ hc)
  unfold ZQ
  split
  .rename_i h
   unfold ZCP at h;rw[Bool.and_eq_true] at h;exact ZIU ht hw ha w (λb hb=>Z0 hn ha hb) (Xd h.1)
  .exact w
theorem ZMc{x:Nat}(ht : 0<=e.r.t)(hw : 0<=e.r.w)(hx:x<n):∀{L:List Nat} {R:Rw},AQ e.r n R.hs->AQ e.r n (L.foldl (λR y=>if y=x then R else (ZH e x y R).2) R).hs
 |[],R,w=>w
 |y::L,R,w=>by
  rw[foldl_cons];refine ZMc (L:=L) ht hw hx ?_
  split
  .exact w
  .exact ZLK ht hw w hx
theorem ZMV(ht : 0<=e.r.t)(hw : 0<=e.r.w):∀{L:List Int} {R:Rw},AQ e.r n R.hs->(∀x∈L,x.toNat<n)->AQ e.r n (L.foldl (λ(R:Rw) (x:Int)=>Z2 e x.toNat R) R).hs
 |[],R,w,_=>w
 |x::L,R,w,hx=>by
  rw[foldl_cons];exact ZMV (L:=L) ht hw (ZMc ht hw (hx x (Xs ..)) w) λy hy=>hx y (Xo _ hy)
end
theorem ZWB{m:Nat}{w:Int}(hw : 0<=w):∀k∈List.replicate m (0:Int),0<=k/\k<=w:=λk hk=>by rw[(List.mem_replicate.mp hk).2];exact⟨Int.le_refl 0,hw⟩
theorem ZPD{n:Nat}(ht : 0<=r.t)(hw : 0<=r.w)(w:AQ r n hs):AQ r n (ZU fa le co hs):=by
 have sl:∀{α:Type} {xs:List α} {i:Nat} {v : α},(xs.set i v).length=xs.length:=length_set;refine⟨by unfold ZU;rw[Xm,length_range];exact w.len,λi hi=>?_⟩;have v:=w.all i hi;have wd : 0<=((hs.getD i H0).2.1.getD i (0,0)).1:=(ZFT (P:=λw:Int×Int=>0<=w.1/\0<=w.2/\w.2<=3) v.bs ⟨Int.le_refl 0,Int.le_refl 0,by show(0:Int)<=3;omega⟩).1;unfold ZU;rw[Xq,getElem?_map,getElem?_range (by rw[w.len];exact hi)];show HQ r n i (doH fa le co i (hs.getD i H0));unfold doH
 split
 .exact⟨.inl rfl,v.bl,v.bs,v.tl,v.ts,List.length_replicate.trans v.ml,ZWB hw,ZBf,.inr λk hk=>(List.mem_replicate.mp hk).2⟩
 .split
  .exact⟨v.up,sl.trans v.bl,ZCQ v.bs ⟨wd,by show(0:Int)<=3;omega,by show(3:Int)<=3;omega⟩,sl.trans v.tl,ZCQ v.ts ⟨Int.le_refl 0,ht⟩,List.length_replicate.trans v.ml,ZWB hw,ZBf,.inr λk hk=>(List.mem_replicate.mp hk).2⟩
  .split
   .exact⟨.inr rfl,sl.trans v.bl,ZCQ v.bs ⟨by show 0<=_+(1:Int);omega,by show(0:Int)<=0;omega,by show(0:Int)<=3;omega⟩,sl.trans v.tl,ZCQ v.ts ⟨Int.le_refl 0,ht⟩,v.ml,v.ms,v.m0,.inl rfl⟩
   .exact v
theorem ZIh{r:Ru}{n:Nat}:∀{L:List Int} {hs:List Hs},AQ r n hs->(∀x∈L,∀b,¬0<tmr hs x.toNat b)->AQ r n (L.foldl (λhs x=>Z5 x.toNat hs) hs)
 |[],hs,w,_=>w
 |x::L,hs,w,h=>by
  rw[foldl_cons];refine ZIh (L:=L) ?_ λy hy b z=>h y (Xo _ hy) b (ZH2 (L:=[x]) z)
  unfold Z5;refine w.set λhx=>?_
  have v:=w.all x.toNat hx;refine⟨.inl rfl,v.bl,v.bs,v.tl,v.ts,v.ml,v.ms,v.m0,.inr λk hk=>?_⟩;obtain⟨i,hi,e⟩:=List.mem_iff_getElem.mp hk;have h1:=h x (Xs ..) i;have h2:=v.ms k hk;unfold tmr at h1;rw[Xq (i:=i),getElem?_eq_getElem hi] at h1;have h1 : ¬0<((hs.getD x.toNat H0).2.2.2[i]):=h1;have e:(hs.getD x.toNat H0).2.2.2[i]=k:=e;omega
theorem ZIu{le co:List Int}(ht : 0<=r.t)(hw : 0<=r.w)(n2 : 2<=ts.length)(w:AQ r ts.length hs)(hle:∀k∈le,0<=k/\k<ts.length)(hco:∀k∈co,0<=k/\k<ts.length):AQ r ts.length (ZAc r ts tn hs lo fa le co).hs:=by
 have hx:∀x∈le++co,x.toNat<ts.length:=λx hx=>by
  rcases List.mem_append.mp hx with h|h
  .have:=hle x h;omega
  .have:=hco x h;omega
 have h1:=ZMV (e:=⟨r,ts,tn,lo⟩) (L:=le++co) (R:=⟨ZU fa le co hs,[]⟩) ht hw (ZPD (fa:=fa) (le:=le) (co:=co) ht hw w) hx;refine ZFf (e:=⟨r,ts,tn,lo⟩) (R:=⟨le.foldl (λhs x=>Z5 x.toNat hs) ((le++co).foldl (λ(R:Rw) (x:Int)=>Z2 ⟨r,ts,tn,lo⟩ x.toNat R) ⟨ZU fa le co hs,[]⟩).hs,_⟩) ht hw n2 (ZIh h1 λx h b z=>?_) λa ha=>List.mem_range.mp ha
 have z : 0<tmr (ZU fa le co hs) x.toNat b:=ZEx (e:=⟨r,ts,tn,lo⟩) (R:=⟨ZU fa le co hs,[]⟩) z;have hxl:=hle x h;unfold tmr ZU at z;rw[Xq (l:=List.map _ _),getElem?_map,getElem?_range (by rw[w.len];omega)] at z;have z : 0<(doH fa le co x.toNat (hs.getD x.toNat H0)).2.2.2.getD b 0:=z;unfold doH at z;rw[toNat_of_nonneg hxl.1] at z
 split at z
 .dsimp only at z
  rw[ZBf] at z;cases z
 .rw[Xp (by simpa using h)] at z
  dsimp only at z;rw[ZBf] at z;cases z
def wd(hs:List Hs)(i y:Nat):Int×Int:=(hs.getD i H0).2.1.getD y (0,0)
theorem ZLr{y:Nat}:wd (hs.set x h) i y=if x=i/\i<hs.length then h.2.1.getD y (0,0) else wd hs i y:=by
 unfold wd;rw[ZK]
 split <;> rfl
theorem ZMo{y:Nat}(e:h.2.1=(hs.getD x H0).2.1):wd (hs.set x h) i y=wd hs i y:=by
 rw[ZLr]
 split
 .rename_i z
  rw[e,z.1];rfl
 .rfl
variable{z:Nat}
section
variable{e:En}
theorem ZDR{y:Nat}:wd (Zn e x y hs) i z=wd hs i z:=ZMo rfl
theorem ZJ5{cl:List Str}{z y:Nat}{wx:Int×Int}(hzy:z≠y):∀{ns:List (Nat×(Int×Int))} {h:Hs},(∀p∈ns,p.1=y->p.2=wx)->(ZW cl z h ns).2.1.getD y (0,0)=h.2.1.getD y (0,0)\/(ZW cl z h ns).2.1.getD y (0,0)=wx
 |[],h,_=>.inl rfl
 |p::ns,h,hp=>by
  have ih:=ZJ5 (cl:=cl) hzy (ns:=ns) (h:=ZY cl z h p) λq hq=>hp q (Xo _ hq)
  have h0:=hp p (Xs ..);have k:(ZY cl z h p).2.1.getD y (0,0)=h.2.1.getD y (0,0)\/(ZY cl z h p).2.1.getD y (0,0)=wx:=by
   unfold ZY ZCv ZCu
   split
   .split
    .left
     dsimp only;rw[ZK,Xn λu=>hzy u.1]
    .exact .inl rfl
   .split
    .dsimp only
     rw[ZK]
     split
     .rename_i u
      exact .inr (h0 u.1)
     .exact .inl rfl
    .exact .inl rfl
  show(ZW cl z (ZY cl z h p) ns).2.1.getD y (0,0)=_\/(ZW cl z (ZY cl z h p) ns).2.1.getD y (0,0)=wx;rcases ih with ih|ih
  .rw[ih];exact k
  .exact .inr ih
theorem ZHV{cl:List Str}{y:Nat}{wx:Int×Int}:∀{ns:List (Nat×(Int×Int))} {h:Hs},(∀p∈ns,p.1=y->p.2=wx)->(ZW cl y h ns).2.1.getD y (0,0)=h.2.1.getD y (0,0)\/((ZW cl y h ns).2.1.getD y (0,0)=(wx.1+1,0)/\gtW wx (h.2.1.getD y (0,0))=true)
 |[],h,_=>.inl rfl
 |p::ns,h,hp=>by
  have ih:=ZHV (cl:=cl) (ns:=ns) (h:=ZY cl y h p) λq hq=>hp q (Xo _ hq)
  have h0:=hp p (Xs ..);have k:(ZY cl y h p).2.1.getD y (0,0)=h.2.1.getD y (0,0)\/((ZY cl y h p).2.1.getD y (0,0)=(wx.1+1,0)/\gtW wx (h.2.1.getD y (0,0))=true):=by
   unfold ZY ZCv ZCu
   split
   .rename_i u
    have u2:=h0 u
    split
    .rename_i c
     dsimp only;rw[ZK]
     split
     .exact .inr ⟨by rw[u2],by rw[<-u2];exact c.2.2⟩
     .exact .inl rfl
    .exact .inl rfl
   .rename_i u
    split
    .left
     dsimp only;rw[ZK,Xn λv=>u v.1]
    .exact .inl rfl
  show(ZW cl y (ZY cl y h p) ns).2.1.getD y (0,0)=_\/((ZW cl y (ZY cl y h p) ns).2.1.getD y (0,0)=_/\_);rcases ih with ih|⟨ih,_⟩
  .rw[ih];exact k
  .rcases k with k|k
   .rename_i g
    exact .inr ⟨ih,by rw[k] at g;exact g⟩
   .exact .inr ⟨ih,k.2⟩
theorem ZPZ{y:Nat}:((ZA2 e b ans h).2.1.getD y (0,0)).1=(h.2.1.getD y (0,0)).1:=by
 have k:∀m:Int,((h.2.1.set b ((h.2.1.getD b (0,0)).1,m)).getD y (0,0)).1=(h.2.1.getD y (0,0)).1:=λm=>by
  rw[ZK]
  split
  .rename_i z
   rw[z.1]
  .rfl
 unfold ZA2
 split
 .rfl
 .split
  .exact k _
  .split
   .split
    .exact k _
    .rfl
   .split <;> rfl
end
structure Kps (e:En) (n:Nat) (I:List Hs->Prop):Prop where
 snd:∀{x y:Nat} {R:Rw},x<n->y<n->x≠y->HsL n R.hs->I R.hs->I (ZH e x y R).2.hs
 jud:∀{a b:Nat} {ans:Bool} {hs:List Hs},a<n->b<n->a≠b->HsL n hs->(hs.getD a H0).1=1->I hs->I (ZAG e a b ans hs)
section
variable{e:En}{n:Nat}{I:List Hs->Prop}
theorem ZQO(K:Kps e n I):∀{l:List (Nat×Nat)} {R:Rw},HsL n R.hs->I R.hs->(∀p∈l,(p.1<n/\p.2<n)/\p.1≠p.2)->I (Zu e l R).2.hs
 |[],R,_,h,_=>h
 |p::l,R,w,h,hp=>by
  have h0:=hp p (Xs ..);have h1:=K.snd h0.1.1 h0.1.2 h0.2 w h;rw[Zu]
  split
  .exact ZQO K (ZAv w h0.1.1 h0.1.2) h1 λq hq=>hp q (Xo _ hq)
  .exact h1
theorem ZLy(K:Kps e n I):∀{ws:List (List (Nat×Nat))} {R:Rw},HsL n R.hs->I R.hs->(∀l∈ws,∀p∈l,(p.1<n/\p.2<n)/\p.1≠p.2)->I (ZX e ws R).2.hs
 |[],R,_,h,_=>h
 |l::ws,R,w,h,hp=>by
  have h0:=hp l (Xs ..);have h1:=ZQO K w h h0;rw[ZX]
  split
  .exact h1
  .exact ZLy K (ZCi w λp hq=>(h0 p hq).1).1 h1 λq hq=>hp q (Xo _ hq)
theorem ZQ8(K:Kps e n I)(w:HsL n R.hs)(h:I R.hs)(ha:a<n)(hb:b<n)(hab:a≠b)(hu:(R.hs.getD a H0).1=1):I (Zf e a b R).hs:=by
 unfold Zf
 split
 .have hw:=Z4 (e:=e) w ha hb hab
  have h1:=ZLy K w h hw;have h2:=ZA6 (e:=e) (ws:=Zc e R.hs a b) (R:=R) λv hv p hp=>(hw v hv p hp).2
  exact K.jud ha hb hab (ZBN w λv hv p hp=>(hw v hv p hp).1).1 ((ZN h2.up a).trans hu) h1
 .exact h
theorem ZLx(K:Kps e n I)(ho : 0<=e.r.o/\e.r.o<=3){a:Nat}(ha:a<n):∀{L:List Nat} {R:Rw},HsL n R.hs->I R.hs->(∀b∈L,b<n/\a≠b)->(R.hs.getD a H0).1=1->I (L.foldl (λR b=>Zf e a b R) R).hs
 |[],R,_,h,_,_=>h
 |b::L,R,w,h,hb,hu=>by
  obtain⟨h1,h2⟩:=hb b (Xs ..);rw[foldl_cons];exact ZLx K ho ha (ZAm ho w ha h1 h2).1 (ZQ8 K w h ha h1 h2 hu) (λc hc=>hb c (Xo _ hc)) ((ZN (Z8 (e:=e) w ha h1 h2).up a).trans hu)
theorem ZFi(K:Kps e e.ts.length I)(ho : 0<=e.r.o/\e.r.o<=3)(hn : 2<=e.ts.length):∀{L:List Nat} {R:Rw},HsL e.ts.length R.hs->I R.hs->(∀a∈L,a<e.ts.length)->I (L.foldl (λR a=>ZQ e a R) R).hs
 |[],R,_,h,_=>h
 |a::L,R,w,h,hl=>by
  have ha:=hl a (Xs ..);rw[foldl_cons];refine ZFi K ho hn (L:=L) (ZAy ho hn w ha).1 ?_ λc hc=>hl c (Xo _ hc)
  unfold ZQ
  split
  .rename_i h3
   unfold ZCP at h3;rw[Bool.and_eq_true] at h3;exact ZLx K ho ha w h (λb hb=>Z0 hn ha hb) (Xd h3.1)
  .exact h
theorem ZIz(K:Kps e n I){x:Nat}(hx:x<n):∀{L:List Nat} {R:Rw},HsL n R.hs->I R.hs->(∀y∈L,y<n)->HsL n (L.foldl (λR y=>if y=x then R else (ZH e x y R).2) R).hs/\I (L.foldl (λR y=>if y=x then R else (ZH e x y R).2) R).hs
 |[],R,w,h,_=>⟨w,h⟩
 |y::L,R,w,h,hy=>by
  have hy0:=hy y (Xs ..);rw[foldl_cons]
  by_cases z:y=x
  .rw[Xp z]
   exact ZIz K hx (L:=L) w h λc hc=>hy c (Xo _ hc)
  .rw[Xn z]
   exact ZIz K hx (L:=L) (ZAv w hx hy0) (K.snd hx hy0 (λq=>z q.symm) w h) λc hc=>hy c (Xo _ hc)
theorem ZMx(K:Kps e e.ts.length I):∀{L:List Int} {R:Rw},HsL e.ts.length R.hs->I R.hs->(∀x∈L,x.toNat<e.ts.length)->HsL e.ts.length (L.foldl (λ(R:Rw) (x:Int)=>Z2 e x.toNat R) R).hs/\I (L.foldl (λ(R:Rw) (x:Int)=>Z2 e x.toNat R) R).hs
 |[],R,w,h,_=>⟨w,h⟩
 |x::L,R,w,h,hx=>by
  rw[foldl_cons];obtain⟨w1,h1⟩:=ZIz K (hx x (Xs ..)) (L:=List.range e.ts.length) w h λy hy=>List.mem_range.mp hy
  exact ZMx K (L:=L) w1 h1 λc hc=>hx c (Xo _ hc)
end
theorem ZM1{I:List Hs->Prop}(hI:∀{x:Nat} {hs:List Hs},I hs->I (Z5 x hs)):∀{L:List Int} {hs:List Hs},I hs->I (L.foldl (λhs x=>Z5 x.toNat hs) hs)
 |[],hs,h=>h
 |x::L,hs,h=>by
  rw[foldl_cons];exact ZM1 hI (L:=L) (hI h)
theorem ZTt{hs:List Hs}{le co:List Int}{I:List Hs->Prop}(K:Kps ⟨r,ts,tn,lo⟩ ts.length I)(hI:∀{x:Nat} {hs:List Hs},I hs->I (Z5 x hs))(ho : 0<=r.o/\r.o<=3)(n2 : 2<=ts.length)(w:HsL ts.length (ZU fa le co hs))(h:I (ZU fa le co hs))(hle:∀k∈le,0<=k/\k<ts.length)(hco:∀k∈co,0<=k/\k<ts.length):I (ZAc r ts tn hs lo fa le co).hs:=by
 have hx:∀x∈le++co,x.toNat<ts.length:=λx hx=>by
  rcases List.mem_append.mp hx with h|h
  .have:=hle x h;omega
  .have:=hco x h;omega
 have hst:∀x∈le,x.toNat<ts.length:=λx h=>hx x (mem_append_left _ h)
 obtain⟨w1,h1⟩:=ZMx (e:=⟨r,ts,tn,lo⟩) K (L:=le++co) (R:=⟨ZU fa le co hs,[]⟩) w h hx;exact ZFi (e:=⟨r,ts,tn,lo⟩) (R:=⟨le.foldl (λhs x=>Z5 x.toNat hs) ((le++co).foldl (λ(R:Rw) (x:Int)=>Z2 ⟨r,ts,tn,lo⟩ x.toNat R) ⟨ZU fa le co hs,[]⟩).hs,_⟩) K ho n2 (ZEM w1 hst) (ZM1 hI h1) λa ha=>List.mem_range.mp ha
def leW(a b:Int×Int):Prop:=a.1<b.1\/(a.1=b.1/\a.2<=b.2)
theorem leW.refl{a:Int×Int}:leW a a:=.inr ⟨rfl,Int.le_refl _⟩
theorem leW.trans{a b c:Int×Int}(h:leW a b)(k:leW b c):leW a c:=by
 unfold leW at *;omega
theorem leW.gt{a b:Int×Int}(h:gtW b a=true):leW a b:=by
 have:=ZAD.mp h;unfold leW;omega
theorem leW.ng{a b:Int×Int}(h:leW a b):gtW a b=false:=by
 rw[<-Bool.not_eq_true,ZAD];unfold leW at h;omega
structure Ord (n:Nat) (h0 hs:List Hs):Prop where
 own:∀i y,i<n->y<n->(wd hs i y).1<=(wd hs y y).1
 inc:∀i y,i<n->y<n->leW (wd h0 i y) (wd hs i y)
variable{v:Nat}
theorem ZPT(hc:ZS cl "newer" = true):leW (h.2.1.getD v (0,0)) ((ZY cl z h p).2.1.getD v (0,0)):=by
 unfold ZY ZCv ZCu
 split
 .split
  .rename_i c
   dsimp only;rw[ZK]
   split
   .rename_i u
    rw[<-u.1];have:=ZAD.mp c.2.2;left;show _<p.2.1+1;omega
   .exact leW.refl
  .exact leW.refl
 .split
  .rename_i c
   dsimp only;rw[ZK]
   split
   .rename_i u
    rw[<-u.1];unfold ZCl at c;rw[Xp hc] at c;exact leW.gt c
   .exact leW.refl
  .exact leW.refl
theorem ZDS{cl:List Str}{z v:Nat}(hc:ZS cl "newer" = true):∀{ns:List (Nat×(Int×Int))} {h:Hs},leW (h.2.1.getD v (0,0)) ((ZW cl z h ns).2.1.getD v (0,0))
 |[],h=>leW.refl
 |p::ns,h=>(ZPT (z:=z) hc).trans (ZDS hc (ns:=ns) (h:=ZY cl z h p))
section
variable{e:En}{n:Nat}{h0:List Hs}
theorem Ord.same(k:Ord n h0 hs)(h:∀i y,wd hs' i y=wd hs i y):Ord n h0 hs':=⟨λi y hi hy=>by rw[h,h];exact k.own i y hi hy,λi y hi hy=>by rw[h];exact k.inc i y hi hy⟩
theorem ZVH(hc:ZS e.r.cl "newer" = true)(w:HsL n hs)(hx:x<n)(hz:z<n)(k:Ord n h0 hs):Ord n h0 (Zp e x z hs):=by
 have hp:∀y,∀p∈ZAO (hs.getD x H0).2.1 (ZAf e x z) (ZBS e (hs.getD x H0) x z) e.ts.length,p.1=y->p.2=wd hs x y:=λy p hp u=>by
  rw[ZBR hp,u];rfl
 have lm:(Zn e x z hs).length=n:=by unfold Zn;rw[length_set];exact w.len
 have eo:∀i v,wd (Zp e x z hs) i v=if z=i then (ZW e.r.cl z (hs.getD z H0) (ZAO (hs.getD x H0).2.1 (ZAf e x z) (ZBS e (hs.getD x H0) x z) e.ts.length)).2.1.getD v (0,0) else wd hs i v:=λi v=>by
  unfold Zp;rw[ZLr,lm,ZDR]
  by_cases q:z=i
  .rw[Xp q,Xp ⟨q,⋯⟩]
  .rw[Xn q,Xn λu=>q u.1]
 have ti:∀v,leW (wd hs z v) ((ZW e.r.cl z (hs.getD z H0) (ZAO (hs.getD x H0).2.1 (ZAf e x z) (ZBS e (hs.getD x H0) x z) e.ts.length)).2.1.getD v (0,0)):=λv=>ZDS hc
 have tn:∀v,z≠v->_:=λv q=>ZJ5 (cl:=e.r.cl) (h:=hs.getD z H0) q (hp v)
 have to_:=ZHV (cl:=e.r.cl) (h:=hs.getD z H0) (hp z);refine⟨λi v hi hv=>?_,λi v hi hv=>?_⟩
 .rw[eo,eo]
  by_cases q:z=v
  .subst q
   rw[Xp rfl]
   split
   .exact Int.le_refl _
   .have h1:=k.own i z hi hv
    have h2:=ti z;unfold leW at h2;omega
  .rw[Xn q]
   split
   .rcases tn v q with t|t
    .rw[t];exact k.own z v hz hv
    .rw[t];exact k.own x v hx hv
   .exact k.own i v hi hv
 .rw[eo]
  split
  .rename_i q
   rw[<-q];exact(k.inc z v hz hv).trans (ti v)
  .exact k.inc i v hi hv
theorem ZOn:leW (h.2.1.getD v (0,0)) ((ZA2 e b ans h).2.1.getD v (0,0)):=by
 unfold ZA2
 split
 .exact leW.refl
 .split
  .rename_i c
   dsimp only;rw[ZK]
   split
   .rename_i u
    rw[<-u.1];rw[Bool.and_eq_true] at c;have:=Xd c.1;right;exact⟨rfl,by show _<=(2:Int);omega⟩
   .exact leW.refl
  .split
   .split
    .rename_i c
     dsimp only;rw[ZK]
     split
     .rename_i u
      rw[<-u.1];right;exact⟨rfl,by show _<=(1:Int);omega⟩
     .exact leW.refl
    .exact leW.refl
   .split
    .exact leW.refl
    .exact leW.refl
theorem jud_o(w:HsL n hs)(ha:a<n)(hb:b<n)(hab:a≠b)(k:Ord n h0 hs):Ord n h0 (ZAG e a b ans hs):=by
 have eo:∀i v,wd (ZAG e a b ans hs) i v=if a=i then (ZA2 e b ans (hs.getD a H0)).2.1.getD v (0,0) else wd hs i v:=λi v=>by
  unfold ZAG;rw[ZLr,w.len]
  by_cases q:a=i
  .rw[Xp q,Xp ⟨q,⋯⟩]
  .rw[Xn q,Xn λu=>q u.1]
 have en:∀i v,(wd (ZAG e a b ans hs) i v).1=(wd hs i v).1:=λi v=>by
  rw[eo]
  split
  .rename_i q
   rw[ZPZ,q];rfl
  .rfl
 refine⟨λi v hi hv=>by rw[en,en];exact k.own i v hi hv,λi v hi hv=>?_⟩;rw[eo]
 split
 .rename_i q
  rw[<-q];exact(k.inc a v ha hv).trans (ZOn (h:=hs.getD a H0))
 .exact k.inc i v hi hv
theorem ZCS(hc:ZS e.r.cl "newer" = true):Kps e n (Ord n h0):=⟨λ{x y R} hx hy hxy w k=>by
 unfold ZH
 split
 .exact k.same λ_ _=>ZDR
 .split
  .exact k.same λ_ _=>ZDR
  .exact ZVH hc w hx hy k,λha hb hab w _ k=>jud_o w ha hb hab k⟩
end
theorem ZMC{n:Nat}(w:HsL n hs)(hi:i<n):wd (ZU fa le co hs) i v=(doH fa le co i (hs.getD i H0)).2.1.getD v (0,0):=by
 unfold wd ZU;rw[Xq (l:=List.map _ _),getElem?_map,getElem?_range (by rw[w.len];exact hi)];rfl
theorem ZU6{n:Nat}(w:HsL n hs)(own:∀i y,i<n->y<n->(wd hs i y).1<=(wd hs y y).1):Ord n (ZU fa le co hs) (ZU fa le co hs):=by
 refine⟨λi y hi hy=>?_,λ_ _ _ _=>leW.refl⟩;have k1:i≠y->wd (ZU fa le co hs) i y=wd hs i y:=λq=>by
  rw[ZMC w hi];have kn:∀x:Int×Int,((hs.getD i H0).2.1.set i x).getD y (0,0)=wd hs i y:=λx=>by
   rw[ZK,Xn λz=>q z.1];rfl
  unfold doH
  split
  .rfl
  .split
   .exact kn _
   .split
    .exact kn _
    .rfl
 have k2:(wd hs y y).1<=(wd (ZU fa le co hs) y y).1:=by
  rw[ZMC w hy];have ky:∀x:Int×Int,(wd hs y y).1<=x.1->(wd hs y y).1<=(((hs.getD y H0).2.1.set y x).getD y (0,0)).1:=λx hx=>by
   rw[ZK]
   split
   .exact hx
   .exact Int.le_refl _
  unfold doH
  split
  .exact Int.le_refl _
  .split
   .exact ky _ (Int.le_refl _)
   .split
    .exact ky _ (by show(wd hs y y).1<=(wd hs y y).1+1;omega)
    .exact Int.le_refl _
 by_cases q:i=y
 .rw[q];exact Int.le_refl _
 .rw[k1 q]
  exact Int.le_trans (own i y hi hy) k2
theorem ZLZ{le co:List Int}(hc:ZS r.cl "newer" = true)(ho : 0<=r.o/\r.o<=3)(n2 : 2<=ts.length)(w:HsL ts.length hs)(own:∀i y,i<ts.length->y<ts.length->(wd hs i y).1<=(wd hs y y).1)(hle:∀k∈le,0<=k/\k<ts.length)(hco:∀k∈co,0<=k/\k<ts.length) :
  Ord ts.length (ZU fa le co hs) (ZAc r ts tn hs lo fa le co).hs :=
 ZTt (I:=Ord ts.length (ZU fa le co hs)) (ZCS (e:=⟨r,ts,tn,lo⟩) hc) (λ{x hs} k=>k.same λi y=>by unfold Z5;exact ZMo rfl) ho n2 (ZDO w) (ZU6 w own) hle hco
theorem ZJa{cl:List Str}{y b:Nat}:∀{ns:List (Nat×(Int×Int))} {h:Hs},(ZW cl y h ns).2.2.2.getD b 0=h.2.2.2.getD b 0\/(ZW cl y h ns).2.2.2.getD b 0=0
 |[],h=>.inl rfl
 |p::ns,h=>by
  have k:(ZY cl y h p).2.2.2.getD b 0=h.2.2.2.getD b 0\/(ZY cl y h p).2.2.2.getD b 0=0:=by
   unfold ZY ZCv ZCu
   split
   .split <;> exact .inl rfl
   .split
    .dsimp only
     split
     .exact .inl rfl
     .rw[ZK]
      split
      .exact .inr rfl
      .exact .inl rfl
    .exact .inl rfl
  show(ZW cl y (ZY cl y h p) ns).2.2.2.getD b 0=_\/(ZW cl y (ZY cl y h p) ns).2.2.2.getD b 0=0;rcases ZJa (cl:=cl) (y:=y) (b:=b) (ns:=ns) (h:=ZY cl y h p) with t|t
  .rw[t];exact k
  .exact .inr t
theorem ZEh:ZU [] [] [] hs=hs:=by
 unfold ZU;apply ext_getElem
 .rw[Xm,length_range]
 .intro i h1 h2
  rw[List.getElem_map,getElem_range];show doH [] [] [] i (hs.getD i H0)=_;rw[Xq,getElem?_eq_getElem h2];rfl
section
variable{X:Cx}{pos:Pos}
def ZLI(a b:W)(g:G):Option (W×G):=match b with
 |.dat (.int k)=>(ZAe a g).bind λxs=>if k<=1000/\-1000<=k/\xs.length<=1000 then some (.ref g.length,g++[.pl (List.replicate k.toNat xs).flatten]) else none
 |_=>none
theorem oMulC:OpR X (binaryOp .Mult) (rOp X.K ZLI):=by
 intro pq s σ H x y v u Q I rx ry h;obtain⟨ρ,a,b,g,z,g',hR,ra,rb,e,q⟩:=h;cases rb with
 |dat rb =>
  cases rb with
  |int k =>
   obtain⟨xs,e1,e⟩:=bnd e;obtain⟨l,vs,rfl,h1,t1⟩:=Z3 hR ra e1
   split at e
   .rename_i hz
    obtain⟨z1,z2,z3⟩:=hz;cases e;refine ZQL pq s σ H _ _ v u Q I rx ry ⟨l,k,vs,rfl,rfl,h1,⋯,⋯,?_,λp hp=>?_⟩
    .rw[t1.length]
     exact le_trans (mul_le_mul z3 (show k.toNat<=1000 by omega)) (by decide)
    .obtain⟨hr2,st⟩:=hR.alloc hp (t1.rep k.toNat)
     exact q _ _ _ st hr2 (.ref (by show(ρ.c++[p])[_]? = _;rw[<-hR.len];simp))
   .cases e
  |_=>cases e
 |_=>cases e
end
section
variable{sd:Sd}{g:G}{dl di d:DE}{aa:DA}{PS':Out->Prop}{P:W->G->Prop}
theorem ZT4{ys:Qd}{k:Int}(h:k<=1000/\-1000<=k/\xs.length<=1000)(e:(List.replicate k.toNat xs).flatten=ys)(q:P (.ref g.length) (g++[.pl ys])):EvP (ZLI (.dat (.list xs)) (.dat (.int k)) g) P:=by
 subst e;exact ZGe (Xp h) q
end
noncomputable def ZTT:PyData->Option Key
 |.int i=>some (.inl i)
 |.str x=>some (.inr x)
 |_=>none
def ZV4:PyData->Option (Key×W)
 |.tuple [k,v]=>(ZTT k).map λq=>(q,.dat v)
 |_=>none
def ZG2:List PyData->Option (List (Key×W))
 |[]=>some []
 |d::r=>(ZV4 d).bind λk=>(ZG2 r).map λks=>k::ks
def ZWD(w:W)(g:G):Option (W×G):=(ZAe w g).bind λds=>(ZG2 ds).bind λkvs=>if ds.length<=1000 then some (.ref g.length,g++[.dk (ZAU [] kvs)]) else none
noncomputable def ZB0:List (Key×W)->Option (List Int)
 |[]=>some []
 |(.inl i,_)::r=>(ZB0 r).map λns=>i::ns
 |_::_=>none
def ZOc:W->G->Option (W×G)
 |.ref n,g=>match g[n]? with
  |some (.dk kvs)=>(ZB0 kvs).bind λns=>if ns.length<64 then some (.dat (.list ((ZDD ns).map .int)),g) else none
  |_=>none
 |_,_=>none
def ZVn(w:W)(g:G):Option (W×G):=(ZAe w g).bind λds=>(ZA7 ds).map λns=>(.dat (.int ns.sum),g)
section
variable{X:Cx}{K:Frag}{ρ:Rh}{H:Hp}
theorem RelK.put{k:Key}{v:V}{x:W}(t:Rel K ρ H v x){vs:List (Key×V)}{ws:List (Key×W)}(r:RelK K ρ H vs ws):RelK K ρ H (ZEj vs k v) (ZEj ws k x):=by
 have ha:(vs.any λkv=>decide (kv.1=k))=ws.any λkv=>decide (kv.1=k):=by
  induction r with
  |nil=>rfl
  |cons h t ih=>rw[any_cons,any_cons,ih]
 unfold ZEj;rw[ha]
 split
 .rename_i h
  clear ha h
  induction r with
  |nil=>exact .nil
  |@cons k' v' x' vs xs h q ih =>
   rw[map_cons,map_cons]
   by_cases e:k'=k
   .rw[Xp (show(k',v').1=k from e),Xp (show(k',x').1=k from e)];exact .cons t ih
   .rw[Xn (show ¬(k',v').1=k from e),Xn (show ¬(k',x').1=k from e)];exact .cons h ih
 .clear ha
  rename_i h
  clear h
  induction r with
  |nil=>exact .cons t .nil
  |cons h q ih=>exact .cons h ih
theorem RelK.merge{more:List (Key×V)}{ms:List (Key×W)}(h:RelK K ρ H more ms):∀{vs:List (Key×V)} {ws:List (Key×W)},RelK K ρ H vs ws->RelK K ρ H (ZAU vs more) (ZAU ws ms):=by
 induction h with
 |nil=>exact λr=>r
 |cons h t ih=>exact λr=>ih (r.put h)
theorem ZHc(I:∀a xs,FzT K ρ H a xs->SqT K H a xs):∀{ds:Qd} {ys:List V} {kvs:List (Key×W)},RelDL K ρ H ys ds->ZG2 ds=some kvs->∃vs:List (Key×V),RelK K ρ H vs kvs/\Paired (λy (q:Key×V)=>∃a,y=.ref a/\SqT K H a [kV q.1,q.2]) ys vs
 |[],_,_,.nil,e=>by cases e;exact⟨[],.nil,.nil⟩
 |d::r,_,_,.cons h t,e=>by
  rw[ZG2] at e;obtain⟨k,e0,e⟩:=bnd e;obtain⟨ks,e1,rfl⟩:=mp e;obtain⟨vs,h1,h2⟩:=ZHc I t e1;unfold ZV4 at e0
  split at e0
  .rename_i dk dv
   obtain⟨q,e2,rfl⟩:=mp e0;obtain⟨a,xs,rfl,f,tl⟩:=RelD.tupI h;cases tl with
   |cons r1 tl=>cases tl with
    |cons r2 tl =>
     cases tl;unfold ZTT at e2
     split at e2
     .cases e2
      cases r1;exact⟨(.inl _,_)::vs,.cons (.dat r2) h1,.cons ⟨a,rfl,I _ _ f⟩ h2⟩
     .cases e2
      cases r1;exact⟨(.inr _,_)::vs,.cons (.dat r2) h1,.cons ⟨a,rfl,I _ _ f⟩ h2⟩
     .cases e2
  .cases e0
theorem cDic(hc:X.calm=true):Zi X (.type "dict") (rF X.K (f1 ZWD)):=c1 (ZL6 hc) λρ H g x w z g' Q hR r e q=>by
 obtain⟨ds,e1,e⟩:=bnd e;obtain⟨kvs,e2,e⟩:=bnd e;obtain⟨l,vs,rfl,h1,t1⟩:=Z3 hR r e1
 split at e
 .rename_i hz
  cases e;obtain⟨us,k1,k2⟩:=ZHc (λ_ _ f=>f.sq) t1 e2;refine⟨l,vs,us,rfl,h1,by rw[t1.length];exact hz,k2,λd hd=>?_⟩;obtain⟨hr2,s2⟩:=hR.allocC hd (o:=.dK (ZAU [] us)) (c:=.dk (ZAU [] kvs)) λs=>⟨_,Za,(k1.merge .nil).mono s⟩
  refine q _ _ _ s2 hr2 (.ref ?_);show(ρ.c++[d])[g.length]? = some d;rw[<-hR.len,getElem?_append_right (le_refl _),sub_self];rfl
 .cases e
theorem ZHm:∀{vs:List (Key×V)} {kvs:List (Key×W)} {ns:List Int},RelK K ρ H vs kvs->ZB0 kvs=some ns->vs.map (·.1)=ns.map Sum.inl
 |_,_,_,.nil,e=>by cases e;rfl
 |_,_,_,.cons (k:=.inl i) h t,e=>by
  rw[ZB0] at e;obtain⟨ms,e1,rfl⟩:=mp e;rw[map_cons,map_cons,ZHm t e1]
 |_,_,_,.cons (k:=.inr i) h t,e=>by cases e
theorem cSrtD(hc:X.calm=true):Zi X (.builtin "sorted") (rF X.K (f1 ZOc)):=c1 (ZIC hc) λρ H g x w z g' Q hR r e q=>by
 unfold ZOc at e
 split at e
 .rename_i n g
  split at e
  .rename_i kvs e1
   obtain⟨ns,e2,e⟩:=bnd e
   split at e
   .rename_i hz
    cases e;cases r with
    |ref h =>
     obtain⟨a,k1,vs,k2,k3⟩:=hR.ce _ _ e1;rw[h] at k1;cases k1;refine⟨_,vs,ns,rfl,k2,ZHm k3 e2,hz,λp ms hp pm pw=>?_⟩;rw[ZKa pm pw];exact q.new hR RelDL.ofInts hp
   .cases e
  .cases e
 .cases e
theorem cSum(hc:X.calm=true):Zi X (.builtin "sum") (rF X.K (f1 ZVn)):=c1 (ZOM hc) λρ H g x w z g' Q hR r e q=>by
 obtain⟨ds,e1,e⟩:=bnd e;obtain⟨ns,e2,e⟩:=mp e;cases e;obtain⟨l,vs,rfl,h1,t1⟩:=Z3 hR r e1;have:=ZBh t1 e2;subst this
 exact⟨l,ns,rfl,SqL.of h1,q.at hR (.dat (.int _))⟩
end
variable{P:List Value->Prop}
theorem ZPt{n:Nat}(h:∀a us,us.length=n->P (a::us)):∀us:List Value,us.length=n+1->P us
 |a::us,e=>h a us (Nat.succ.inj e)
theorem ZV2(h:∀a,P [a]):∀us:List Value,us.length=1->P us:=ZPt λa us e=>by rw[List.length_eq_zero_iff.mp e];exact h a
theorem ZV9(h:∀a b,P [a,b]):∀us:List Value,us.length=2->P us:=ZPt λa=>ZV2 (h a)
theorem ZV0(h:∀a b c,P [a,b,c]):∀us:List Value,us.length=3->P us:=ZPt λa=>ZV9 (h a)
theorem ZWI(h:∀a b c d,P [a,b,c,d]):∀us:List Value,us.length=4->P us:=ZPt λa=>ZV0 (h a)
theorem len5(h:∀a b c d e,P [a,b,c,d,e]):∀us:List Value,us.length=5->P us:=ZPt λa=>ZWI (h a)
noncomputable def tgN0:Expr->List Str
 |.Name x _=>[x]
 |_=>[]
def tgN1:Expr->List Str
 |.Name x _=>[x]
 |.Tuple es _ _=>es.flatMap tgN0
 |_=>[]
def tgN:Expr->List Str
 |.Name x _=>[x]
 |.Tuple es _ _=>es.flatMap tgN1
 |_=>[]
section
variable{X:Cx}{tg elt iter:Expr}{ifs:List Expr}{scope sc:Scope}{pos:Pos}{di:DI}{pt:Pat}{dt:DB}{de:DE}{own:Nat}{cap:List Nat}
theorem ZNe(hc:X.calm=true)(hi:JI X tg iter di)(hb:∀cl C s0 H0 fp,JG (blk X (tgN tg++cap.map λi=>X.N.getD i "") (compEnvC scope cl C X.env) s0 H0 fp) tg pt/\JTs (blk X (tgN tg++cap.map λi=>X.N.getD i "") (compEnvC scope cl C X.env) s0 H0 fp) ifs dt/\JE (blk X (tgN tg++cap.map λi=>X.N.getD i "") (compEnvC scope cl C X.env) s0 H0 fp) elt de)(co:ZHI X.env.scope scope X.N (tgN tg++cap.map λi=>X.N.getD i "") own cap=true)(hp:pt.all (λi=>decide (i<own))=true)(hs:∀x,foldedSetIterable iter X.env x=pure x:=by intro _;rfl):JE X (.ListComp elt [⟨tg,iter,ifs,0⟩] scope pos) (ZAI own cap pt di dt de):=ZKE hc hi rfl rfl hb co hp hs
theorem ZN0{i:Nat}{x:Str}{py spos:Pos}(hN:X.N.Nodup)(hi:X.N[i]? = some x)(hx:Loc X.env.scope x)(hc:X.calm=true)(hit:JI X tg iter di)(hb:∀cl C s0 H0 fp,JG (blk X (tgN tg++cap.map λi=>X.N.getD i "") (compEnvC scope cl C X.env) s0 H0 fp) tg pt/\JTs (blk X (tgN tg++cap.map λi=>X.N.getD i "") (compEnvC scope cl C X.env) s0 H0 fp) ifs dt/\JE (blk X (tgN tg++cap.map λi=>X.N.getD i "") (compEnvC scope cl C X.env) s0 H0 fp) elt de)(co:ZHI X.env.scope scope X.N (tgN tg++cap.map λi=>X.N.getD i "") own cap=true)(hp:pt.all (λi=>decide (i<own))=true)(hsw:swapsWith (.ListComp elt [⟨tg,iter,ifs,0⟩] scope pos) (some (.Name x py)) spos.line X.env=pure true:=by rfl)(hs:∀x,foldedSetIterable iter X.env x=pure x:=by intro _;rfl)(hf:Ye X x:=by first|exact .inl rfl|exact .inr rfl|assumption):JS X (.Assign [.Name x py] (.ListComp elt [⟨tg,iter,ifs,0⟩] scope pos) spos) (ZR i (ZAI own cap pt di dt de)):=ZP5 hN hi hx hc hit rfl rfl hb co hp hsw hs hf
end
noncomputable def ZEZ(dc:DB)(db:DS):Nat->Sd->G->Option Out
 |0,_,_=>none
 |n+1,sd,g=>(dc sd g).bind λb=>if b.1=true then (db sd b.2).bind λo=>match o with
  |.nx sd2 g2=>ZEZ dc db n sd2 g2
  |.ct sd2 g2=>ZEZ dc db n sd2 g2
  |.bk sd2 g2=>some (.nx sd2 g2)
  |.rt y g2=>some (.rt y g2)
  else some (.nx sd b.2)
def ZGV(n:Nat)(dc:DB)(db:DS):DS:=λsd g=>ZEZ dc db n sd g
section
variable{X:Cx}{pos:Pos}{dc:DB}{db:DS}
theorem ZNs{n:Nat}{c:Expr}{body:List Stmt}(hp:PassesOwn (model X.prog X.w) X.A X.env X.xe)(hc:JT X c dc)(hb:JSs X body db):JS X (.While c body [] pos) (ZGV n dc db):=⟨(ZOv hp hc.h hb.h).imp λD σ H ⟨ρ,sd,g,o,r,e,q⟩=>by
 refine⟨λm σ' H'=>∃ρ' sd' g',Stp ρ H ρ' H'/\Rst X.K ρ' H' σ' sd' g'/\ZEZ dc db m sd' g'=some o,⟨n,ρ,sd,g,.refl,r,e⟩,?_⟩
 rintro m σ' H' ⟨ρ',sd',g',s',r',e'⟩
 cases m with
 |zero=>cases e'
 |succ m =>
  rw[ZEZ] at e';obtain⟨⟨b,g1⟩,e1,e'⟩:=bnd e';refine⟨ρ',sd',g',b,g1,r',e1,λH1 ρ1 s1 h1=>?_⟩;have s01:=s'.trans s1;have r1:=r'.step s1 h1;cases b with
  |false =>
   rw[Xn Xf] at e';cases e';exact ZV6 (q σ' H1 ρ1 s01 r1)
  |true =>
   rw[Xp rfl] at e';obtain⟨o1,e2,e'⟩:=bnd e';refine ZVz ⟨λσ2 H2=>∃ρ2 sd2 g2,Stp ρ H ρ2 H2/\Rst X.K ρ2 H2 σ2 sd2 g2/\ZEZ dc db m sd2 g2=some o,λσ2 H2 h=>⟨m,lt_succ_self _,h⟩,ρ1,sd',g1,o1,r1,e2,?_⟩;cases o1 with
   |nx sd2 g2=>exact λσ4 H4 ρ4 s4 r4=>⟨ρ4,sd2,g2,s01.trans s4,r4,e'⟩
   |ct sd2 g2=>exact λσ4 H4 ρ4 s4 r4=>⟨ρ4,sd2,g2,s01.trans s4,r4,e'⟩
   |bk sd2 g2 =>
    cases e';exact ZFM.step q s01
   |rt y g2 =>
    cases e';exact ZFM.step q s01⟩
end
inductive WhP (N:Sd->G->Prop) (P:Out->Prop):Out->Prop
 |nx {sd:Sd} {g:G}:N sd g->WhP N P (.nx sd g)
 |ct {sd:Sd} {g:G}:N sd g->WhP N P (.ct sd g)
 |bk {sd:Sd} {g:G}:P (.nx sd g)->WhP N P (.bk sd g)
 |rt {x:W} {g:G}:P (.rt x g)->WhP N P (.rt x g)
section
variable{dc:DB}{db:DS}{P:Out->Prop}
theorem ZTc(I:Nat->Sd->G->Prop)(hs:∀k sd g,I k sd g->EvP (dc sd g) λb g1=>(b=true->EvS (db sd g1) (WhP (λsd' g'=>∃k',k'<k/\I k' sd' g') P))/\(b=false->P (.nx sd g1))):∀(n k:Nat) {sd:Sd} {g:G},k<n->I k sd g->EvS (ZEZ dc db n sd g) P:=by
 intro n
 induction n with
 |zero=>intro k sd g h;exact absurd h (not_lt_zero _)
 |succ n ih =>
  intro k sd g h hi;obtain⟨b,g1,e1,h1,h2⟩:=hs k sd g hi;rw[ZEZ,e1];cases b with
  |false=>exact⟨_,rfl,h2 rfl⟩
  |true =>
   obtain⟨o,e2,w⟩:=h1 rfl;show EvS ((db sd g1).bind _) P;rw[e2];cases w with
   |nx q=>obtain⟨k',h3,h4⟩:=q;exact ih k' ⋯ h4
   |ct q=>obtain⟨k',h3,h4⟩:=q;exact ih k' ⋯ h4
   |bk q=>exact⟨_,rfl,q⟩
   |rt q=>exact⟨_,rfl,q⟩
theorem ZNB{n:Nat}(h:EvS (ZEZ dc db n sd g) P):EvS (ZGV n dc db sd g) P:=h
end
end _L
namespace HT
open PySem PyProof.Rows
open Builtin
theorem tuple_mulE(l:Addr)(items:Array Value)(n:Nat)(dd:Option Addr)(sl:Array (Option Value))(k:Int)(t:Tok)(hc0 : ¬(decide (k < -(2 ^ 63)) || decide (k ≥ 2 ^ 63))=true)(hc1:(items.isEmpty || k == 1)=true) :
  Meets (Builtin.«tuple.__mul__» ⟨[.ref l,.int k t],[]⟩) (λ_ R s=>s.heap.get? l=some { cls:=.type "tuple",dict:=dd,data:=.seq items n,slots:=sl }/\R (.ok (.ret (Value.ref l))) s) :=
 .of_wp λprog w A R s h=>by
  obtain⟨hp,g,d,tk,os⟩:=s;obtain⟨hl,h⟩:=h;have f1:=AutoSeq1.idx_int;have f2:=AutoSeq1.sub_tuple_tuple
  wp_walk using wpAny_loadPart' hl
  rw[Xn hc0]
  wp_walk using wpAny_loadPart' hl
  exact⟨_,rfl,h⟩
end HT
namespace _L
open PySem PySem.Spec PyProof.Rows H1
section
variable{X:Cx}
theorem ZRN:OpR X (binaryOp .Mult) (λx y H Q=>∃(a:Addr) (k:Int),x=.ref a/\y=.int k/\SqT X.K H a []/\(2<=k/\k<=400)/\Q (.ref a) H):=by
 intro pq s σ H x y v u Q I rx ry h;obtain⟨a,k,rfl,rfl,ha,⟨k2,k20⟩,q⟩:=h;cases rx;obtain⟨t,rfl⟩:=ry;obtain⟨its,r,p1,_⟩:=I.tuple ha;obtain⟨⟨cls,dd,data,sl⟩,ho,hc,n,hd⟩:=id p1;simp only at hc hd;subst hc hd;cases r;refine wpAny_binaryOp_repeat_ref (T:="tuple") (U:="int") (by decide) ⟨_,ho,rfl⟩ (λs'=>typeIs_int s' k t) HT.noFill_tuple_mul F.fills_int_mul F.slot_int_rmul HT.repeat_tuple F.slot_int_index.lookup
  (call_meets F.slot_int_rmul (typeIs_int s k t) F.entry_int_rmul (F.args_int_rmul_2 _ _) (HT.rmul_tup k t a _ n dd sl)
   ⟨ho,rfl,⟨_,ho,rfl⟩,call_meets F.slot_tuple_mul ⟨_,ho,rfl⟩ F.entry_tuple_mul (F.args_tuple_mul_2 _ _) (HT.tuple_mulE a _ n dd sl k t ?_ ?_) ⟨ho,?_⟩⟩)
 .simp;omega
 .simp
 exact⟨.ref a,_,I,rfl,q⟩
end
noncomputable def ZLm:W->W->G->Option (W×G)
 |.dat (.tuple xs),.dat (.int k),g=>if (decide (2<=k) && decide (k<=400))=true/\k.toNat*xs.length<=400 then some (.dat (.tuple (List.replicate k.toNat xs).flatten),g) else none
 |_,_,_=>none
section
variable{X:Cx}
theorem oMulT:OpR X (binaryOp .Mult) (rOp X.K ZLm):=by
 intro pq s σ H x y v u Q I rx ry h;obtain⟨ρ,a,b,g,z,g',hR,ra,rb,e,q⟩:=h;unfold ZLm at e
 split at e
 .rename_i g0 ds k
  split at e
  .rename_i hz
   cases e;simp only[Bool.and_eq_true,decide_eq_true_eq] at hz;obtain⟨⟨z1,z2⟩,z4⟩:=hz;cases ra with
   |dat ra=>cases ra with
    |@tup a1 xs ds f1 t1=>cases rb with
     |dat rb=>cases rb with
      |int k =>
       by_cases hx:xs=[]
       .subst hx
        have t2:=t1.rep k.toNat;have e0:ds=[]:=by cases t1;rfl
        subst e0;have e1:(List.replicate k.toNat ([]:List PyData)).flatten=[]:=by
         rw[List.flatten_eq_nil_iff];intro l hl;exact(List.mem_replicate.mp hl).2
        rw[e1] at q;exact ZRN pq s σ H _ _ v u Q I rx ry ⟨a1,k,rfl,rfl,f1.sq,⟨z1,z2⟩,q.at hR (.dat (.tup f1 t1))⟩
       .exact ZM9 pq s σ H _ _ v u Q I rx ry ⟨a1,k,xs,rfl,rfl,f1.sq,⟨z1,z2⟩,⟨hx,by rw[t1.length];exact z4⟩,λp hp=>q.newT hR (t1.rep _) hp⟩
  .cases e
 .cases e
end
end _L
namespace HT
open PySem PyProof.Rows
open Builtin
theorem tuple_mul0(l:Addr)(items:Array Value)(n:Nat)(dd:Option Addr)(sl:Array (Option Value))(k:Int)(t:Tok)(hc0 : ¬(decide (k < -(2 ^ 63)) || decide (k ≥ 2 ^ 63))=true)(hc1 : ¬(items.isEmpty || k == 1)=true)(hc2:(decide (k<=0) || items.isEmpty)=true) :
  Meets (Builtin.«tuple.__mul__» ⟨[.ref l,.int k t],[]⟩) (λ_ R s=>s.heap.get? l=some { cls:=.type "tuple",dict:=dd,data:=.seq items n,slots:=sl }/\R (.ok (.ret (Value.ref s⁻¹))) { s with heap:=s.heap.push { cls:=.type "tuple",data:=.seq #[] } }) :=
 .of_wp λprog w A R s h=>by
  obtain⟨hp,g,d,tk,os⟩:=s;obtain⟨hl,h⟩:=h;have f1:=AutoSeq1.idx_int;have f2:=AutoSeq1.sub_tuple_tuple
  wp_walk using wpAny_loadPart' hl
  rw[Xn hc0]
  wp_walk using wpAny_loadPart' hl
  exact⟨_,rfl,h⟩
end HT
namespace _L
open PySem PySem.Spec PyProof.Rows H1
section
variable{X:Cx}
theorem ZTB:OpR X (binaryOp .Mult) (λx y H Q=>∃(a:Addr) (xs:List V),x=.ref a/\y=.int 1/\SqT X.K H a xs/\Q (.ref a) H):=by
 intro pq s σ H x y v u Q I rx ry h;obtain⟨a,xs,rfl,rfl,ha,q⟩:=h;cases rx;obtain⟨t,rfl⟩:=ry;obtain⟨its,r,p1,_⟩:=I.tuple ha;obtain⟨⟨cls,dd,data,sl⟩,ho,hc,n,hd⟩:=id p1;simp only at hc hd;subst hc hd;refine wpAny_binaryOp_repeat_ref (T:="tuple") (U:="int") (by decide) ⟨_,ho,rfl⟩ (λs'=>typeIs_int s' 1 t) HT.noFill_tuple_mul F.fills_int_mul F.slot_int_rmul HT.repeat_tuple F.slot_int_index.lookup
  (call_meets F.slot_int_rmul (typeIs_int s 1 t) F.entry_int_rmul (F.args_int_rmul_2 _ _) (HT.rmul_tup 1 t a _ n dd sl)
   ⟨ho,rfl,⟨_,ho,rfl⟩,call_meets F.slot_tuple_mul ⟨_,ho,rfl⟩ F.entry_tuple_mul (F.args_tuple_mul_2 _ _) (HT.tuple_mulE a _ n dd sl 1 t ?_ ?_) ⟨ho,?_⟩⟩)
 .decide
 .rw[Bool.or_eq_true]
  exact .inr rfl
 exact⟨.ref a,_,I,rfl,q⟩
theorem ZSY:OpR X (binaryOp .Mult) (λx y H Q=>∃(a:Addr) (xs:List V),x=.ref a/\y=.int 0/\SqT X.K H a xs/\xs≠[]/\∀p,H p=none->Q (.ref p) (upd H p (.tup []))):=by
 intro pq s σ H x y v u Q I rx ry h;obtain⟨a,xs,rfl,rfl,ha,hne,q⟩:=h;cases rx;obtain⟨t,rfl⟩:=ry;obtain⟨its,r,p1,_⟩:=I.tuple ha;obtain⟨⟨cls,dd,data,sl⟩,ho,hc,n,hd⟩:=id p1;simp only at hc hd;subst hc hd;have hine:its.toArray.isEmpty=false:=by
  cases its with
  |nil=>exact absurd (r.nil_iff.mp rfl) hne
  |cons _ _=>rfl
 refine wpAny_binaryOp_repeat_ref (T:="tuple") (U:="int") (by decide) ⟨_,ho,rfl⟩ (λs'=>typeIs_int s' 0 t) HT.noFill_tuple_mul F.fills_int_mul F.slot_int_rmul HT.repeat_tuple F.slot_int_index.lookup
  (call_meets F.slot_int_rmul (typeIs_int s 0 t) F.entry_int_rmul (F.args_int_rmul_2 _ _) (HT.rmul_tup 0 t a its.toArray n dd sl)
   ⟨ho,rfl,⟨_,ho,rfl⟩,call_meets F.slot_tuple_mul ⟨_,ho,rfl⟩ F.entry_tuple_mul (F.args_tuple_mul_2 _ _) (HT.tuple_mul0 a its.toArray n dd sl 0 t ?_ ?_ ?_) ⟨ho,?_⟩⟩)
 .decide
 .rw[hine];decide
 .rfl
 exact⟨.ref s⁻¹,_,I.laid (t':=s.toks) (o:=.tup []) (λb ob q=>get?_push_of_some _ q) (le_refl _) ⟨zero_le _,_,.nil,IsTup.new _ _⟩,rfl,q _ (I.hok.fresh (le_refl _))⟩
def ZEw:W->W->G->Option (W×G)
 |.dat (.tuple (x::xs)),.dat (.int k),g=>if k=0 then some (.dat (.tuple []),g) else if k=1 then some (.dat (.tuple (x::xs)),g) else ZLm (.dat (.tuple (x::xs))) (.dat (.int k)) g
 |_,_,_=>none
theorem oMulU:OpR X (binaryOp .Mult) (rOp X.K ZEw):=by
 intro pq s σ H x y v u Q I rx ry h;obtain⟨ρ,a,b,g,z,g',hR,ra,rb,e,q⟩:=h;unfold ZEw at e
 split at e
 .rename_i g0 d ds k
  split at e
  .rename_i k0
   subst k0;cases e;cases ra with
   |dat ra=>cases ra with
    |@tup a1 xs ds f1 t1=>cases rb with
     |dat rb=>cases rb with
      |int k =>
       exact ZSY pq s σ H _ _ v u Q I rx ry ⟨a1,xs,rfl,rfl,f1.sq,(λz=>by subst z;cases t1),λp hp=>q.newT hR .nil hp⟩
  .split at e
   .rename_i k1
    subst k1;cases e;cases ra with
    |dat ra=>cases ra with
     |@tup a1 xs ds f1 t1=>cases rb with
      |dat rb=>cases rb with
       |int k=>exact ZTB pq s σ H _ _ v u Q I rx ry ⟨a1,xs,rfl,rfl,f1.sq,q.at hR (.dat (.tup f1 t1))⟩
   .exact oMulT pq s σ H x y v u Q I rx ry ⟨ρ,_,_,g,z,g',hR,ra,rb,e,q⟩
 .cases e
end
section
variable{g:G}{P:W->G->Prop}{x:PyData}{xs:Qd}
theorem ZR2(q:P (.dat (.tuple [])) g):EvP (ZEw (.dat (.tuple (x::xs))) (.dat (.int 0)) g) P:=ZBU q
theorem ZTL(q:P (.dat (.tuple (x::xs))) g):EvP (ZEw (.dat (.tuple (x::xs))) (.dat (.int 1)) g) P:=ZBU q
end
def LH(N0:Int)(z:Nat)(c:Int)(h:Hs):Prop:=N0<(h.2.1.getD z (0,0)).1\/((h.2.1.getD z (0,0)).1=N0/\(2<=(h.2.1.getD z (0,0)).2\/h.2.2.2.getD z 0=c))
variable{p:Nat×(Int×Int)}
section
variable{N0 c:Int}{z y n:Nat}{cl:List Str}{r:Ru}
theorem ZU5{h:Hs}(v:HQ r n y h)(hc:ZS cl "newer" = true)(hz:z≠y)(k:LH N0 z c h):LH N0 z c (ZY cl y h p):=by
 have mk : 0<=(h.2.1.getD z (0,0)).2:=(ZFT (P:=λw:Int×Int=>0<=w.2) (λw hw=>(v.bs w hw).2.1) (Int.le_refl _));unfold ZY ZCv ZCu
 split
 .split
  .unfold LH at k ⊢
   dsimp only;rw[ZK,Xn (λu=>hz u.1.symm)];exact k
  .exact k
 .split
  .rename_i g
   unfold ZCl at g;rw[Xp hc] at g;have g:=ZAD.mp g;unfold LH at k ⊢;dsimp only;rw[ZK]
   split
   .rename_i u
    obtain⟨u1,u2⟩:=u;rw[u1] at g;rcases k with k|⟨k1,k2⟩
    .left;omega
    .by_cases q:N0<p.2.1
     .exact .inl q
     .right
      refine⟨⋯,?_⟩
      by_cases m:p.2.2=1
      .rw[Xp m]
       rcases k2 with k2|k2
       .left;omega
       .exact .inr k2
      .left
       omega
   .rename_i u
    rcases k with k|⟨k1,k2⟩
    .exact .inl k
    .refine .inr ⟨k1,?_⟩
     rcases k2 with k2|k2
     .exact .inl k2
     .right
      split
      .exact k2
      .rw[ZK]
       split
       .rename_i v2
        exact absurd ⟨v2.1,by rw[v.bl,<-v.ml];exact v2.2⟩ u
       .exact k2
  .exact k
theorem ZMu(ht : 0<=r.t)(hw : 0<=r.w)(hc:ZS cl "newer" = true)(hz:z≠y):∀{ns:List (Nat×(Int×Int))} {h:Hs},HQ r n y h->(∀p∈ns,0<=p.2.1/\0<=p.2.2/\p.2.2<=3)->LH N0 z c h->LH N0 z c (ZW cl y h ns)
 |[],h,_,_,k=>k
 |p::ns,h,v,hp,k=>ZMu (ns:=ns) ht hw hc hz (ZQ1 ht hw v (hp p (Xs ..))) (λq hq=>hp q (Xo _ hq)) (ZU5 v hc hz k)
theorem ZMB{h h':Hs}(e1:h'.2.1=h.2.1)(e2:h'.2.2.2=h.2.2.2)(k:LH N0 z c h):LH N0 z c h':=by
 unfold LH at k ⊢;rw[e1,e2];exact k
end
variable{N0:Int}{z:Nat}
theorem ZPz{a b c:Int}{h:Hs}(n:a≠b)(k:LH N0 z a h)(l:LH N0 z b h):LH N0 z c h:=by
 unfold LH at k l ⊢;rcases k with k|⟨k1,k2⟩
 .exact .inl k
 .refine .inr ⟨k1,.inl ?_⟩
  rcases l with l|⟨l1,l2⟩
  .omega
  .rcases k2 with k2|k2
   .exact k2
   .rcases l2 with l2|l2
    .exact l2
    .omega
variable{α:Type}
theorem ifc{a b:Prop}[Decidable a][Decidable b](h:a ↔ b){x y:α}:(if a then x else y)=if b then x else y:=by
 by_cases c:b
 .rw[Xp c,Xp (h.mpr c)]
 .rw[Xn c,Xn λd=>c (h.mp d)]
structure LI (e:En) (n h z:Nat) (N0 c:Int) (hs:List Hs):Prop where
 q:AQ e.r n hs
 l:LH N0 z c (hs.getD h H0)
variable{a b x:Nat}{R:Rw}{ans:Bool}{g:Hs}{hs:List Hs}
section
variable{e:En}{n h z:Nat}{N0 c:Int}
theorem ZMT{y:Nat}(ht : 0<=e.r.t)(hw : 0<=e.r.w)(hc:ZS e.r.cl "newer" = true)(hz:z≠h)(hh:h<n)(hx:x<n)(k:LI e n h z N0 c R.hs):LI e n h z N0 c (ZH e x y R).2.hs:=by
 refine⟨ZLK ht hw k.q hx,?_⟩;have ms:LH N0 z c ((Zn e x y R.hs).getD h H0):=by
  unfold Zn;rw[ZK]
  split
  .rename_i u
   rw[u.1];exact ZMB rfl rfl k.l
  .exact k.l
 unfold ZH
 split
 .exact ms
 .split
  .exact ms
  .show LH N0 z c ((Zp e x y R.hs).getD h H0)
   unfold Zp;rw[ZK]
   split
   .rename_i u
    rw[u.1];refine ZMu (r:=e.r) (n:=n) ht hw hc hz (k.q.all h hh) (λp hp=>?_) k.l;rw[ZBR hp];exact ZFT (P:=λw:Int×Int=>0<=w.1/\0<=w.2/\w.2<=3) (k.q.all x hx).bs (by decide)
   .exact ms
theorem ZRY(hb:b≠z)(k:LH N0 z c g):LH N0 z c (ZA2 e b ans g):=by
 have e1:∀w,(g.2.1.set b w).getD z (0,0)=g.2.1.getD z (0,0):=λw=>by rw[ZK,Xn (λu=>hb u.1)]
 have e2:∀w,(g.2.2.2.set b w).getD z 0=g.2.2.2.getD z 0:=λw=>by rw[ZK,Xn (λu=>hb u.1)]
 unfold ZA2
 repeat' split
 all_goals (unfold LH at k ⊢;try dsimp only;try simp only[e1,e2];try exact k)
 all_goals exact k
theorem ZT9(hab : ¬(a=h/\b=z))(k:LH N0 z c (hs.getD h H0)):LH N0 z c ((ZAG e a b ans hs).getD h H0):=by
 unfold ZAG;rw[ZK]
 split
 .rename_i u
  rw[u.1];exact ZRY (λq=>hab ⟨u.1,q⟩) k
 .exact k
theorem ZPQ(ht : 0<=e.r.t)(hw : 0<=e.r.w)(hc:ZS e.r.cl "newer" = true)(hz:z≠h)(hh:h<n):∀{l:List (Nat×Nat)} {R:Rw},LI e n h z N0 c R.hs->(∀p∈l,p.1<n)->LI e n h z N0 c (Zu e l R).2.hs
 |[],R,k,_=>k
 |p::l,R,k,hp=>by
  have k1:=ZMT (y:=p.2) ht hw hc hz hh (hp p (Xs ..)) k;rw[Zu]
  split
  .exact ZPQ ht hw hc hz hh k1 λq hq=>hp q (Xo _ hq)
  .exact k1
theorem ZJQ(ht : 0<=e.r.t)(hw : 0<=e.r.w)(hc:ZS e.r.cl "newer" = true)(hz:z≠h)(hh:h<n):∀{ws:List (List (Nat×Nat))} {R:Rw},LI e n h z N0 c R.hs->(∀l∈ws,∀p∈l,p.1<n)->LI e n h z N0 c (ZX e ws R).2.hs
 |[],R,k,_=>k
 |l::ws,R,k,hp=>by
  have k1:=ZPQ ht hw hc hz hh k (hp l (Xs ..));rw[ZX]
  split
  .exact k1
  .exact ZJQ ht hw hc hz hh k1 λq hq=>hp q (Xo _ hq)
theorem ZIO(ht : 0<=e.r.t)(hw : 0<=e.r.w)(hc:ZS e.r.cl "newer" = true)(hz:z≠h)(hh:h<n)(ha:a<n)(hb:b<n)(hab:a≠b)(hu:(R.hs.getD a H0).1=1)(hn : ¬(a=h/\b=z))(k:LI e n h z N0 c R.hs):LI e n h z N0 c (Zf e a b R).hs:=by
 refine⟨ZI2 ht hw k.q ha hb hab hu,?_⟩;unfold Zf
 split
 .have hws:=Z4 (e:=e) k.q.L ha hb hab
  exact ZT9 hn (ZJQ ht hw hc hz hh k λl hl p hp=>(hws l hl p hp).1.1).l
 .exact k.l
theorem ZKe:∀{l:List (Nat×Nat)} {R:Rw},(∀p∈l,p.1≠p.2)->(∃p∈l,p.2=z)->(R.hs.getD z H0).1=0->(Zu e l R).1=false
 |[],R,_,hp,_=>by obtain⟨p,h,_⟩:=hp;cases h
 |p::l,R,hne,hp,hd=>by
  rw[Zu]
  split
  .rename_i hs
   have hpz:p.2≠z:=λq=>by
    unfold ZH at hs;rw[q,hd] at hs
    split at hs
    .cases hs
    .rw[Xp rfl] at hs;cases hs
   refine ZKe (λq hq=>hne q (Xo _ hq)) ?_ ((ZN (ZAF (e:=e) (hne p (Xs ..))).up z).trans hd);obtain⟨q,hq,e1⟩:=hp;rcases List.mem_cons.mp hq with rfl|hq
   .exact absurd e1 hpz
   .exact⟨q,hq,e1⟩
  .rfl
theorem ZDN:∀{ws:List (List (Nat×Nat))} {R:Rw},(∀l∈ws,∀p∈l,p.1≠p.2)->(∀l∈ws,∃p∈l,p.2=z)->(R.hs.getD z H0).1=0->(ZX e ws R).1=false
 |[],R,_,_,_=>rfl
 |l::ws,R,hne,hp,hd=>by
  have h0:=hne l (Xs ..);rw[ZX,ZKe h0 (hp l (Xs ..)) hd];simp only[Bool.false_eq_true,↓reduceIte];exact ZDN (λq hq=>hne q (Xo _ hq)) (λq hq=>hp q (Xo _ hq)) ((ZN (ZDF (e:=e) h0).up z).trans hd)
noncomputable def nxC(e:En)(c:Int):Int:=if c=0 then e.r.w else if c=1 then -1 else c-1
theorem ZUY(hwt:ZS e.r.cl "wait" = true)(hz:z<n)(v:HQ e.r n a g)(k:LH N0 z c g):LH N0 z (nxC e c) (ZA2 e z false g):=by
 have e1:∀w,(g.2.1.set z w).getD z (0,0)=w:=λw=>by rw[ZK,Xp ⟨rfl,by rw[v.bl];exact hz⟩]
 have e2:∀w,(g.2.2.2.set z w).getD z 0=w:=λw=>by rw[ZK,Xp ⟨rfl,by rw[v.ml];exact hz⟩]
 have ab:abF g.2.1 z=decide ((g.2.1.getD z (0,0)).2<2):=rfl;unfold ZA2 nxC;rw[hwt,ab];unfold LH at k ⊢;rw[Xn Xf]
 split
 .rename_i g1
  dsimp only;rw[e1];rcases k with k|⟨k1,k2⟩
  .exact .inl k
  .exact .inr ⟨k1,.inl (Int.le_refl _)⟩
 .rename_i g1
  split
  .rename_i g2
   rw[Bool.and_eq_true,decide_eq_true_eq,decide_eq_true_eq] at g2;have fin:∀(bk:List (Int×Int)) (tl:List Int),(bk.getD z (0,0)).1=(g.2.1.getD z (0,0)).1->(N0<(bk.getD z (0,0)).1\/(bk.getD z (0,0)).1=N0/\(2<=(bk.getD z (0,0)).2\/(g.2.2.2.set z e.r.w).getD z 0=if c=0 then e.r.w else if c=1 then -1 else c-1)):=λbk tl eb=>by
    rw[eb,e2];rcases k with k|⟨k1,k2⟩
    .exact .inl k
    .refine .inr ⟨k1,.inr ?_⟩
     rcases k2 with k2|k2
     .omega
     .rw[Xp ⋯]
   split
   .exact fin _ g.2.2.1 (by rw[e1])
   .exact fin _ g.2.2.1 rfl
  .rename_i g2
   split
   .rename_i g3
    dsimp only;rw[e2];rw[decide_eq_true_eq] at g3;rcases k with k|⟨k1,k2⟩
    .exact .inl k
    .refine .inr ⟨k1,.inr ?_⟩
     rcases k2 with k2|k2
     .omega
     .have:c≠0:=λq=>g2 (by rw[Bool.and_eq_true,decide_eq_true_eq,decide_eq_true_eq];exact⟨g3,⋯⟩)
      have t1:c≠1:=λq=>g1 (by rw[Bool.and_eq_true,decide_eq_true_eq];exact⟨g3,by rw[Xe (by omega:g.2.2.2.getD z 0=1)];rfl⟩)
      rw[Xn this,Xn t1];omega
   .rename_i g3
    rw[decide_eq_true_eq] at g3;rcases k with k|⟨k1,k2⟩
    .exact .inl k
    .exact .inr ⟨k1,.inl ⋯⟩
theorem ZGf{hs:List Hs}{a b:Nat}:∀l∈Zc e hs a b,∃p∈l,p.2=b:=λl hl=>by
 unfold Zc at hl;rcases List.mem_cons.mp hl with rfl|hl
 .exact⟨(a,b),Xs ..,rfl⟩
 .split at hl
  .obtain⟨g,_,rfl⟩:=List.mem_map.mp hl
   exact⟨(g,b),Xo _ (Xs ..),rfl⟩
  .cases hl
def asC(e:En)(h z:Nat)(c:Int):Int:=if z=tgF e h\/0<c then nxC e c else c
theorem ZU4(ht : 0<=e.r.t)(hw : 0<=e.r.w)(hc:ZS e.r.cl "newer" = true)(hag:ZS e.r.cl "again" = true)(hwt:ZS e.r.cl "wait" = true)(hz:z≠h)(hh:h<n)(hzn:z<n)(hc0 : 0<=c)(hu:(R.hs.getD h H0).1=1)(hd:(R.hs.getD z H0).1=0)(k:LI e n h z N0 c R.hs):LI e n h z N0 (asC e h z c) (Zf e h z R).hs:=by
 refine⟨ZI2 ht hw k.q hh hzn (Ne.symm hz) hu,?_⟩;have hws:=Z4 (e:=e) k.q.L hh hzn (Ne.symm hz);have dd:=ZDN (e:=e) (z:=z) (ws:=Zc e R.hs h z) (R:=R) (λl hl p hp=>(hws l hl p hp).2) ZGf hd;have asked:∀c2,LI e n h z N0 c2 R.hs->LH N0 z (nxC e c2) ((ZAG e h z (ZX e (Zc e R.hs h z) R).1 (ZX e (Zc e R.hs h z) R).2.hs).getD h H0):=λc2 k=>by
  have k1:=ZJQ (ws:=Zc e R.hs h z) ht hw hc hz hh k λl hl p hp=>(hws l hl p hp).1.1
  rw[dd];unfold ZAG;rw[ZK,Xp ⟨rfl,by rw[k1.q.len];exact hh⟩];exact ZUY hwt hzn (k1.q.all h hh) k1.l
 unfold Zf
 by_cases g:ZDZ e h z R.hs=true
 .rw[Xp g]
  unfold asC
  by_cases q:z=tgF e h\/0<c
  .rw[Xp q]
   exact asked c k
  .rw[Xn q]
   have q1 : ¬z=tgF e h:=λw=>q (.inl w)
   have q2 : ¬0<c:=λw=>q (.inr w)
   unfold ZDZ at g;rw[Xn q1,decide_eq_true_eq] at g;have st:∀x,LI e n h z N0 x R.hs:=λx=>⟨k.q,by
    have l:=k.l;unfold LH at l ⊢;rcases l with l|⟨l1,l2⟩
    .exact .inl l
    .refine .inr ⟨l1,?_⟩
     rcases l2 with l2|l2
     .exact .inl l2
     .omega⟩
   exact ZPz (show nxC e 5≠nxC e 7 by unfold nxC;rw[Xn (by decide),Xn (by decide),Xn (by decide),Xn (by decide)];decide) (asked 5 (st 5)) (asked 7 (st 7))
 .rw[Xn g]
  unfold asC
  by_cases q:z=tgF e h\/0<c
  .rw[Xp q]
   unfold ZDZ at g;have l:=k.l;unfold LH at l ⊢
   by_cases q1:z=tgF e h
   .rw[Xp q1,hag] at g
    exact absurd rfl g
   .rw[Xn q1,decide_eq_true_eq] at g
    have q2 : 0<c:=q.resolve_left q1;rcases l with l|⟨l1,l2⟩
    .exact .inl l
    .refine .inr ⟨l1,?_⟩
     rcases l2 with l2|l2
     .exact .inl l2
     .omega
  .rw[Xn q]
   exact k.l
theorem ZQG(ht : 0<=e.r.t)(hw : 0<=e.r.w)(hc:ZS e.r.cl "newer" = true)(hag:ZS e.r.cl "again" = true)(hwt:ZS e.r.cl "wait" = true)(hz:z≠h)(hh:h<n)(hzn:z<n)(hc0 : 0<=c):∀{L:List Nat} {R:Rw},L.Nodup->(∀b∈L,b<n/\h≠b)->(R.hs.getD h H0).1=1->(R.hs.getD z H0).1=0->LI e n h z N0 c R.hs->LI e n h z N0 (if z∈L then asC e h z c else c) (L.foldl (λR b=>Zf e h b R) R).hs
 |[],R,_,_,_,_,k=>by rw[Xn (by intro q;cases q)];exact k
 |b::L,R,nd,hb,hu,hd,k=>by
  obtain⟨h1,h2⟩:=hb b (Xs ..);obtain⟨nb,nd'⟩:=List.nodup_cons.mp nd;have g:=Z8 (e:=e) k.q.L hh h1 h2;have hu':=(ZN g.up h).trans hu;have hd':=(ZN g.up z).trans hd;rw[foldl_cons]
  by_cases q:b=z
  .subst q
   rw[Xp (Xs ..)];have k1:=ZU4 ht hw hc hag hwt hz hh hzn hc0 hu hd k;have keep:∀{L:List Nat} {R:Rw},b∉L->(∀x∈L,x<n/\h≠x)->(R.hs.getD h H0).1=1->LI e n h b N0 (asC e h b c) R.hs->LI e n h b N0 (asC e h b c) (L.foldl (λR b=>Zf e h b R) R).hs:=by
    intro L
    induction L with
    |nil=>intro R _ _ _ k;exact k
    |cons x L ih =>
     intro R nb hx hu k;obtain⟨x1,x2⟩:=hx x (Xs ..);rw[foldl_cons];exact ih (λq=>nb (Xo _ q)) (λy hy=>hx y (Xo _ hy)) ((ZN (Z8 (e:=e) k.q.L hh x1 x2).up h).trans hu) (ZIO ht hw hc hz hh hh x1 x2 hu (λq=>nb (by rw[<-q.2];exact Xs ..)) k)
   exact keep nb (λx hx=>hb x (Xo _ hx)) hu' k1
  .have k1:=ZIO ht hw hc hz hh hh h1 h2 hu (λw=>q w.2) k
   have:=ZQG ht hw hc hag hwt hz hh hzn hc0 (L:=L) nd' (λx hx=>hb x (Xo _ hx)) hu' hd' k1
   by_cases m:z∈L
   .rw[Xp m] at this
    rw[Xp (Xo _ m)];exact this
   .rw[Xn m] at this
    rw[Xn (λw=>by rcases List.mem_cons.mp w with w|w;exact q w.symm;exact m w)];exact this
theorem ZLS{a:Nat}(ht : 0<=e.r.t)(hw : 0<=e.r.w)(hc:ZS e.r.cl "newer" = true)(hz:z≠h)(hh:h<n)(ha:a<n)(hah:a≠h):∀{L:List Nat} {R:Rw},(∀b∈L,b<n/\a≠b)->(R.hs.getD a H0).1=1->LI e n h z N0 c R.hs->LI e n h z N0 c (L.foldl (λR b=>Zf e a b R) R).hs
 |[],R,_,_,k=>k
 |b::L,R,hb,hu,k=>by
  obtain⟨h1,h2⟩:=hb b (Xs ..);rw[foldl_cons];exact ZLS ht hw hc hz hh ha hah (λx hx=>hb x (Xo _ hx)) ((ZN (Z8 (e:=e) k.q.L ha h1 h2).up a).trans hu) (ZIO ht hw hc hz hh ha h1 h2 hu (λw=>hah w.1) k)
end
section
variable{e:En}{h z:Nat}{N0 c:Int}
theorem ZRG:(ZBX e a).Nodup:=by
 unfold ZBX;rw[nodup_cons];refine⟨λq=>?_,List.nodup_range.filter _⟩;have:=(List.mem_filter.mp q).2;simp at this
theorem ZJ8(hb:b<e.ts.length)(hab:b≠a):b∈ZBX e a:=by
 unfold ZBX
 by_cases q:b=tgF e a
 .rw[q];exact Xs ..
 .refine Xo _ (List.mem_filter.mpr ⟨List.mem_range.mpr hb,?_⟩)
  simp[q,hab]
theorem ZM2(ht : 0<=e.r.t)(hw : 0<=e.r.w)(ho : 0<=e.r.o/\e.r.o<=3)(n2 : 2<=e.ts.length)(hc:ZS e.r.cl "newer" = true)(hag:ZS e.r.cl "again" = true)(hwt:ZS e.r.cl "wait" = true)(hz:z≠h)(hh:h<e.ts.length)(hzn:z<e.ts.length):∀{L:List Nat} {R:Rw} {c:Int},0<=c->L.Nodup->(∀a∈L,a<e.ts.length)->(R.hs.getD h H0).1=1->(R.hs.getD z H0).1=0->LI e e.ts.length h z N0 c R.hs ->
  LI e e.ts.length h z N0 (if h∈L/\ZAH (e.ts.getD h (0,0)) e.tn=true then asC e h z c else c) (L.foldl (λR a=>ZQ e a R) R).hs
 |[],R,c,_,_,_,_,_,k=>by rw[Xn (by rintro ⟨q,_⟩;cases q)];exact k
 |a::L,R,c,hc0,nd,hl,hu,hd,k=>by
  have ha:=hl a (Xs ..);obtain⟨na,nd'⟩:=List.nodup_cons.mp nd;have g:=ZCN (e:=e) ho n2 k.q.L ha;have hu':=(ZN g.up h).trans hu;have hd':=(ZN g.up z).trans hd;rw[foldl_cons]
  by_cases q:a=h
  .subst q
   have k1:LI e e.ts.length a z N0 (if ZAH (e.ts.getD a (0,0)) e.tn=true then asC e a z c else c) (ZQ e a R).hs:=by
    unfold ZQ ZCP;rw[hu]
    by_cases t:ZAH (e.ts.getD a (0,0)) e.tn=true
    .rw[t,Xp rfl,Xp (by decide)]
     have:=ZQG (e:=e) ht hw hc hag hwt hz hh hzn hc0 (L:=ZBX e a) (R:=R) ZRG (λb hb=>Z0 n2 ha hb) hu hd k;rw[Xp (ZJ8 hzn hz)] at this
     exact this
    .rw[Bool.eq_false_iff.mpr t,Xn Xf,Xn (by decide)]
     exact k
   have keep:∀{L:List Nat} {R:Rw} {c:Int},a∉L->(∀x∈L,x<e.ts.length)->LI e e.ts.length a z N0 c R.hs->LI e e.ts.length a z N0 c (L.foldl (λR a=>ZQ e a R) R).hs:=by
    intro L
    induction L with
    |nil=>intro R c _ _ k;exact k
    |cons x L ih =>
     intro R c nx hx k;rw[foldl_cons];refine ih (λq=>nx (Xo _ q)) (λy hy=>hx y (Xo _ hy)) ?_;unfold ZQ
     split
     .rename_i h3
      unfold ZCP at h3;rw[Bool.and_eq_true] at h3;have hx0:=hx x (Xs ..);exact ZLS (e:=e) ht hw hc hz hh hx0 (λq=>nx (by rw[q];exact Xs ..)) (λb hb=>Z0 n2 hx0 hb) (Xd h3.1) k
     .exact k
   have:=keep na (λx hx=>hl x (Xo _ hx)) k1
   by_cases t:ZAH (e.ts.getD a (0,0)) e.tn=true
   .rw[Xp t] at this
    rw[Xp ⟨Xs ..,t⟩];exact this
   .rw[Xn t] at this
    rw[Xn (λw=>t w.2)];exact this
  .have k1:LI e e.ts.length h z N0 c (ZQ e a R).hs:=by
    unfold ZQ
    split
    .rename_i h3
     unfold ZCP at h3;rw[Bool.and_eq_true] at h3;exact ZLS (e:=e) ht hw hc hz hh ha q (λb hb=>Z0 n2 ha hb) (Xd h3.1) k
    .exact k
   have:=ZM2 ht hw ho n2 hc hag hwt hz hh hzn (L:=L) hc0 nd' (λx hx=>hl x (Xo _ hx)) hu' hd' k1;have m:(h∈a::L/\ZAH (e.ts.getD h (0,0)) e.tn=true) ↔ (h∈L/\ZAH (e.ts.getD h (0,0)) e.tn=true):=⟨λw=>⟨(List.mem_cons.mp w.1).resolve_left (λq'=>q q'.symm),w.2⟩,λw=>⟨Xo _ w.1,w.2⟩⟩;rw[ifc m];exact this
end
variable{h:Nat}
theorem ZRw{c:Int}(k:LH N0 z c (hs.getD h H0)):LH N0 z c ((Z5 x hs).getD h H0):=by
 unfold Z5;rw[ZK]
 split
 .rename_i u
  rw[u.1];exact ZMB rfl rfl k
 .exact k
theorem ZKJ{N0 c:Int}{z h:Nat}:∀{L:List Int} {hs:List Hs},LH N0 z c (hs.getD h H0)->LH N0 z c ((L.foldl (λhs x=>Z5 x.toNat hs) hs).getD h H0)
 |[],hs,k=>k
 |x::L,hs,k=>by
  rw[foldl_cons];exact ZKJ (L:=L) (ZRw k)
variable{r:Ru}{ts:Qi}{tn:Int}{lo fa le co:List Int}
theorem ZVu{c:Int}(ht : 0<=r.t)(hw : 0<=r.w)(ho : 0<=r.o/\r.o<=3)(n2 : 2<=ts.length)(hc:ZS r.cl "newer" = true)(hag:ZS r.cl "again" = true)(hwt:ZS r.cl "wait" = true)(hz:z≠h)(hh:h<ts.length)(hzn:z<ts.length)(hc0 : 0<=c)
  (q:AQ r ts.length hs)(hle:∀k∈le,0<=k/\k<ts.length)(hco:∀k∈co,0<=k/\k<ts.length)(hu:(hs.getD h H0).1=1)(h1 : ¬(h:Int)∈fa)(h2 : ¬(h:Int)∈le)(h3 : ¬(h:Int)∈co)(zc : ¬(z:Int)∈co)(zd:(hs.getD z H0).1=0\/(z:Int)∈fa\/(z:Int)∈le)(k:LH N0 z c (hs.getD h H0)) :
  LH N0 z (if ZAH (ts.getD h (0,0)) tn=true then asC ⟨r,ts,tn,lo⟩ h z c else c) ((ZAc r ts tn hs lo fa le co).hs.getD h H0):=by
 have hx:∀x∈le++co,x.toNat<ts.length:=λx hx=>by
  rcases List.mem_append.mp hx with h|h
  .have:=hle x h;omega
  .have:=hco x h;omega
 have w0:=ZDO (fa:=fa) (le:=le) (co:=co) q.L;have q0:=ZPD (fa:=fa) (le:=le) (co:=co) ht hw q;have k0:LH N0 z c ((ZU fa le co hs).getD h H0):=by
  have e:(ZU fa le co hs).getD h H0=hs.getD h H0:=by
   unfold ZU;rw[Xq,getElem?_map,getElem?_range (by rw[q.len];exact hh)];show doH fa le co h (hs.getD h H0)=_;unfold doH;rw[Xn (by simpa using h1),Xn (by simpa using h2),Xn (by simpa using h3)]
  rw[e];exact k
 -- the letters of who leaves and comes
 have sd:∀{x:Nat} (hx:x<ts.length) {L:List Nat} {R:Rw},LI ⟨r,ts,tn,lo⟩ ts.length h z N0 c R.hs->LI ⟨r,ts,tn,lo⟩ ts.length h z N0 c (L.foldl (λR y=>if y=x then R else (ZH ⟨r,ts,tn,lo⟩ x y R).2) R).hs:=by
  intro x hx L
  induction L with
  |nil=>intro R k;exact k
  |cons y L ih =>
   intro R k;rw[foldl_cons];refine ih ?_
   split
   .exact k
   .exact ZMT (e:=⟨r,ts,tn,lo⟩) ht hw hc hz hh hx k
 have wr:∀{L:List Int} {R:Rw},(∀x∈L,x.toNat<ts.length)->LI ⟨r,ts,tn,lo⟩ ts.length h z N0 c R.hs->LI ⟨r,ts,tn,lo⟩ ts.length h z N0 c (L.foldl (λ(R:Rw) (x:Int)=>Z2 ⟨r,ts,tn,lo⟩ x.toNat R) R).hs:=by
  intro L
  induction L with
  |nil=>intro R _ k;exact k
  |cons x L ih =>
   intro R hx k;rw[foldl_cons];exact ih (λy hy=>hx y (Xo _ hy)) (sd (hx x (Xs ..)) k)
 have k1:=wr (L:=le++co) (R:=⟨ZU fa le co hs,[]⟩) hx ⟨q0,k0⟩;have g1:=ZAa (e:=⟨r,ts,tn,lo⟩) (f:=λ(R:Rw) (x:Int)=>Z2 ⟨r,ts,tn,lo⟩ x.toNat R) (n:=ts.length) (L:=le++co) (R:=⟨ZU fa le co hs,[]⟩) w0 λx h R w=>⟨(ZCB (e:=⟨r,ts,tn,lo⟩) w (hx x h)).1,ZHY (e:=⟨r,ts,tn,lo⟩) w (hx x h)⟩
 have q2:AQ r ts.length (le.foldl (λhs x=>Z5 x.toNat hs) ((le++co).foldl (λ(R:Rw) (x:Int)=>Z2 ⟨r,ts,tn,lo⟩ x.toNat R) ⟨ZU fa le co hs,[]⟩).hs):=by
  refine ZIh k1.q λx h b z=>?_
  have z : 0<tmr (ZU fa le co hs) x.toNat b:=ZEx (e:=⟨r,ts,tn,lo⟩) (R:=⟨ZU fa le co hs,[]⟩) z;have hxl:=hle x h;unfold tmr ZU at z;rw[Xq (l:=List.map _ _),getElem?_map,getElem?_range (by rw[q.len];omega)] at z;have z : 0<(doH fa le co x.toNat (hs.getD x.toNat H0)).2.2.2.getD b 0:=z;unfold doH at z;rw[toNat_of_nonneg hxl.1] at z
  split at z
  .dsimp only at z
   rw[ZBf] at z;cases z
  .rw[Xp (by simpa using h)] at z
   dsimp only at z;rw[ZBf] at z;cases z
 have up:∀a,a<ts.length->((le.foldl (λhs x=>Z5 x.toNat hs) ((le++co).foldl (λ(R:Rw) (x:Int)=>Z2 ⟨r,ts,tn,lo⟩ x.toNat R) ⟨ZU fa le co hs,[]⟩).hs).getD a H0).1=if (a:Int)∈le then 0 else if (a:Int)∈fa then 0 else if (a:Int)∈co then 1 else (hs.getD a H0).1:=λa ha=>by
  rw[ZJj (by rw[k1.q.len];exact ha) λk hk=>(hle k hk).1]
  split
  .rfl
  .rename_i hl
   rw[ZN g1.up a];show((ZU fa le co hs).getD a H0).1=_;rw[ZNJ (by rw[q.len];exact ha)]
   split
   .rfl
   .rfl
 have:=ZM2 (e:=⟨r,ts,tn,lo⟩) (N0:=N0) ht hw ho n2 hc hag hwt hz hh hzn (L:=List.range ts.length) (R:=⟨le.foldl (λhs x=>Z5 x.toNat hs) ((le++co).foldl (λ(R:Rw) (x:Int)=>Z2 ⟨r,ts,tn,lo⟩ x.toNat R) ⟨ZU fa le co hs,[]⟩).hs,((le++co).foldl (λ(R:Rw) (x:Int)=>Z2 ⟨r,ts,tn,lo⟩ x.toNat R) ⟨ZU fa le co hs,[]⟩).le⟩) hc0 List.nodup_range (λa ha=>List.mem_range.mp ha)
  (by rw[up h hh,Xn h2,Xn h1,Xn h3];exact hu)
  (by
   rw[up z hzn]
   by_cases n1:(z:Int)∈le
   .rw[Xp n1]
   .rw[Xn n1]
    by_cases n3:(z:Int)∈fa
    .rw[Xp n3]
    .rw[Xn n3,Xn zc]
     exact zd.resolve_right λw=>w.elim n3 n1)
  ⟨q2,ZKJ k1.l⟩
 have m:(h∈List.range ts.length/\ZAH (ts.getD h (0,0)) tn=true) ↔ ZAH (ts.getD h (0,0)) tn=true:=⟨λw=>w.2,λw=>⟨List.mem_range.mpr hh,w⟩⟩;rw[ifc m] at this
 exact this.l
noncomputable def tkJ(c:Int×Int)(t:Int):Int:=(t-c.2+(c.1-1)) / c.1
noncomputable def rsQ(n h z:Nat):Int:=if h<z then (z:Int)-h-1 else (z:Int)+n-h-1
theorem dvq{p q x:Int}(h1:p*q<=x)(h2:x<p*q+p):x / p=q:=by
 have hp : 0<p:=⋯
 have:=Int.add_mul_ediv_left (x-p*q) q (show p≠0 by omega);have z:(x-p*q) / p=0:=Int.ediv_eq_zero_of_lt ⋯ ⋯;rw[show x-p*q+p*q=x by omega,z,Int.zero_add] at this
 exact this
theorem dvs{p x:Int}(hp : 0<p):∃q r,x=p*q+r/\0<=r/\r<p/\x % p=r/\x / p=q:=⟨x / p,x % p,(Int.mul_ediv_add_emod x p).symm,emod_nonneg _ ⋯,emod_lt_of_pos _ hp,rfl,rfl⟩
variable{t:Int}
theorem ZPV{c:Int×Int}(hc:ZAs c)(h0 : 0<=t):tkJ c (t+1)=if ZAH c t=true then tkJ c t+1 else tkJ c t:=by
 obtain⟨p,s⟩:=c;obtain⟨h1,h2,h3,h4⟩:=hc;dsimp only at h1 h2 h3 h4;unfold tkJ ZAH;dsimp only;obtain⟨q,r,e,r0,r1,e2,_⟩:=dvs (p:=p) (x:=t-s) ⋯;rw[e2];have e3:p*(q+1)=p*q+p:=by rw[mul_add,mul_one]
 have e4:t+1-s=p*q+r+1:=⋯
 rw[e,e4]
 split
 .rename_i g
  rw[Bool.and_eq_true,decide_eq_true_eq,decide_eq_true_eq] at g;rw[dvq (q:=q+1) ⋯ ⋯,dvq (q:=q) ⋯ ⋯]
 .rename_i g
  rw[Bool.and_eq_true,decide_eq_true_eq,decide_eq_true_eq] at g
  by_cases z:t<s
  .have e5:p*0=0:=Int.mul_zero p
   rw[dvq (q:=0) ⋯ ⋯,dvq (q:=0) ⋯ ⋯]
  .have:r≠0:=λz2=>g ⟨⋯,z2⟩
   rw[dvq (q:=q+1) ⋯ ⋯,dvq (q:=q+1) ⋯ ⋯]
theorem ZMO{c:Int×Int}(hc:ZAs c)(h:ZAH c t=true):ZAE c t-1=tkJ c t:=by
 obtain⟨p,s⟩:=c;obtain⟨h1,h2,h3,h4⟩:=hc;dsimp only at h1 h2 h3 h4;unfold ZAH at h;rw[Bool.and_eq_true,decide_eq_true_eq,decide_eq_true_eq] at h;unfold tkJ ZAE;dsimp only at h ⊢;rw[Xn ⋯];obtain⟨q,r,e,r0,r1,e2,e3⟩:=dvs (p:=p) (x:=t-s) ⋯;rw[e3,e,dvq (q:=q) ⋯ ⋯];omega
theorem ZSf{c:Int×Int}{s M:Int}(hc:ZAs c)(h:c.1*M<=t-s):tkJ c s+M<=tkJ c t:=by
 unfold tkJ;have h1:=hc.1;rw[<-Int.add_mul_ediv_left _ M (show c.1≠0 by omega)];exact Int.ediv_le_ediv ⋯ ⋯
theorem ZUN{c:Int×Int}(hc:ZAs c)(h : 0<=t) : 0<=tkJ c t:=by
 obtain⟨h1,h2,h3,h4⟩:=hc;exact Int.ediv_nonneg ⋯ ⋯
theorem ZIp{n:Nat}(hh:h<n)(hz:z<n)(hne:z≠h) : 0<=rsQ n h z/\rsQ n h z<(n:Int)-1:=by unfold rsQ;split <;> omega
theorem ZP7{n:Nat}{a:Int}(n2 : 2<=n)(n8:n<=8)(hh:h<n)(hz:z<n)(hne:z≠h):∃j,a<=j/\j<a+((n:Int)-1)/\j % ((n:Int)-1)=rsQ n h z:=by
 have hq:=ZIp hh hz hne;have p : 0<(n:Int)-1:=⋯
 refine⟨a+(rsQ n h z-a) % ((n:Int)-1),?_,?_,?_⟩
 .have:=emod_nonneg (rsQ n h z-a) (show(n:Int)-1≠0 by omega)
  omega
 .have:=emod_lt_of_pos (rsQ n h z-a) p
  omega
 .rw[add_emod_emod,show a+(rsQ n h z-a)=rsQ n h z by omega,emod_eq_of_lt hq.1 hq.2]
variable{e:En}
theorem ZIZ(n2 : 2<=e.ts.length)(n8:e.ts.length<=8)(hh:h<e.ts.length)(hz:z<e.ts.length)(hne:z≠h)(hc:ZAs (e.ts.getD h (0,0)))(ht:ZAH (e.ts.getD h (0,0)) e.tn=true):z=tgF e h ↔ tkJ (e.ts.getD h (0,0)) e.tn % ((e.ts.length:Int)-1)=rsQ e.ts.length h z:=by
 unfold tgF;rw[ZMO hc ht];have p0:(0:Int)<(e.ts.length:Int)-1:=⋯
 have x0:=emod_nonneg (tkJ (e.ts.getD h (0,0)) e.tn) (Int.ne_of_gt p0);have x1:=emod_lt_of_pos (tkJ (e.ts.getD h (0,0)) e.tn) p0;clear ht hc
 generalize tkJ (e.ts.getD h (0,0)) e.tn % ((e.ts.length:Int)-1)=x at *
 generalize e.ts.length=n at *
 unfold rsQ
 by_cases c:(h:Int)+1+x<n
 .rw[emod_eq_of_lt ⋯ c]
  split <;> omega
 .rw[<-Int.sub_emod_right,emod_eq_of_lt ⋯ ⋯]
  split <;> omega
def ZEl(r:Ru)(ts:List (Int×Int))(h z:Nat)(s0 t:Int)(g:Hs):Prop :=
 2<=(g.2.1.getD z (0,0)).2\/(g.2.2.2.getD z 0=0/\∀j,tkJ (ts.getD h (0,0)) s0<=j->j<tkJ (ts.getD h (0,0)) t->j % ((ts.length:Int)-1)≠rsQ ts.length h z) \/
  (0<g.2.2.2.getD z 0/\tkJ (ts.getD h (0,0)) t-tkJ (ts.getD h (0,0)) s0+g.2.2.2.getD z 0<=(ts.length:Int)-1+r.w)
theorem ZEl.start(q:HQ r ts.length h g)(hw : 0<=r.w)(n2 : 2<=ts.length):ZEl r ts h z t t g:=by
 have:=ZFT (i:=z) (P:=λk:Int=>0<=k/\k<=r.w) q.ms ⟨Int.le_refl _,hw⟩;unfold ZEl
 by_cases e:g.2.2.2.getD z 0=0
 .exact .inr (.inl ⟨e,λj h1 h2=>⋯⟩)
 .exact .inr (.inr ⟨⋯,⋯⟩)
variable{s0:Int}
theorem ZEl.told(n2 : 2<=ts.length)(n8:ts.length<=8)(hh:h<ts.length)(hz:z<ts.length)(hne:z≠h)(hc:ZAs (ts.getD h (0,0)))(hw : 1<=r.w)(k:ZEl r ts h z s0 t g)(far:(ts.getD h (0,0)).1*((ts.length:Int)-1+r.w)<=t-s0) : 2<=(g.2.1.getD z (0,0)).2:=by
 have J:=ZSf hc far;rcases k with k|⟨_,k⟩|⟨k1,k2⟩
 .exact k
 .obtain⟨j,h1,h2,h3⟩:=ZP7 (a:=tkJ (ts.getD h (0,0)) s0) n2 n8 hh hz hne
  exact absurd h3 (k j h1 ⋯)
 .omega
theorem ZEl.step(hr:RuOk r)(n2 : 2<=ts.length)(n8:ts.length<=8)(hc:ZS r.cl "newer" = true)(hag:ZS r.cl "again" = true)(hwt:ZS r.cl "wait" = true)(hne:z≠h)(hh:h<ts.length)(hzn:z<ts.length)(ck:ZAs (ts.getD h (0,0)))(t0 : 0<=s0)(ts0:s0<=tn)
  (q:AQ r ts.length hs)(hle:∀k∈le,0<=k/\k<ts.length)(hco:∀k∈co,0<=k/\k<ts.length)(hu:(hs.getD h H0).1=1)(h1 : ¬(h:Int)∈fa)(h2 : ¬(h:Int)∈le)(h3 : ¬(h:Int)∈co)(zc : ¬(z:Int)∈co)(zd:(hs.getD z H0).1=0\/(z:Int)∈fa\/(z:Int)∈le)(k:ZEl r ts h z s0 tn (hs.getD h H0)) :
  (wd hs h z).1<(wd (ZAc r ts tn hs lo fa le co).hs h z).1\/((wd (ZAc r ts tn hs lo fa le co).hs h z).1=(wd hs h z).1/\ZEl r ts h z s0 (tn+1) ((ZAc r ts tn hs lo fa le co).hs.getD h H0)):=by
 have ht:=hr.t.1;have hw : 0<=r.w:=by have:=hr.w;omega
 have S:=λc (c0 : 0<=c) (kk:LH (wd hs h z).1 z c (hs.getD h H0))=>ZVu (lo:=lo) (fa:=fa) (le:=le) (co:=co) (tn:=tn) (N0:=(wd hs h z).1) ht hw hr.o n2 hc hag hwt hne hh hzn c0 q hle hco hu h1 h2 h3 zc zd kk
 have q':=ZIu (lo:=lo) (fa:=fa) (tn:=tn) ht hw n2 q hle hco;have tm:=ZFT (i:=z) (P:=λk:Int=>0<=k/\k<=r.w) (q'.all h hh).ms ⟨Int.le_refl _,hw⟩;have JT:=ZPV (t:=tn) ck ⋯;have TG:=λtk=>ZIZ (e:=⟨r,ts,tn,lo⟩) n2 n8 hh hzn hne ck tk
 generalize (ZAc r ts tn hs lo fa le co).hs=hs' at *
 have W:∀hs:List Hs,wd hs h z=(hs.getD h H0).2.1.getD z (0,0):=λ_=>rfl
 have key:∀c',LH (wd hs h z).1 z c' (hs'.getD h H0)->((hs'.getD h H0).2.2.2.getD z 0=c'->ZEl r ts h z s0 (tn+1) (hs'.getD h H0))->(wd hs h z).1<(wd hs' h z).1\/((wd hs' h z).1=(wd hs h z).1/\ZEl r ts h z s0 (tn+1) (hs'.getD h H0)):=λc' l f=>by
  unfold LH at l;rcases l with l|⟨l1,l2⟩
  .exact .inl l
  .refine .inr ⟨l1,?_⟩
   rcases l2 with l2|l2
   .exact .inl l2
   .exact f l2
 rcases k with k|⟨k1,k2⟩|⟨k1,k2⟩
 .have a:=S 5 (by decide) (.inr ⟨rfl,.inl k⟩)
  have b:=S 7 (by decide) (.inr ⟨rfl,.inl k⟩);have l:LH (wd hs h z).1 z (-1) (hs'.getD h H0):=by
   refine ZPz ?_ a b;have n5:∀c:Int,1<c->asC ⟨r,ts,tn,lo⟩ h z c=c-1:=λc hc=>by
    unfold asC nxC;rw[Xp (.inr ⋯),Xn ⋯,Xn ⋯]
   rw[n5 5 (by decide),n5 7 (by decide)]
   split <;> decide
  exact key _ l λe=>⋯
 .have a:=S 0 (Int.le_refl _) (.inr ⟨rfl,.inr k1⟩)
  refine key _ a λe=>?_
  by_cases tk:ZAH (ts.getD h (0,0)) tn=true
  .rw[Xp tk] at e JT
   unfold asC nxC at e
   by_cases g:z=tgF ⟨r,ts,tn,lo⟩ h
   .rw[Xp (.inl g),Xp rfl] at e
    refine .inr (.inr ⟨by have:=hr.w;rw[e];show 0<r.w;omega,?_⟩);rw[e,JT];have:tkJ (ts.getD h (0,0)) tn-tkJ (ts.getD h (0,0)) s0<(ts.length:Int)-1:=by
     apply Classical.byContradiction;intro w;obtain⟨j,j1,j2,j3⟩:=ZP7 (a:=tkJ (ts.getD h (0,0)) s0) n2 n8 hh hzn hne;exact k2 j j1 ⋯ j3
    show tkJ (ts.getD h (0,0)) tn+1-_+r.w<=_;omega
   .rw[Xn (by rintro (w|w);exact g w;omega)] at e
    refine .inr (.inl ⟨e,λj j1 j2=>?_⟩);rw[JT] at j2
    by_cases jj:j<tkJ (ts.getD h (0,0)) tn
    .exact k2 j j1 jj
    .have:j=tkJ (ts.getD h (0,0)) tn:=⋯
     rw[this];exact λw=>g ((TG tk).mpr w)
  .rw[Xn tk] at e JT
   exact .inr (.inl ⟨e,by rw[JT];exact k2⟩)
 .have a:=S ((hs.getD h H0).2.2.2.getD z 0) ⋯ (.inr ⟨rfl,.inr rfl⟩)
  refine key _ a λe=>?_
  by_cases tk:ZAH (ts.getD h (0,0)) tn=true
  .rw[Xp tk] at e JT
   unfold asC nxC at e;rw[Xp (.inr k1),Xn ⋯] at e
   split at e
   .omega
   .exact .inr (.inr ⟨⋯,by rw[JT];omega⟩)
  .rw[Xn tk] at e JT
   exact .inr (.inr ⟨⋯,by rw[JT];omega⟩)
theorem ZPx{a b:Int×Int}(h:gtW a b=false):leW a b:=by
 have : ¬gtW a b=true:=by rw[h];exact Xf
 rw[ZAD] at this
 unfold leW;omega
theorem Ord.rf{n:Nat}(own:∀i y,i<n->y<n->(wd hs i y).1<=(wd hs y y).1):Ord n hs hs:=⟨own,λ_ _ _ _=>leW.refl⟩
section
variable{cl:List Str}{y n:Nat}
theorem ZUm{h:Hs}(hc:ZS cl "newer" = true)(hf:ZS cl "refute" = true)(hu:h.1=1)(hp:p.1<h.2.1.length):leW p.2 ((ZY cl y h p).2.1.getD p.1 (0,0)):=by
 unfold ZY ZCv ZCu
 split
 .rename_i e
  split
  .rename_i g
   dsimp only;rw[ZK,Xp ⟨e.symm,hp⟩];left;show p.2.1<p.2.1+1;omega
  .rename_i g
   refine ZPx ?_;rw[<-Bool.not_eq_true];exact λq=>g ⟨hu,hf,by rw[<-e];exact q⟩
 .split
  .dsimp only
   rw[ZK,Xp ⟨rfl,hp⟩];exact leW.refl
  .rename_i g
   unfold ZCl at g;rw[Xp hc] at g;exact ZPx (Bool.not_eq_true _ ▸ g)
theorem ZRR{h:Hs}:(ZY cl y h p).1=h.1/\(ZY cl y h p).2.1.length=h.2.1.length:=by
 unfold ZY ZCv ZCu
 split
 .split
  .exact⟨rfl,length_set⟩
  .exact⟨rfl,rfl⟩
 .split
  .exact⟨rfl,length_set⟩
  .exact⟨rfl,rfl⟩
theorem ZMt(hc:ZS cl "newer" = true)(hf:ZS cl "refute" = true):∀{ns:List (Nat×(Int×Int))} {h:Hs} {p:Nat×(Int×Int)},p∈ns->h.1=1->p.1<h.2.1.length->leW p.2 ((ZW cl y h ns).2.1.getD p.1 (0,0))
 |[],h,p,hp,_,_=>by cases hp
 |q::ns,h,p,hp,hu,hl=>by
  have nu:=ZRR (cl:=cl) (y:=y) (h:=h) (p:=q);show leW p.2 ((ZW cl y (ZY cl y h q) ns).2.1.getD p.1 (0,0));rcases List.mem_cons.mp hp with rfl|hp
  .exact(ZUm hc hf hu hl).trans (ZDS hc)
  .exact ZMt hc hf hp (nu.1.trans hu) (by rw[nu.2];exact hl)
end
section
variable{e:En}{n:Nat}
theorem ZUD{y:Nat}(hc:ZS e.r.cl "newer" = true)(hf:ZS e.r.cl "refute" = true)(w:HsL n R.hs)(hn:e.ts.length=n)(hy:y<n)(hz:z<n)(hlo:e.lo=[])(hu:(R.hs.getD y H0).1=1)(hd:(z:Int)∈ZAf e x y):leW (wd R.hs x z) (wd (ZH e x y R).2.hs y z)/\(ZH e x y R).1=true:=by
 unfold ZH;rw[hlo,Xn (by simp),Xn (by rw[hu];decide)];refine⟨?_,rfl⟩;show leW _ (wd (Zp e x y R.hs) y z);unfold wd Zp;rw[ZK,Xp ⟨rfl,by unfold Zn;rw[length_set,w.len];exact hy⟩];refine ZMt (p:=(z,(R.hs.getD x H0).2.1.getD z (0,0))) hc hf ?_ hu (by rw[(w.get hy).bl];exact hz);unfold ZAO;refine List.mem_map.mpr ⟨z,List.mem_filter.mpr ⟨List.mem_range.mpr (by rw[hn];exact hz),?_⟩,rfl⟩;rw[Bool.or_eq_true];exact .inl (by simpa using hd)
end
noncomputable abbrev qE(r:Ru)(ts:List (Int×Int))(tn:Int):En:=⟨r,ts,tn,[]⟩
theorem ZCR:ZAc r ts tn hs [] [] [] []=ZBr (qE r ts tn) ⟨hs,[]⟩:=by
 unfold ZAc;dsimp only[append_nil,foldl_nil];rw[ZEh];rfl
def ZJz(n:Nat)(hs:List Hs):Prop:=∀i y,i<n->y<n->(wd hs i y).1<=(wd hs y y).1
section
variable{e:En}{x y z:Nat}
theorem ZVc(ho : 0<=e.r.o/\e.r.o<=3)(hc:ZS e.r.cl "newer" = true)(hf:ZS e.r.cl "refute" = true)(hag:ZS e.r.cl "again" = true)(hlo:e.lo=[])(w:HsL e.ts.length R.hs)(own:ZJz e.ts.length R.hs)(hx:x<e.ts.length)(hy:y<e.ts.length)(hz:z<e.ts.length)(hxy:x≠y)(hux:(R.hs.getD x H0).1=1)(huy:(R.hs.getD y H0).1=1)(ht:y=tgF e x)(hd:(z:Int)∈ZAf e x y):leW (wd R.hs x z) (wd (Zf e x y R).hs y z):=by
 obtain⟨s1,s2⟩:=ZUD (x:=x) hc hf w rfl hy hz hlo huy hd;have wS:=ZAv (e:=e) w hx hy;have oS:ZJz e.ts.length (ZH e x y R).2.hs:=((ZCS (e:=e) (h0:=R.hs) hc).snd hx hy hxy w (Ord.rf own)).own;have K:=ZCS (e:=e) (n:=e.ts.length) (h0:=(ZH e x y R).2.hs) hc;have hws:=Z4 (e:=e) w hx hy hxy;have O0:Ord e.ts.length (ZH e x y R).2.hs (ZH e x y R).2.hs:=Ord.rf oS;have O1:Ord e.ts.length (ZH e x y R).2.hs (ZX e (Zc e R.hs x y) R).2.hs:=by
  have ew:Zu e [(x,y),(y,x)] R=Zu e [(y,x)] (ZH e x y R).2:=by rw[Zu];exact Xp s2
  have k1:Ord e.ts.length (ZH e x y R).2.hs (Zu e [(y,x)] (ZH e x y R).2).2.hs:=ZQO K wS O0 λp hp=>by rw[List.mem_singleton.mp hp];exact⟨⟨hy,hx⟩,Ne.symm hxy⟩
  have w1:=(ZCi (e:=e) (w:=[(y,x)]) wS λp hp=>by rw[List.mem_singleton.mp hp];exact⟨hy,hx⟩).1;have eq:∃ws,Zc e R.hs x y=[(x,y),(y,x)]::ws/\∀l∈ws,∀p∈l,(p.1<e.ts.length/\p.2<e.ts.length)/\p.1≠p.2:=⟨_,rfl,λl hl=>hws l (Xo _ hl)⟩;obtain⟨ws,eq,hws'⟩:=eq;rw[eq,ZX,ew]
  split
  .exact k1
  .exact ZLy K w1 k1 hws'
 refine s1.trans ?_;unfold Zf;rw[Xp (by unfold ZDZ;rw[Xp ht,hag];rfl)];have g:=ZA6 (e:=e) (ws:=Zc e R.hs x y) (R:=R) λv hv p hp=>(hws v hv p hp).2
 exact(K.jud hx hy hxy (ZBN w λv hv p hp=>(hws v hv p hp).1).1 ((ZN g.up x).trans hux) O1).inc y z hy hz
theorem ZVb(ho : 0<=r.o/\r.o<=3)(n2 : 2<=ts.length)(hc:ZS r.cl "newer" = true)(hf:ZS r.cl "refute" = true)(hag:ZS r.cl "again" = true)(w:HsL ts.length hs)(own:ZJz ts.length hs)(hx:x<ts.length)(hy:y<ts.length)(hz:z<ts.length)(hxy:x≠y)(hux:(hs.getD x H0).1=1)(huy:(hs.getD y H0).1=1)(tk:ZAH (ts.getD x (0,0)) tn=true)(ht:y=tgF (qE r ts tn) x)(hd:(z:Int)∈ZAf (qE r ts tn) x y):leW (wd hs x z) (wd (ZAc r ts tn hs [] [] [] []).hs y z):=by
 rw[ZCR];unfold ZBr;obtain⟨A,B,eAB⟩:=append_of_mem (List.mem_range.mpr hx);have inR:∀a∈A++x::B,a<ts.length:=λa ha=>by rw[<-eAB] at ha;exact List.mem_range.mp ha
 show leW _ (wd ((List.range ts.length).foldl (λR a=>ZQ (qE r ts tn) a R) ⟨hs,[]⟩).hs y z);rw[eAB,foldl_append,foldl_cons];have inA:∀a∈A,a<ts.length:=λa ha=>inR a (mem_append_left _ ha)
 have inB:∀a∈B,a<ts.length:=λa ha=>inR a (mem_append_right _ (Xo _ ha))
 have O1:=ZFi (e:=qE r ts tn) (L:=A) (R:=⟨hs,[]⟩) (ZCS (e:=qE r ts tn) (h0:=hs) hc) ho n2 w (Ord.rf own) inA;have g1:=ZAa (e:=qE r ts tn) (n:=ts.length) (f:=λR a=>ZQ (qE r ts tn) a R) (L:=A) (R:=⟨hs,[]⟩) w λa ha R w=>⟨(ZAy (e:=qE r ts tn) ho n2 w (inA a ha)).1,ZCN (e:=qE r ts tn) ho n2 w (inA a ha)⟩
 have w1:=ZAk (f:=λ(R:Rw) (a:Nat)=>ZQ (qE r ts tn) a R) (n:=ts.length) (m:=14*ts.length) (L:=A) (R:=⟨hs,[]⟩) w λa ha R w=>ZAy (e:=qE r ts tn) ho n2 w (inA a ha)
 generalize A.foldl (λR a=>ZQ (qE r ts tn) a R) ⟨hs,[]⟩=R1 at *
 have ux:=(ZN g1.up x).trans hux;have uy:=(ZN g1.up y).trans huy;have e2:ZQ (qE r ts tn) x R1=((List.range ts.length).filter λb=>!decide (b=x) && !decide (b=tgF (qE r ts tn) x)).foldl (λR b=>Zf (qE r ts tn) x b R) (Zf (qE r ts tn) x y R1):=by
  unfold ZQ ZCP;rw[ux,show ZAH ((qE r ts tn).ts.getD x (0,0)) (qE r ts tn).tn=true from tk,Xp (by decide)];unfold ZG8 ZBX;rw[foldl_cons,<-ht]
 rw[e2];have a1:=ZVc (e:=qE r ts tn) (R:=R1) ho hc hf hag rfl w1.1 O1.own hx hy hz hxy ux uy ht hd;have wa:=(ZAm (e:=qE r ts tn) ho w1.1 hx hy hxy).1;have ga:=Z8 (e:=qE r ts tn) w1.1 hx hy hxy;have Oa:Ord ts.length R1.hs (Zf (qE r ts tn) x y R1).hs:=ZQ8 (ZCS (e:=qE r ts tn) (h0:=R1.hs) hc) w1.1 (Ord.rf O1.own) hx hy hxy ux;have uxa:=(ZN ga.up x).trans ux
 generalize Zf (qE r ts tn) x y R1=R2 at *
 have inO:∀b∈((List.range ts.length).filter λb=>!decide (b=x) && !decide (b=tgF (qE r ts tn) x)),b<ts.length/\x≠b:=λb hb=>by
  obtain⟨h1,h2⟩:=List.mem_filter.mp hb;rw[Bool.and_eq_true] at h2;exact⟨List.mem_range.mp h1,λq=>by rw[q] at h2;simp at h2⟩
 have O3:=ZLx (e:=qE r ts tn) (ZCS (e:=qE r ts tn) (h0:=R2.hs) hc) ho hx wa (Ord.rf Oa.own) inO uxa;have w3:=ZAk (f:=λ(R:Rw) (b:Nat)=>Zf (qE r ts tn) x b R) (n:=ts.length) (m:=14) (L:=((List.range ts.length).filter λb=>!decide (b=x) && !decide (b=tgF (qE r ts tn) x))) (R:=R2) wa λb hb R w=>ZAm (e:=qE r ts tn) ho w hx (inO b hb).1 (inO b hb).2
 generalize ((List.range ts.length).filter λb=>!decide (b=x) && !decide (b=tgF (qE r ts tn) x)).foldl (λR b=>Zf (qE r ts tn) x b R) R2=R3 at *
 have O4:=ZFi (e:=qE r ts tn) (L:=B) (R:=R3) (ZCS (e:=qE r ts tn) (h0:=R3.hs) hc) ho n2 w3.1 (Ord.rf O3.own) inB;exact((O1.inc x z hx hz).trans a1).trans ((O3.inc y z hy hz).trans (O4.inc y z hy hz))
end
structure Kpu (e:En) (n:Nat) (I:List Hs->Prop):Prop where
 snd:∀{x y:Nat} {R:Rw},x<n->y<n->x≠y->HsL n R.hs->(R.hs.getD x H0).1=1->I R.hs->I (ZH e x y R).2.hs
 jud:∀{a b:Nat} {ans:Bool} {hs:List Hs},a<n->b<n->a≠b->HsL n hs->(hs.getD a H0).1=1->(ans=true ↔ (hs.getD b H0).1=1)->I hs->I (ZAG e a b ans hs)
def Chn:Nat->List (Nat×Nat)->Prop
 |_,[]=>True
 |a,p::l=>p.1=a/\Chn p.2 l
variable{i:Nat}
section
variable{e:En}{n:Nat}{I:List Hs->Prop}
theorem ZLc(w:HsL n hs)(hi:i<n):(hs.getD i H0).1=0\/(hs.getD i H0).1=1:=(w.get hi).up
theorem ZMM{y:Nat}(w:HsL n R.hs)(hy:y<n)(h:(ZH e x y R).1=true):(R.hs.getD y H0).1=1:=by
 unfold ZH at h
 split at h
 .cases h
 .split at h
  .cases h
  .rename_i q
   exact(ZLc w hy).resolve_left q
theorem ZQv(K:Kpu e n I):∀{l:List (Nat×Nat)} {R:Rw} {a:Nat},Chn a l->(R.hs.getD a H0).1=1->HsL n R.hs->I R.hs->(∀p∈l,(p.1<n/\p.2<n)/\p.1≠p.2)->I (Zu e l R).2.hs
 |[],R,_,_,_,_,h,_=>h
 |p::l,R,a,c,u,w,h,hp=>by
  have h0:=hp p (Xs ..);obtain⟨c1,c2⟩:=c;have h1:=K.snd h0.1.1 h0.1.2 h0.2 w (by rw[c1];exact u) h;rw[Zu]
  split
  .rename_i t
   exact ZQv K c2 ((ZN (ZAF (e:=e) h0.2).up p.2).trans (ZMM w h0.1.2 t)) (ZAv w h0.1.1 h0.1.2) h1 λq hq=>hp q (Xo _ hq)
  .exact h1
theorem ZJR(K:Kpu e n I){a:Nat}:∀{ws:List (List (Nat×Nat))} {R:Rw},(∀l∈ws,Chn a l)->(R.hs.getD a H0).1=1->HsL n R.hs->I R.hs->(∀l∈ws,∀p∈l,(p.1<n/\p.2<n)/\p.1≠p.2)->I (ZX e ws R).2.hs
 |[],R,_,_,_,h,_=>h
 |l::ws,R,c,u,w,h,hp=>by
  have h0:=hp l (Xs ..);have h1:=ZQv K (c l (Xs ..)) u w h h0;rw[ZX]
  split
  .exact h1
  .exact ZJR K (λq hq=>c q (Xo _ hq)) ((ZN (ZDF (e:=e) λp hp=>(h0 p hp).2).up a).trans u) (ZCi w λp hq=>(h0 p hq).1).1 h1 λq hq=>hp q (Xo _ hq)
theorem ZEc{hs:List Hs}{a b:Nat}:∀l∈Zc e hs a b,Chn a l:=λl hl=>by
 unfold Zc at hl;rcases List.mem_cons.mp hl with rfl|hl
 .exact⟨rfl,rfl,trivial⟩
 .split at hl
  .obtain⟨g,_,rfl⟩:=List.mem_map.mp hl
   exact⟨rfl,rfl,rfl,rfl,trivial⟩
  .cases hl
theorem ZJS(hlo:e.lo=[])(w:HsL n R.hs)(ha:a<n)(hb:b<n)(hab:a≠b)(ua:(R.hs.getD a H0).1=1)(ub:(R.hs.getD b H0).1=1):(ZX e (Zc e R.hs a b) R).1=true:=by
 have s1:(ZH e a b R).1=true:=by
  unfold ZH;rw[hlo,Xn (by simp),Xn (by rw[ub];decide)]
 have ua':=(ZN (ZAF (e:=e) (R:=R) hab).up a).trans ua;have s2:(ZH e b a (ZH e a b R).2).1=true:=by
  unfold ZH at ua' ⊢;rw[hlo,Xn (by simp),Xn (by rw[hlo] at ua';rw[ua'];decide)]
 have w1:(Zu e [(a,b),(b,a)] R).1=true:=by
  rw[Zu,Xp s1,Zu,Xp s2];rfl
 have eq:∃ws,Zc e R.hs a b=[(a,b),(b,a)]::ws:=⟨_,rfl⟩;obtain⟨ws,eq⟩:=eq;rw[eq,ZX,Xp w1]
theorem ZU8(K:Kpu e n I)(hlo:e.lo=[])(w:HsL n R.hs)(h:I R.hs)(ha:a<n)(hb:b<n)(hab:a≠b)(hu:(R.hs.getD a H0).1=1):I (Zf e a b R).hs:=by
 unfold Zf
 split
 .have hw:=Z4 (e:=e) w ha hb hab
  have h1:=ZJR K ZEc hu w h hw;have h2:=ZA6 (e:=e) (ws:=Zc e R.hs a b) (R:=R) λv hv p hp=>(hw v hv p hp).2
  refine K.jud ha hb hab (ZBN w λv hv p hp=>(hw v hv p hp).1).1 ((ZN h2.up a).trans hu) ?_ h1;rw[ZN h2.up b];refine⟨λt=>?_,λu=>ZJS hlo w ha hb hab hu u⟩;apply Classical.byContradiction;intro q;have d0:=(ZLc w hb).resolve_right q;rw[ZDN (e:=e) (z:=b) (ws:=Zc e R.hs a b) (R:=R) (λl hl p hp=>(hw l hl p hp).2) ZGf d0] at t;cases t
 .exact h
theorem ZE4(K:Kpu e n I)(ho : 0<=e.r.o/\e.r.o<=3)(hlo:e.lo=[]){a:Nat}(ha:a<n):∀{L:List Nat} {R:Rw},HsL n R.hs->I R.hs->(∀b∈L,b<n/\a≠b)->(R.hs.getD a H0).1=1->I (L.foldl (λR b=>Zf e a b R) R).hs
 |[],R,_,h,_,_=>h
 |b::L,R,w,h,hb,hu=>by
  obtain⟨h1,h2⟩:=hb b (Xs ..);rw[foldl_cons];exact ZE4 K ho hlo ha (ZAm ho w ha h1 h2).1 (ZU8 K hlo w h ha h1 h2 hu) (λc hc=>hb c (Xo _ hc)) ((ZN (Z8 (e:=e) w ha h1 h2).up a).trans hu)
theorem ZDM(K:Kpu e e.ts.length I)(ho : 0<=e.r.o/\e.r.o<=3)(hlo:e.lo=[])(hn : 2<=e.ts.length):∀{L:List Nat} {R:Rw},HsL e.ts.length R.hs->I R.hs->(∀a∈L,a<e.ts.length)->I (L.foldl (λR a=>ZQ e a R) R).hs
 |[],R,_,h,_=>h
 |a::L,R,w,h,hl=>by
  have ha:=hl a (Xs ..);rw[foldl_cons];refine ZDM K ho hlo hn (L:=L) (ZAy ho hn w ha).1 ?_ λc hc=>hl c (Xo _ hc)
  unfold ZQ
  split
  .rename_i h3
   unfold ZCP at h3;rw[Bool.and_eq_true] at h3;exact ZE4 K ho hlo ha w h (λb hb=>Z0 hn ha hb) (Xd h3.1)
  .exact h
end
theorem ZMw{I:List Hs->Prop}(K:Kpu (qE r ts tn) ts.length I)(ho : 0<=r.o/\r.o<=3)(n2 : 2<=ts.length)(w:HsL ts.length hs)(h:I hs):I (ZAc r ts tn hs [] [] [] []).hs:=by
 rw[ZCR];exact ZDM (e:=qE r ts tn) (R:=⟨hs,[]⟩) K ho rfl n2 w h λa ha=>List.mem_range.mp ha
section
variable{cl:List Str}{y v:Nat}
theorem ZRT{h:Hs}(hv:v≠y):(ZY cl y h p).2.1.getD v (0,0)=h.2.1.getD v (0,0)\/(p.1=v/\(ZY cl y h p).2.1.getD v (0,0)=p.2):=by
 unfold ZY ZCv ZCu
 split
 .split
  .dsimp only
   rw[ZK,Xn (λu=>hv u.1.symm)];exact .inl rfl
  .exact .inl rfl
 .split
  .dsimp only
   rw[ZK]
   split
   .rename_i u
    exact .inr ⟨u.1,rfl⟩
   .exact .inl rfl
  .exact .inl rfl
theorem ZJ1(hv:v≠y):∀{ns:List (Nat×(Int×Int))} {h:Hs},(ZW cl y h ns).2.1.getD v (0,0)=h.2.1.getD v (0,0)\/∃p∈ns,p.1=v/\(ZW cl y h ns).2.1.getD v (0,0)=p.2
 |[],h=>.inl rfl
 |q::ns,h=>by
  show(ZW cl y (ZY cl y h q) ns).2.1.getD v (0,0)=_\/∃p∈q::ns,p.1=v/\(ZW cl y (ZY cl y h q) ns).2.1.getD v (0,0)=p.2;rcases ZJ1 hv (ns:=ns) (h:=ZY cl y h q) with k|⟨p,hp,k1,k2⟩
  .rcases ZRT (cl:=cl) (h:=h) (p:=q) hv with k2|⟨k2,k3⟩
   .exact .inl (k.trans k2)
   .exact .inr ⟨q,Xs ..,k2,k.trans k3⟩
  .exact .inr ⟨p,Xo _ hp,k1,k2⟩
end
variable{v:Nat}
section
variable{e:En}{n:Nat}
theorem ZBv{y:Nat}(hc:ZS e.r.cl "newer" = true)(w:HsL n R.hs)(hy:y<n):(i≠y->wd (ZH e x y R).2.hs i v=wd R.hs i v)/\(v≠y->wd (ZH e x y R).2.hs y v=wd R.hs y v\/wd (ZH e x y R).2.hs y v=wd R.hs x v)/\leW (wd R.hs i v) (wd (ZH e x y R).2.hs i v):=by
 have ms:∀i v,wd (Zn e x y R.hs) i v=wd R.hs i v:=λi v=>ZDR
 have no:∀H:List Hs,(∀i v,wd H i v=wd R.hs i v)->(i≠y->wd H i v=wd R.hs i v)/\(v≠y->wd H y v=wd R.hs y v\/wd H y v=wd R.hs x v)/\leW (wd R.hs i v) (wd H i v):=λH k=>⟨λ_=>k i v,λ_=>.inl (k y v),by rw[k];exact leW.refl⟩
 unfold ZH
 split
 .exact no _ ms
 .split
  .exact no _ ms
  .show(i≠y->wd (Zp e x y R.hs) i v=_)/\(v≠y->wd (Zp e x y R.hs) y v=_\/wd (Zp e x y R.hs) y v=_)/\leW _ (wd (Zp e x y R.hs) i v)
   have at_y:∀v,wd (Zp e x y R.hs) y v=(ZW e.r.cl y (R.hs.getD y H0) (ZAO (R.hs.getD x H0).2.1 (ZAf e x y) (ZBS e (R.hs.getD x H0) x y) e.ts.length)).2.1.getD v (0,0):=λv=>by
    unfold wd Zp;rw[ZK,Xp ⟨rfl,by unfold Zn;rw[length_set,w.len];exact hy⟩]
   have off:∀i,i≠y->∀v,wd (Zp e x y R.hs) i v=wd R.hs i v:=λi hi v=>by
    rw[<-ms i v];unfold wd Zp;rw[ZK,Xn (λu=>hi u.1.symm)]
   refine⟨λhi=>off i hi v,λhv=>?_,?_⟩
   .rw[at_y]
    rcases ZJ1 (cl:=e.r.cl) hv (ns:=ZAO (R.hs.getD x H0).2.1 (ZAf e x y) (ZBS e (R.hs.getD x H0) x y) e.ts.length) (h:=R.hs.getD y H0) with k|⟨p,hp,k1,k2⟩
    .exact .inl k
    .refine .inr (k2.trans ?_)
     rw[ZBR hp,k1];rfl
   .by_cases hi:i=y
    .subst hi
     rw[at_y];exact ZDS hc
    .rw[off i hi v]
     exact leW.refl
theorem ZRJ{y:Nat}(w:HsL n R.hs)(hy:y<n)(h:(R.hs.getD i H0).2.2.2.getD v 0=0):((ZH e x y R).2.hs.getD i H0).2.2.2.getD v 0=0:=by
 have ms:((Zn e x y R.hs).getD i H0).2.2.2.getD v 0=0:=by
  unfold Zn;rw[ZK]
  split
  .rename_i u
   rw[u.1];exact h
  .exact h
 unfold ZH
 split
 .exact ms
 .split
  .exact ms
  .show((Zp e x y R.hs).getD i H0).2.2.2.getD v 0=0
   unfold Zp;rw[ZK]
   split
   .rename_i u
    rw[u.1];exact ZJa.elim (λk=>k.trans h) id
   .exact ms
theorem ZJP(w:HsL n hs)(ha:a<n):(¬(i=a/\v=b)\/ans=true->wd (ZAG e a b ans hs) i v=wd hs i v)/\(wd (ZAG e a b ans hs) i v).1=(wd hs i v).1/\(2<=(wd hs i v).2->wd (ZAG e a b ans hs) i v=wd hs i v):=by
 have base:∀H:Hs,(v≠b->(ZA2 e b ans H).2.1.getD v (0,0)=H.2.1.getD v (0,0))/\(ans=true->(ZA2 e b ans H).2.1.getD v (0,0)=H.2.1.getD v (0,0))/\((ZA2 e b ans H).2.1.getD v (0,0)).1=(H.2.1.getD v (0,0)).1/\(2<=(H.2.1.getD v (0,0)).2->(ZA2 e b ans H).2.1.getD v (0,0)=H.2.1.getD v (0,0)):=λH=>by
  have st:∀m:Int,(v≠b->(H.2.1.set b ((H.2.1.getD b (0,0)).1,m)).getD v (0,0)=H.2.1.getD v (0,0))/\((H.2.1.set b ((H.2.1.getD b (0,0)).1,m)).getD v (0,0)).1=(H.2.1.getD v (0,0)).1:=λm=>by
   rw[ZK]
   split
   .rename_i u
    exact⟨λq=>absurd u.1.symm q,by rw[u.1]⟩
   .exact⟨λ_=>rfl,rfl⟩
  have abv:abF H.2.1 b=true->v=b->¬2<=(H.2.1.getD v (0,0)).2:=λq e=>by
   unfold abF at q;have:=Xd q;rw[e];omega
  unfold ZA2
  by_cases c0:ans=true
  .rw[Xp c0]
   exact⟨λ_=>rfl,λ_=>rfl,rfl,λ_=>rfl⟩
  .rw[Xn c0]
   split
   .rename_i g
    rw[Bool.and_eq_true] at g;refine⟨(st 2).1,λq=>absurd q c0,(st 2).2,λq=>(st 2).1 λe=>abv g.1 e q⟩
   .split
    .rename_i g
     rw[Bool.and_eq_true] at g
     split
     .exact⟨(st 1).1,λq=>absurd q c0,(st 1).2,λq=>(st 1).1 λe=>abv g.1 e q⟩
     .exact⟨λ_=>rfl,λ_=>rfl,rfl,λ_=>rfl⟩
    .split <;> exact⟨λ_=>rfl,λ_=>rfl,rfl,λ_=>rfl⟩
 unfold wd ZAG;rw[ZK]
 split
 .rename_i u
  obtain⟨k1,k2,k3,k4⟩:=base (hs.getD a H0);obtain⟨u1,u2⟩:=u;subst u1;refine⟨λq=>?_,k3,k4⟩;rcases q with q|q
  .exact k1 λe=>q ⟨rfl,e⟩
  .exact k2 q
 .exact⟨λ_=>rfl,rfl,λ_=>rfl⟩
theorem ZEv:((ZAG e a b ans hs).getD i H0).1=(hs.getD i H0).1:=by
 unfold ZAG;rw[ZK]
 split
 .rename_i u
  rw[<-u.1];unfold ZA2
  repeat' split
  all_goals rfl
 .rfl
def EZ(n z:Nat)(w0:Int×Int)(hs:List Hs):Prop:=(hs.getD z H0).1=1/\∀y,y<n->(hs.getD y H0).1=1->leW (wd hs y z) w0\/leW (wd hs y z) (wd hs z z)
theorem ZU1{w0:Int×Int}(hc:ZS e.r.cl "newer" = true)(hz:z<n):Kpu e n (EZ n z w0):=⟨λ{x y R} hx hy hxy w ux k=>by
 have g:=ZAF (e:=e) (R:=R) hxy;have own:=(ZBv (e:=e) (x:=x) (i:=z) (v:=z) (R:=R) hc w hy).2.2;refine⟨(ZN g.up z).trans k.1,λi hi ui=>?_⟩;have ui0:=(ZN g.up i).symm.trans ui
 by_cases q:i=y
 .subst q
  by_cases q2:z=i
  .subst q2
   exact .inr leW.refl
  .rcases(ZBv (e:=e) (x:=x) (y:=i) (i:=i) (v:=z) (R:=R) hc w hi).2.1 q2 with k1|k1
   .rw[k1];exact(k.2 i hi ui0).imp id λl=>l.trans own
   .rw[k1];exact(k.2 x hx ux).imp id λl=>l.trans own
 .rw[(ZBv (e:=e) (x:=x) (y:=y) (i:=i) (v:=z) (R:=R) hc w hy).1 q]
  exact(k.2 i hi ui0).imp id λl=>l.trans own,λ{a b ans hs} ha hb hab w ua hans k=>by
 have ups:∀i,((ZAG e a b ans hs).getD i H0).1=(hs.getD i H0).1:=λi=>ZEv
 have same:∀ i,wd (ZAG e a b ans hs) i z=wd hs i z:=λ i=>(ZJP (e:=e) w ha).1 (by
  by_cases q:z=b
  .exact .inr (hans.mpr (by rw[<-q];exact k.1))
  .exact .inl λr=>q r.2)
 exact⟨(ups z).trans k.1,λi hi ui=>by rw[same,same];exact k.2 i hi ((ups i).symm.trans ui)⟩⟩
def NZ(n z:Nat)(N:Int)(hs:List Hs):Prop:=(hs.getD z H0).1=0/\∀y,y<n->(hs.getD y H0).1=1->(wd hs y z).1<=N
theorem ZUo{N:Int}(hc:ZS e.r.cl "newer" = true)(hz:z<n):Kpu e n (NZ n z N):=⟨λ{x y R} hx hy hxy w ux k=>by
 have g:=ZAF (e:=e) (R:=R) hxy;refine⟨(ZN g.up z).trans k.1,λi hi ui=>?_⟩;have ui0:=(ZN g.up i).symm.trans ui
 by_cases q:i=y
 .subst q
  have q2:z≠i:=λq=>by rw[q] at k;have:=k.1;rw[ui0] at this;cases this
  rcases(ZBv (e:=e) (x:=x) (y:=i) (i:=i) (v:=z) (R:=R) hc w hi).2.1 q2 with k1|k1
  .rw[k1];exact k.2 i hi ui0
  .rw[k1];exact k.2 x hx ux
 .rw[(ZBv (e:=e) (x:=x) (y:=y) (i:=i) (v:=z) (R:=R) hc w hy).1 q]
  exact k.2 i hi ui0,λ{a b ans hs} ha hb hab w ua hans k=>by
 have ups:∀i,((ZAG e a b ans hs).getD i H0).1=(hs.getD i H0).1:=λi=>ZEv
 exact⟨(ups z).trans k.1,λi hi ui=>by rw[(ZJP (e:=e) w ha).2.1];exact k.2 i hi ((ups i).symm.trans ui)⟩⟩
def MZ(n z:Nat)(w1:Int×Int)(hs:List Hs):Prop:=(hs.getD z H0).1=0/\∀y,y<n->(hs.getD y H0).1=1->2<=(wd hs y z).2/\leW (wd hs y z) w1
theorem ZUF{w1:Int×Int}(hc:ZS e.r.cl "newer" = true)(hz:z<n):Kpu e n (MZ n z w1):=⟨λ{x y R} hx hy hxy w ux k=>by
 have g:=ZAF (e:=e) (R:=R) hxy;refine⟨(ZN g.up z).trans k.1,λi hi ui=>?_⟩;have ui0:=(ZN g.up i).symm.trans ui
 by_cases q:i=y
 .subst q
  have q2:z≠i:=λq=>by rw[q] at k;have:=k.1;rw[ui0] at this;cases this
  rcases(ZBv (e:=e) (x:=x) (y:=i) (i:=i) (v:=z) (R:=R) hc w hi).2.1 q2 with k1|k1
  .rw[k1];exact k.2 i hi ui0
  .rw[k1];exact k.2 x hx ux
 .rw[(ZBv (e:=e) (x:=x) (y:=y) (i:=i) (v:=z) (R:=R) hc w hy).1 q]
  exact k.2 i hi ui0,λ{a b ans hs} ha hb hab w ua hans k=>by
 have ups:∀i,((ZAG e a b ans hs).getD i H0).1=(hs.getD i H0).1:=λi=>ZEv
 exact⟨(ups z).trans k.1,λi hi ui=>by
  have:=k.2 i hi ((ups i).symm.trans ui);rw[(ZJP (e:=e) w ha).2.2 this.1];exact this⟩⟩
end
noncomputable abbrev q0:Do4:=([],[],[],[])
def qn(r:Ru)(ts:List (Int×Int))(s:Sx):Nat->Sx
 |0=>s
 |t+1=>nxS r ts (qn r ts s t) q0
theorem ZG4{r:Ru}{ts:Qi}{s:Sx}{t:Nat}:∀{k:Nat},qn r ts s (t+k)=qn r ts (qn r ts s t) k
 |0=>rfl
 |k+1=>by
  show nxS r ts (qn r ts s (t+k)) q0=nxS r ts (qn r ts (qn r ts s t) k) q0;rw[ZG4]
structure WR (r:Ru) (ts:List (Int×Int)):Prop where
 ru:RuOk r
 nw:ZS r.cl "newer" = true
 rf:ZS r.cl "refute" = true
 ag:ZS r.cl "again" = true
 wt:ZS r.cl "wait" = true
 ow:ZS r.cl "own" = true
 ab:ZS r.cl "about" = true
 n2 : 2<=ts.length
 n7:ts.length<=7
 ck:∀c∈ts,ZAs c
structure QS (r:Ru) (ts:List (Int×Int)) (s:Sx):Prop where
 q:AQ r ts.length s.2
 own:ZJz ts.length s.2
 tn : 0<=s.1
variable{m:Nat}
section
variable{r:Ru}{ts:Qi}{s:Sx}
theorem WR.clk(W:WR r ts)(hh:h<ts.length):ZAs (ts.getD h (0,0)):=W.ck _ (by rw[Xq,getElem?_eq_getElem hh];exact getElem_mem _)
theorem QS.ord(W:WR r ts)(k:QS r ts s):Ord ts.length s.2 (nxS r ts s q0).2:=by
 have:=ZLZ (tn:=s.1) (lo:=[]) (fa:=[]) (le:=[]) (co:=[]) W.nw W.ru.o W.n2 k.q.L k.own (λk hk=>by cases hk) (λk hk=>by cases hk);rw[ZEh] at this
 exact this
theorem QS.nx(W:WR r ts)(k:QS r ts s):QS r ts (nxS r ts s q0):=⟨ZIu (lo:=[]) (fa:=[]) (tn:=s.1) W.ru.t.1 (by have:=W.ru.w;omega) W.n2 k.q (λk hk=>by cases hk) (λk hk=>by cases hk),(k.ord W).own,by show 0<=s.1+1;have:=k.tn;omega⟩
theorem QS.qn(W:WR r ts)(k:QS r ts s):∀t,QS r ts (qn r ts s t)
 |0=>k
 |t+1=>(k.qn W t).nx W
theorem ZCq:∀t,(qn r ts s t).1=s.1+(t:Int)
 |0=>by show s.1=s.1+((0:Nat):Int);omega
 |t+1=>by
  show(qn r ts s t).1+1=_;rw[ZCq t];omega
theorem ZU2(W:WR r ts)(k:QS r ts s)(i:Nat):((nxS r ts s q0).2.getD i H0).1=(s.2.getD i H0).1:=by
 have g:=ZHg (e:=qE r ts s.1) (R:=⟨s.2,[]⟩) W.ru.o W.n2 k.q.L;have:(nxS r ts s q0).2=(ZBr (qE r ts s.1) ⟨s.2,[]⟩).hs:=congrArg Rw.hs ZCR;rw[this];exact ZN g.up i
theorem ZAV(W:WR r ts)(k:QS r ts s)(i:Nat):∀t,((qn r ts s t).2.getD i H0).1=(s.2.getD i H0).1
 |0=>rfl
 |t+1=>(ZU2 W (k.qn W t) i).trans (ZAV W k i t)
theorem ZEo(W:WR r ts)(k:QS r ts s){i v:Nat}(hi:i<ts.length)(hv:v<ts.length){t:Nat}:∀m,leW (wd (qn r ts s t).2 i v) (wd (qn r ts s (t+m)).2 i v)
 |0=>leW.refl
 |m+1=>(ZEo W k hi hv m).trans (((k.qn W (t+m)).ord W).inc i v hi hv)
theorem ZBF(W:WR r ts)(k:QS r ts s){I:List Hs->Prop}(K:∀tn,Kpu (qE r ts tn) ts.length I){t:Nat}(h:I (qn r ts s t).2):∀m,I (qn r ts s (t+m)).2
 |0=>h
 |m+1=>ZMw (K (qn r ts s (t+m)).1) W.ru.o W.n2 (k.qn W (t+m)).q.L (ZBF W k K h m)
theorem crt{n:Nat}{b a c:Int}(n2 : 2<=n)(n7:n<=7)(ha : 0<=a/\a<(n:Int)-1)(hc : 0<=c/\c<n):∃j,b<=j/\j<b+(n:Int)*((n:Int)-1)/\j % ((n:Int)-1)=a/\(j+1) % (n:Int)=c:=by
 obtain⟨m,rfl⟩:∃m:Nat,n=m+1:=⟨n-1,⋯⟩;have e0:((m+1:Nat):Int)-1=m:=⋯
 rw[e0] at ha ⊢;have e1:((m+1:Nat):Int)=(m:Int)+1:=⋯
 rw[e1] at hc ⊢;have m0 : 0<(m:Int):=⋯
 have p : 0<((m:Int)+1)*m:=mul_pos ⋯ m0;have x0:=emod_nonneg (((m:Int)+1)*a+m*m*(c-1)-b) (Int.ne_of_gt p);have x1:=emod_lt_of_pos (((m:Int)+1)*a+m*m*(c-1)-b) p;refine⟨b+(((m:Int)+1)*a+m*m*(c-1)-b) % (((m:Int)+1)*m),⋯,⋯,?_,?_⟩
 .rw[<-add_emod_emod,Int.emod_emod_of_dvd _ (Int.dvd_mul_left ..),add_emod_emod,show b+(((m:Int)+1)*a+m*m*(c-1)-b)=a+m*(a+m*(c-1)) by rw[Int.add_mul,mul_add,mul_assoc,one_mul];omega,Int.add_mul_emod_self_left,emod_eq_of_lt ha.1 ha.2]
 .rw[Int.add_right_comm,<-add_emod_emod,Int.emod_emod_of_dvd _ (Int.dvd_mul_right ..),add_emod_emod,show b+1+(((m:Int)+1)*a+m*m*(c-1)-b)=c+(m+1)*(a+(m-1)*(c-1)) by rw[mul_add,<-mul_assoc,show((m:Int)+1)*(m-1)=m*m-1 by rw[Int.add_mul,Int.mul_sub,mul_one,one_mul];omega,Int.sub_mul (m*m:Int),one_mul];omega,Int.add_mul_emod_self_left,emod_eq_of_lt hc.1 hc.2]
theorem ZFc{c:Int×Int}{T j:Int}(hc:ZAs c)(hT : 0<=T)(h:tkJ c T<=j):∃τ,T <= τ/\τ + 1<=T+c.1*(j-tkJ c T+1)/\ZAH c τ = true/\tkJ c τ = j/\ZAE c τ = j+1:=by
 have j0:=ZUN hc hT;obtain⟨p,st⟩:=c;have p0 : 0<p:=hc.1;obtain⟨q,r,e,r0,r1,_,e2⟩:=dvs (p:=p) (x:=T-st+(p-1)) p0;have eq:tkJ (p,st) T=q:=e2;rw[eq] at h j0 ⊢;have m1:=Int.mul_le_mul_of_nonneg_left h (Int.le_of_lt p0);have m2:=Int.mul_nonneg (Int.le_of_lt p0) (Int.le_trans j0 h);have m3:p*(j-q+1)=p*j-p*q+p:=by rw[mul_add,Int.mul_sub,mul_one]
 have tk:ZAH (p,st) (st+p*j)=true:=by
  unfold ZAH;rw[Bool.and_eq_true,decide_eq_true_eq,decide_eq_true_eq];dsimp only;rw[show st+p*j-st=p*j by omega];exact⟨⋯,Int.mul_emod_right ..⟩
 have ej:tkJ (p,st) (st+p*j)=j:=by
  unfold tkJ;dsimp only;exact dvq ⋯ ⋯
 refine⟨st+p*j,⋯,by show st+p*j+1<=T+p*(j-q+1);rw[m3];omega,tk,ej,?_⟩;have:=ZMO hc tk;rw[ej] at this
 omega
theorem ZDV(W:WR r ts)(k:QS r ts s){y:Nat}(hx:x<ts.length)(hy:y<ts.length)(hz:z<ts.length)(hxy:y≠x)(ux:(s.2.getD x H0).1=1)(uy:(s.2.getD y H0).1=1){t:Nat}(hm : 4*(ts.length*(ts.length-1))<=m):leW (wd (qn r ts s t).2 x z) (wd (qn r ts s (t+m)).2 y z):=by
 have K:=k.qn W t;have ck:=W.clk hx;obtain⟨j,j1,j2,j3,j4⟩:=crt (n:=ts.length) (b:=tkJ (ts.getD x (0,0)) (qn r ts s t).1) (a:=rsQ ts.length x y) (c:=(z:Int)) W.n2 W.n7 (ZIp hx hy hxy) ⋯;obtain⟨τ,a1,a2,a3,a4,a5⟩:=ZFc ck K.tn j1;obtain⟨i,rfl⟩:∃i:Nat,τ = (qn r ts s t).1+(i:Int):=⟨(τ-(qn r ts s t).1).toNat,⋯⟩;have p4:=ck.2.1;have p1:=ck.1;have bd:(ts.getD x (0,0)).1*(j-tkJ (ts.getD x (0,0)) (qn r ts s t).1+1)<=4*((ts.length:Int)*((ts.length:Int)-1)):=by
  have h1:j-tkJ (ts.getD x (0,0)) (qn r ts s t).1+1<=(ts.length:Int)*((ts.length:Int)-1):=⋯
  have h0 : 0<=j-tkJ (ts.getD x (0,0)) (qn r ts s t).1+1:=⋯
  exact Int.le_trans (Int.mul_le_mul_of_nonneg_right p4 h0) (Int.mul_le_mul_of_nonneg_left h1 (by decide))
 have him:i+1<=m:=by
  have e:((ts.length*(ts.length-1):Nat):Int)=(ts.length:Int)*((ts.length:Int)-1):=by
   rw[Int.natCast_mul,Int.natCast_sub (by have:=W.n2;omega)];rfl
  omega
 have Ki:=k.qn W (t+i);have et:(qn r ts s (t+i)).1=(qn r ts s t).1+(i:Int):=by rw[ZCq,ZCq];omega
 have tg:y=tgF (qE r ts (qn r ts s (t+i)).1) x:=(ZIZ (e:=qE r ts (qn r ts s (t+i)).1) W.n2 (show ts.length<=8 by have:=W.n7;omega) hx hy hxy ck (by show ZAH _ (qn r ts s (t+i)).1=true;rw[et];exact a3)).mpr (by show tkJ _ (qn r ts s (t+i)).1 % _=_;rw[et,a4];exact j3);have du:(z:Int)∈ZAf (qE r ts (qn r ts s (t+i)).1) x y:=by
  unfold ZAf ZAg;show(z:Int)∈((y:Int)::if ZS r.cl "own" = true then [(x:Int)] else [])++if ZS r.cl "about" = true/\ZAE (ts.getD x (0,0)) (qn r ts s (t+i)).1 % ((ts.length:Nat):Int)≠(x:Int) then [ZAE (ts.getD x (0,0)) (qn r ts s (t+i)).1 % ((ts.length:Nat):Int)] else []
  rw[Xp W.ow,et,a5,j4]
  by_cases q:(z:Int)=x
  .rw[q]
   exact mem_append_left _ (Xo _ (List.mem_singleton.mpr rfl))
  .rw[Xp ⟨W.ab,q⟩]
   exact mem_append_right _ (List.mem_singleton.mpr rfl)
 have sp:=ZVb (tn:=(qn r ts s (t+i)).1) (hs:=(qn r ts s (t+i)).2) W.ru.o W.n2 W.nw W.rf W.ag Ki.q.L Ki.own hx hy hz (Ne.symm hxy) ((ZAV W k x _).trans ux) ((ZAV W k y _).trans uy) (by rw[et];exact a3) tg du;have f1:=ZEo W k hx hz (t:=t) i;have f2:=ZEo W k hy hz (t:=t+i+1) (m-(i+1));rw[show t+i+1+(m-(i+1))=t+m by omega] at f2;exact(f1.trans sp).trans f2
end
def ZT(x b:Nat)(hs:List Hs):Prop:=(hs.getD b H0).1=1/\(hs.getD x H0).2.2.2.getD b 0=0
variable{s:Sx}
section
variable{e:En}{n x b:Nat}
theorem ZRD{c:Nat}(h0:g.2.2.2.getD v 0=0)(h:v≠c\/ans=true):(ZA2 e c ans g).2.2.2.getD v 0=0:=by
 have st:∀w,v≠c->(g.2.2.2.set c w).getD v 0=0:=λw q=>by rw[ZK,Xn (λu=>q u.1.symm)];exact h0
 have st0:(g.2.2.2.set c 0).getD v 0=0:=by
  rw[ZK]
  split
  .rfl
  .exact h0
 unfold ZA2
 by_cases a:ans=true
 .rw[Xp a]
  exact st0
 .rw[Xn a]
  have q:=h.resolve_right a
  split
  .exact st0
  .split
   .split
    .exact st _ q
    .exact st _ q
   .split
    .exact st _ q
    .exact h0
theorem ZLu:Kpu e n (ZT x b):=⟨λ{a y R} hx hy hxy w ux k=>⟨(ZN (ZAF (e:=e) (R:=R) hxy).up b).trans k.1,ZRJ w hy k.2⟩,λ{a c ans hs} ha hc hac w ua hans k=>by
 refine⟨ZEv.trans k.1,?_⟩;unfold ZAG;rw[ZK]
 split
 .rename_i u
  rw[u.1];refine ZRD k.2 ?_
  by_cases q:b=c
  .exact .inr (hans.mpr (by rw[<-q];exact k.1))
  .exact .inl q
 .exact k.2⟩
theorem ZSO(hag:ZS e.r.cl "again" = true)(hlo:e.lo=[])(q:AQ e.r n R.hs)(hx:x<n)(hb:b<n)(hxb:x≠b)(ux:(R.hs.getD x H0).1=1)(ub:(R.hs.getD b H0).1=1):ZT x b (Zf e x b R).hs:=by
 refine⟨(ZN (Z8 (e:=e) q.L hx hb hxb).up b).trans ub,?_⟩;unfold Zf
 split
 .have hw:=Z4 (e:=e) q.L hx hb hxb
  have w2:=(ZBN (e:=e) q.L λv hv p hp=>(hw v hv p hp).1).1;rw[ZJS hlo q.L hx hb hxb ux ub];show((ZAG e x b true _).getD x H0).2.2.2.getD b 0=0;unfold ZAG ZA2;rw[ZK,Xp ⟨rfl,by rw[w2.len];exact hx⟩,Xp rfl];show(((ZX e (Zc e R.hs x b) R).2.hs.getD x H0).2.2.2.set b 0).getD b 0=0;rw[ZK,Xp ⟨rfl,by rw[(w2.get hx).ml];exact hb⟩]
 .rename_i g
  unfold ZDZ at g
  by_cases t:b=tgF e x
  .rw[Xp t,hag] at g
   exact absurd rfl g
  .rw[Xn t,decide_eq_true_eq] at g
   have:=ZFT (i:=b) (P:=λk:Int=>0<=k/\k<=max 0 e.r.w) (λk hk=>⟨((q.all x hx).ms k hk).1,by have:=((q.all x hx).ms k hk).2;omega⟩) (show(0:Int)<=0/\(0:Int)<=max 0 e.r.w by omega);omega
theorem ZNb(W:WR r ts)(k:QS r ts s)(hx:x<ts.length)(hb:b<ts.length)(hxb:x≠b)(ux:(s.2.getD x H0).1=1)(ub:(s.2.getD b H0).1=1)(tk:ZAH (ts.getD x (0,0)) s.1=true):ZT x b (nxS r ts s q0).2:=by
 have e0:(nxS r ts s q0).2=(ZBr (qE r ts s.1) ⟨s.2,[]⟩).hs:=congrArg Rw.hs ZCR;rw[e0];unfold ZBr;have hw : 0<=r.w:=by have:=W.ru.w;omega
 obtain⟨A,B,eAB⟩:=append_of_mem (List.mem_range.mpr hx);have inR:∀a∈A++x::B,a<ts.length:=λa ha=>by rw[<-eAB] at ha;exact List.mem_range.mp ha
 show ZT x b ((List.range ts.length).foldl (λR a=>ZQ (qE r ts s.1) a R) ⟨s.2,[]⟩).hs;rw[eAB,foldl_append,foldl_cons];have inA:∀a∈A,a<ts.length:=λa ha=>inR a (mem_append_left _ ha)
 have inB:∀a∈B,a<ts.length:=λa ha=>inR a (mem_append_right _ (Xo _ ha))
 have q1:=ZFf (e:=qE r ts s.1) (L:=A) (R:=⟨s.2,[]⟩) W.ru.t.1 hw W.n2 k.q inA;have g1:=ZAa (e:=qE r ts s.1) (n:=ts.length) (f:=λR a=>ZQ (qE r ts s.1) a R) (L:=A) (R:=⟨s.2,[]⟩) k.q.L λa ha R w=>⟨(ZAy (e:=qE r ts s.1) W.ru.o W.n2 w (inA a ha)).1,ZCN (e:=qE r ts s.1) W.ru.o W.n2 w (inA a ha)⟩
 generalize A.foldl (λR a=>ZQ (qE r ts s.1) a R) ⟨s.2,[]⟩=R1 at *
 have ux1:=(ZN g1.up x).trans ux;have ub1:=(ZN g1.up b).trans ub;have e2:ZQ (qE r ts s.1) x R1=(ZBX (qE r ts s.1) x).foldl (λR b=>Zf (qE r ts s.1) x b R) R1:=by
  unfold ZQ ZCP;rw[ux1,show ZAH ((qE r ts s.1).ts.getD x (0,0)) (qE r ts s.1).tn=true from tk,Xp (by decide)];rfl
 rw[e2];obtain⟨C,D,eCD⟩:=append_of_mem (ZJ8 (e:=qE r ts s.1) (a:=x) hb (Ne.symm hxb));have inO:∀c∈C++b::D,c<ts.length/\x≠c:=λc hc=>by rw[<-eCD] at hc;exact Z0 (e:=qE r ts s.1) W.n2 hx hc
 rw[eCD,foldl_append,foldl_cons];have inC:∀c∈C,c<ts.length/\x≠c:=λc hc=>inO c (mem_append_left _ hc)
 have inD:∀c∈D,c<ts.length/\x≠c:=λc hc=>inO c (mem_append_right _ (Xo _ hc))
 have q2:=ZIU (e:=qE r ts s.1) (L:=C) W.ru.t.1 hw hx q1 inC ux1;have g2:=ZAa (e:=qE r ts s.1) (n:=ts.length) (f:=λR b=>Zf (qE r ts s.1) x b R) (L:=C) (R:=R1) q1.L λc hc R w=>⟨(ZAm (e:=qE r ts s.1) W.ru.o w hx (inC c hc).1 (inC c hc).2).1,Z8 (e:=qE r ts s.1) w hx (inC c hc).1 (inC c hc).2⟩
 generalize C.foldl (λR b=>Zf (qE r ts s.1) x b R) R1=R2 at *
 have ux2:=(ZN g2.up x).trans ux1;have ub2:=(ZN g2.up b).trans ub1;have z3:=ZSO (e:=qE r ts s.1) W.ag rfl q2 hx hb hxb ux2 ub2;have q3:=ZI2 (e:=qE r ts s.1) W.ru.t.1 hw q2 hx hb hxb ux2;have ux3:=(ZN (Z8 (e:=qE r ts s.1) q2.L hx hb hxb).up x).trans ux2
 generalize Zf (qE r ts s.1) x b R2=R3 at *
 have z4:=ZE4 (e:=qE r ts s.1) ZLu W.ru.o rfl hx q3.L z3 inD ux3;have q4:=ZIU (e:=qE r ts s.1) (L:=D) W.ru.t.1 hw hx q3 inD ux3;exact ZDM (e:=qE r ts s.1) ZLu W.ru.o rfl W.n2 q4.L z4 inB
theorem ZMG(W:WR r ts)(k:QS r ts s)(hx:x<ts.length)(hb:b<ts.length)(hxb:x≠b)(ux:(s.2.getD x H0).1=1)(ub:(s.2.getD b H0).1=1){t:Nat}(ht : 4<=t):ZT x b (qn r ts s t).2:=by
 have ck:=W.clk hx;obtain⟨τ,a1,a2,a3,_,_⟩:=ZFc ck k.tn (Int.le_refl (tkJ (ts.getD x (0,0)) s.1));have p4:=ck.2.1;rw[show tkJ (ts.getD x (0,0)) s.1-tkJ (ts.getD x (0,0)) s.1+1=1 by omega,mul_one] at a2;obtain⟨i,rfl⟩:∃i:Nat,τ = s.1+(i:Int):=⟨(τ-s.1).toNat,⋯⟩;have z:=ZNb W (k.qn W i) hx hb hxb ((ZAV W k x i).trans ux) ((ZAV W k b i).trans ub) (by rw[ZCq];exact a3);have:=ZBF (t:=i+1) W k (λ_=>ZLu) z (t-(i+1));rw[show i+1+(t-(i+1))=t by omega] at this
 exact this
end
theorem ZJT{a b:Int×Int}(h:leW a b)(k:leW b a):a=b:=by
 unfold leW at h k;exact Prod.ext ⋯ ⋯
theorem ZSJ(a b:Int×Int):leW a b\/leW b a:=by unfold leW;omega
theorem ZIb{α:Type}(f : α->Int×Int):∀{L:List α},L≠[]->∃y∈L,∀x∈L,leW (f x) (f y)
 |[],h=>absurd rfl h
 |[a],_=>⟨a,Xs ..,λx hx=>by rw[List.mem_singleton.mp hx];exact leW.refl⟩
 |a::b::L,_=>by
  obtain⟨y,hy,k⟩:=ZIb f (L:=b::L) (by intro q;cases q);rcases ZSJ (f a) (f y) with h|h
  .exact⟨y,Xo _ hy,λx hx=>by rcases List.mem_cons.mp hx with rfl|hx;exact h;exact k x hx⟩
  .exact⟨a,Xs ..,λx hx=>by rcases List.mem_cons.mp hx with rfl|hx;exact leW.refl;exact(k x hx).trans h⟩
section
variable{cl:List Str}{y:Nat}{o:Int×Int}
theorem ZN5{h:Hs}(hp:p.1=y->leW p.2 o)(ho:h.2.1.getD y (0,0)=o):(ZY cl y h p).2.1.getD y (0,0)=o:=by
 unfold ZY ZCv ZCu
 split
 .rename_i e
  rw [Xn (λ q=>by
   have:=q.2.2;rw[ho,(hp e).ng] at this
   cases this)]
  exact ho
 .rename_i e
  split
  .dsimp only
   rw[ZK,Xn (λu=>e u.1)];exact ho
  .exact ho
theorem ZFx:∀{ns:List (Nat×(Int×Int))} {h:Hs},(∀p∈ns,p.1=y->leW p.2 o)->h.2.1.getD y (0,0)=o->(ZW cl y h ns).2.1.getD y (0,0)=o
 |[],h,_,k=>k
 |q::ns,h,hp,k=>ZFx (ns:=ns) (λp hm=>hp p (Xo _ hm)) (ZN5 (hp q (Xs ..)) k)
end
section
variable{e:En}{n z:Nat}{o:Int×Int}
def DZ(n z:Nat)(o:Int×Int)(hs:List Hs):Prop:=(hs.getD z H0).1=1/\wd hs z z=o/\∀y,y<n->(hs.getD y H0).1=1->leW (wd hs y z) o
theorem ZO0{y:Nat}(w:HsL n R.hs)(hy:y<n)(ho:wd R.hs y y=o)(hx:leW (wd R.hs x y) o):wd (ZH e x y R).2.hs y y=o:=by
 unfold ZH
 split
 .show wd (Zn e x y R.hs) y y=o
  rw[ZDR];exact ho
 .split
  .show wd (Zn e x y R.hs) y y=o
   rw[ZDR];exact ho
  .show wd (Zp e x y R.hs) y y=o
   unfold wd Zp;rw[ZK,Xp ⟨rfl,by unfold Zn;rw[length_set,w.len];exact hy⟩];refine ZFx (λp hp q=>?_) ho;rw[ZBR hp,q];exact hx
theorem ZVr(hc:ZS e.r.cl "newer" = true)(hz:z<n):Kpu e n (DZ n z o):=⟨λ{x y R} hx hy hxy w ux k=>by
 have g:=ZAF (e:=e) (R:=R) hxy;have S:=λi=>ZBv (e:=e) (x:=x) (y:=y) (i:=i) (v:=z) (R:=R) hc w hy
 have own:wd (ZH e x y R).2.hs z z=o:=by
  by_cases q:z=y
  .subst q
   exact ZO0 w hy k.2.1 (k.2.2 x hx ux)
  .rw[(S z).1 q];exact k.2.1
 refine⟨(ZN g.up z).trans k.1,own,λi hi ui=>?_⟩;have ui0:=(ZN g.up i).symm.trans ui
 by_cases q:i=y
 .subst q
  by_cases q2:z=i
  .subst q2
   rw[own];exact leW.refl
  .rcases(S i).2.1 q2 with k1|k1
   .rw[k1];exact k.2.2 i hi ui0
   .rw[k1];exact k.2.2 x hx ux
 .rw[(S i).1 q];exact k.2.2 i hi ui0,λ{a b ans hs} ha hb hab w ua hans k=>by
 have same:∀ i,wd (ZAG e a b ans hs) i z=wd hs i z:=λ i=>(ZJP (e:=e) w ha).1 (by
  by_cases q:z=b
  .exact .inr (hans.mpr (by rw[<-q];exact k.1))
  .exact .inl λr=>q r.2)
 exact⟨ZEv.trans k.1,(same z).trans k.2.1,λi hi ui=>by rw[same];exact k.2.2 i hi (ZEv.symm.trans ui)⟩⟩
end
noncomputable def Zo(n:Nat):Nat:=4*(n*(n-1))
def ZDi(n:Nat):Nat:=2*Zo n+4*(n+8)
section
variable{r:Ru}{ts:Qi}{s:Sx}
def ZNR(n:Nat)(hs:List Hs):List Nat:=(List.range n).filter λi=>decide ((hs.getD i H0).1=1)
theorem ZBx{n:Nat}:i∈ZNR n hs ↔ i<n/\(hs.getD i H0).1=1:=by
 unfold ZNR;rw[List.mem_filter,List.mem_range,decide_eq_true_eq]
theorem ZKd(W:WR r ts)(k:QS r ts s)(hz:z<ts.length)(uz:(s.2.getD z H0).1=1):∃o,∀t,2*Zo ts.length<=t->∀y,y<ts.length->(s.2.getD y H0).1=1->wd (qn r ts s t).2 y z=o:=by
 obtain ⟨y0,hy0,nw⟩:=ZIb (λ y=>wd s.2 y z) (L:=ZNR ts.length s.2) (λ q=>by
  have:z∈ZNR ts.length s.2:=ZBx.mpr ⟨hz,uz⟩;rw[q] at this
  cases this)
 obtain⟨hy1,hy2⟩:=ZBx.mp hy0;have E0:EZ ts.length z (wd s.2 y0 z) s.2:=⟨uz,λy hy uy=>.inl (nw y (ZBx.mpr ⟨hy,uy⟩))⟩;have E1:=ZBF (t:=0) W k (λ_=>ZU1 W.nw hz) E0 (Zo ts.length);rw[zero_add] at E1;have own1:leW (wd s.2 y0 z) (wd (qn r ts s (Zo ts.length)).2 z z):=by
  by_cases q:z=y0
  .subst q
   have:=ZEo W k hz hz (t:=0) (Zo ts.length);rw[zero_add] at this
   exact this
  .have:=ZDV W k hy1 hz hz q hy2 uz (t:=0) (m:=Zo ts.length) (le_refl _)
   rw[zero_add] at this
   exact this
 have D1:DZ ts.length z (wd (qn r ts s (Zo ts.length)).2 z z) (qn r ts s (Zo ts.length)).2:=⟨E1.1,rfl,λy hy uy=>(E1.2 y hy uy).elim (λl=>l.trans own1) id⟩;refine⟨wd (qn r ts s (Zo ts.length)).2 z z,λt ht y hy uy=>?_⟩;have D2:=ZBF (t:=Zo ts.length) W k (λ_=>ZVr W.nw hz) D1 (t-Zo ts.length);rw[show Zo ts.length+(t-Zo ts.length)=t by omega] at D2;refine ZJT (D2.2.2 y hy ((ZAV W k y t).trans uy)) ?_
 by_cases q:y=z
 .subst q
  rw[D2.2.1];exact leW.refl
 .have:=ZDV W k hz hy hz q uz uy (t:=Zo ts.length) (m:=t-Zo ts.length) (by unfold Zo at *;omega)
  rw[show Zo ts.length+(t-Zo ts.length)=t by omega] at this
  exact this
theorem ZF9(W:WR r ts)(k:QS r ts s)(hz:z<ts.length)(dz:(s.2.getD z H0).1=0):∃o:Int×Int,∀t,ZDi ts.length<=t->∀y,y<ts.length->(s.2.getD y H0).1=1->wd (qn r ts s t).2 y z=o/\2<=o.2:=by
 by_cases em:ZNR ts.length s.2=[]
 .exact⟨(0,0),λt _ y hy uy=>by
   have:y∈ZNR ts.length s.2:=ZBx.mpr ⟨hy,uy⟩;rw[em] at this
   cases this⟩
 have n2:=W.n2;have n4:=W.n7;obtain⟨y0,hy0,nw⟩:=ZIb (λy=>wd s.2 y z) em;obtain⟨hy1,hy2⟩:=ZBx.mp hy0;have neq:∀y,(s.2.getD y H0).1=1->z≠y:=λy uy q=>by rw[<-q,dz] at uy;cases uy
 have N0:NZ ts.length z (wd s.2 y0 z).1 s.2:=⟨dz,λy hy uy=>by have:=nw y (ZBx.mpr ⟨hy,uy⟩);unfold leW at this;omega⟩;have Nt:=λt=>ZBF (t:=0) W k (λ_=>ZUo W.nw hz) N0 t
 have num:∀t,Zo ts.length<=t->∀y,y<ts.length->(s.2.getD y H0).1=1->(wd (qn r ts s t).2 y z).1=(wd s.2 y0 z).1:=λt ht y hy uy=>by
  have a:=(Nt t).2 y hy (by rw[zero_add];exact(ZAV W k y t).trans uy);rw[zero_add] at a;have b:leW (wd s.2 y0 z) (wd (qn r ts s t).2 y z):=by
   by_cases q:y=y0
   .subst q
    have:=ZEo W k hy hz (t:=0) t;rw[zero_add] at this
    exact this
   .have:=ZDV W k hy1 hy hz q hy2 uy (t:=0) (m:=t) ht
    rw[zero_add] at this
    exact this
  unfold leW at b;omega
 have inv:∀h,h<ts.length->(s.2.getD h H0).1=1->∀m,ZEl r ts h z (qn r ts s (Zo ts.length)).1 (qn r ts s (Zo ts.length+m)).1 ((qn r ts s (Zo ts.length+m)).2.getD h H0):=by
  intro h hh uh m
  induction m with
  |zero=>exact ZEl.start ((k.qn W _).q.all h hh) (by have:=W.ru.w;omega) n2
  |succ m ih =>
   have Km:=k.qn W (Zo ts.length+m);have S:=ZEl.step (lo:=[]) (fa:=[]) (le:=[]) (co:=[]) W.ru n2 (show ts.length<=8 by omega) W.nw W.ag W.wt (neq h uh) hh hz (W.clk hh) (k.qn W (Zo ts.length)).tn (by rw[ZCq,ZCq];omega) Km.q (λk hk=>by cases hk) (λk hk=>by cases hk) ((ZAV W k h _).trans uh) (by intro q;cases q) (by intro q;cases q) (by intro q;cases q) (by intro q;cases q) (.inl ((ZAV W k z _).trans dz)) ih;rcases S with S|⟨_,S⟩
   .exfalso
    have a:=num (Zo ts.length+m) ⋯ h hh uh;have b:=num (Zo ts.length+(m+1)) ⋯ h hh uh;have S:(wd (qn r ts s (Zo ts.length+m)).2 h z).1<(wd (qn r ts s (Zo ts.length+(m+1))).2 h z).1:=S;omega
   .exact S
 have told:∀t,Zo ts.length+4*(ts.length+8)<=t->∀y,y<ts.length->(s.2.getD y H0).1=1->2<=(wd (qn r ts s t).2 y z).2:=λt ht y hy uy=>by
  have I:=inv y hy uy (t-Zo ts.length);rw[show Zo ts.length+(t-Zo ts.length)=t by omega] at I;have ck:=W.clk hy;have hw:=W.ru.w;refine I.told n2 (show ts.length<=8 by omega) hy hz (neq y uy) ck W.ru.w.1 ?_;rw[ZCq,ZCq];have h1:(ts.getD y (0,0)).1*((ts.length:Int)-1+r.w)<=4*((ts.length:Int)-1+r.w):=Int.mul_le_mul_of_nonneg_right ck.2.1 ⋯;omega
 have base:Zo ts.length+4*(ts.length+8)+Zo ts.length=ZDi ts.length:=by unfold ZDi;omega
 obtain⟨y2,hy2',nw2⟩:=ZIb (λy=>wd (qn r ts s (Zo ts.length+4*(ts.length+8))).2 y z) em;obtain⟨hy3,hy4⟩:=ZBx.mp hy2';have M0:MZ ts.length z (wd (qn r ts s (Zo ts.length+4*(ts.length+8))).2 y2 z) (qn r ts s (Zo ts.length+4*(ts.length+8))).2:=⟨(ZAV W k z _).trans dz,λy hy uy=>by
  have uy0:=(ZAV W k y _).symm.trans uy;exact⟨told _ (le_refl _) y hy uy0,nw2 y (ZBx.mpr ⟨hy,uy0⟩)⟩⟩
 refine⟨wd (qn r ts s (Zo ts.length+4*(ts.length+8))).2 y2 z,λt ht y hy uy=>⟨?_,told _ (le_refl _) y2 hy3 hy4⟩⟩;have M1:=ZBF (t:=Zo ts.length+4*(ts.length+8)) W k (λ_=>ZUF W.nw hz) M0 (t-(Zo ts.length+4*(ts.length+8)));rw[show Zo ts.length+4*(ts.length+8)+(t-(Zo ts.length+4*(ts.length+8)))=t by omega] at M1;refine ZJT (M1.2 y hy ((ZAV W k y t).trans uy)).2 ?_
 by_cases q:y=y2
 .subst q
  have:=ZEo W k hy hz (t:=Zo ts.length+4*(ts.length+8)) (t-(Zo ts.length+4*(ts.length+8)));rw[show Zo ts.length+4*(ts.length+8)+(t-(Zo ts.length+4*(ts.length+8)))=t by omega] at this
  exact this
 .have:=ZDV W k hy3 hy hz q hy4 uy (t:=Zo ts.length+4*(ts.length+8)) (m:=t-(Zo ts.length+4*(ts.length+8))) (by unfold Zo at *;omega)
  rw[show Zo ts.length+4*(ts.length+8)+(t-(Zo ts.length+4*(ts.length+8)))=t by omega] at this
  exact this
end
structure QF (n:Nat) (hs:List Hs):Prop where
 eq:∀x y v,x<n->y<n->v<n->(hs.getD x H0).1=1->(hs.getD y H0).1=1->wd hs x v=wd hs y v
 dn:∀x z,x<n->z<n->(hs.getD x H0).1=1->(hs.getD z H0).1=0->2<=(wd hs x z).2
 tm:∀x b,x<n->b<n->x≠b->(hs.getD x H0).1=1->(hs.getD b H0).1=1->(hs.getD x H0).2.2.2.getD b 0=0
structure SameT (n:Nat) (a b:List Hs):Prop where
 up:∀i,(b.getD i H0).1=(a.getD i H0).1
 bk:∀i,(b.getD i H0).2.1=(a.getD i H0).2.1
 tm:∀i,(b.getD i H0).2.2.2=(a.getD i H0).2.2.2
 td:∀i v,(a.getD i H0).2.2.1.getD v 0<=(b.getD i H0).2.2.1.getD v 0
 dn:∀i,(a.getD i H0).1≠1->b.getD i H0=a.getD i H0
theorem SameT.rf{n:Nat}{a:List Hs}:SameT n a a:=⟨λ_=>rfl,λ_=>rfl,λ_=>rfl,λ_ _=>Int.le_refl _,λ_ _=>rfl⟩
theorem SameT.tr{n:Nat}{a b c:List Hs}(h:SameT n a b)(k:SameT n b c):SameT n a c:=⟨λi=>(k.up i).trans (h.up i),λi=>(k.bk i).trans (h.bk i),λi=>(k.tm i).trans (h.tm i),λi v=>Int.le_trans (h.td i v) (k.td i v),λi q=>(k.dn i (by rw[h.up i];exact q)).trans (h.dn i q)⟩
theorem SameT.qf{n:Nat}{a b:List Hs}(h:SameT n a b)(k:QF n a):QF n b:=by
 have W:∀i v,wd b i v=wd a i v:=λi v=>by unfold wd;rw[h.bk i]
 exact⟨λx y v hx hy hv ux uy=>by rw[W,W];exact k.eq x y v hx hy hv ((h.up x).symm.trans ux) ((h.up y).symm.trans uy),λx z hx hz ux uz=>by rw[W];exact k.dn x z hx hz ((h.up x).symm.trans ux) ((h.up z).symm.trans uz),λx c hx hc hxc ux uc=>by rw[h.tm x];exact k.tm x c hx hc hxc ((h.up x).symm.trans ux) ((h.up c).symm.trans uc)⟩
section
variable{cl:List Str}{y:Nat}
theorem ZON{h:Hs}(hc:ZS cl "newer" = true)(hp:p.2=h.2.1.getD p.1 (0,0)):ZY cl y h p=h:=by
 unfold ZY ZCv ZCu
 split
 .rename_i e
  rw [Xn (λ q=>by
   have:=q.2.2;rw[hp,e,ZEK] at this
   cases this)]
 .rw [Xn (λ q=>by
   unfold ZCl at q;rw[Xp hc,hp,ZEK] at q;cases q)]
theorem ZDv(hc:ZS cl "newer" = true):∀{ns:List (Nat×(Int×Int))} {h:Hs},(∀p∈ns,p.2=h.2.1.getD p.1 (0,0))->ZW cl y h ns=h
 |[],h,_=>rfl
 |q::ns,h,hp=>by
  show ZW cl y (ZY cl y h q) ns=h;rw[ZON hc (hp q (Xs ..))];exact ZDv hc λp hm=>hp p (Xo _ hm)
end
theorem ZCT:∀{news told:List Int} {v:Nat},told.getD v 0<=(Z9 told news).getD v 0
 |[],told,v=>Int.le_refl _
 |k::news,told,v=>by
  refine Int.le_trans ?_ (ZCT (news:=news) (told:=told.set k.toNat (told.getD k.toNat 0+1)));rw[ZK]
  split
  .rename_i u
   rw[u.1];omega
  .exact Int.le_refl _
theorem ZGq{book:Qi}{due news:List Int}(h:p∈ZAO book due news m):p.1<m:=by
 unfold ZAO at h;obtain⟨j,hj,rfl⟩:=List.mem_map.mp h;exact List.mem_range.mp (List.mem_filter.mp hj).1
theorem ZNd{l:List Int}(h:l.getD b 0=0):l.set b 0=l:=by
 by_cases q:b<l.length
 .rw[Xq,getElem?_eq_getElem q] at h
  have h:l[b]=0:=h;rw[<-h];exact List.set_getElem_self q
 .exact List.set_eq_of_length_le ⋯
section
variable{e:En}{n:Nat}{a:List Hs}
theorem ZSX{y:Nat}(ux:(hs.getD x H0).1=1):SameT n hs (Zn e x y hs):=by
 have M:∀i,(Zn e x y hs).getD i H0=if x=i/\i<hs.length then ((hs.getD x H0).1,(hs.getD x H0).2.1,Z9 (hs.getD x H0).2.2.1 (ZBS e (hs.getD x H0) x y),(hs.getD x H0).2.2.2) else hs.getD i H0:=λi=>by
  unfold Zn;rw[ZK]
 refine⟨λi=>?_,λi=>?_,λi=>?_,λi v=>?_,λi q=>?_⟩
 .rw[M];split
  .rename_i u;rw[u.1]
  .rfl
 .rw[M];split
  .rename_i u;rw[u.1]
  .rfl
 .rw[M];split
  .rename_i u;rw[u.1]
  .rfl
 .rw[M];split
  .rename_i u;rw[u.1];exact ZCT
  .exact Int.le_refl _
 .rw[M,Xn (λu=>q (by rw[<-u.1];exact ux))]
theorem ZIN{y:Nat}(hc:ZS e.r.cl "newer" = true)(hn:e.ts.length=n)(hx:x<n)(hy:y<n)(hxy:x≠y)(w:HsL n R.hs)(ux:(R.hs.getD x H0).1=1)(Q:QF n R.hs):SameT n R.hs (ZH e x y R).2.hs/\(ZH e x y R).2.hs.getD x H0=(Zn e x y R.hs).getD x H0:=by
 have m:=ZSX (e:=e) (n:=n) (x:=x) (y:=y) ux;unfold ZH
 split
 .exact⟨m,rfl⟩
 .split
  .exact⟨m,rfl⟩
  .rename_i uy0
   have uy:=(ZLc w hy).resolve_left uy0;have tk:ZW e.r.cl y (R.hs.getD y H0) (ZAO (R.hs.getD x H0).2.1 (ZAf e x y) (ZBS e (R.hs.getD x H0) x y) e.ts.length)=R.hs.getD y H0:=ZDv hc λp hp=>by
    rw[ZBR hp];exact Q.eq x y p.1 hx hy (by rw[<-hn];exact ZGq hp) ux uy
   have my:(Zn e x y R.hs).getD y H0=R.hs.getD y H0:=by
    unfold Zn;rw[ZK,Xn (λu=>hxy u.1)]
   have C:∀i,(Zp e x y R.hs).getD i H0=(Zn e x y R.hs).getD i H0:=λi=>by
    unfold Zp;rw[ZK,tk]
    split
    .rename_i u
     rw[<-u.1,my]
    .rfl
   show SameT n R.hs (Zp e x y R.hs)/\(Zp e x y R.hs).getD x H0=_;exact⟨⟨λi=>by rw[C];exact m.up i,λi=>by rw[C];exact m.bk i,λi=>by rw[C];exact m.tm i,λi v=>by rw[C];exact m.td i v,λi q=>by rw[C];exact m.dn i q⟩,C x⟩
theorem ZOf{c:Nat}(ha:c<n)(hb:b<n)(hab:c≠b)(w:HsL n hs)(ua:(hs.getD c H0).1=1)(hans:ans=true ↔ (hs.getD b H0).1=1)(Q:QF n hs):ZAG e c b ans hs=hs:=by
 have J:ZA2 e b ans (hs.getD c H0)=hs.getD c H0:=by
  unfold ZA2
  by_cases q:ans=true
  .rw[Xp q,ZNd (Q.tm c b ha hb hab ua (hans.mp q))]
  .rw[Xn q]
   have d:=(ZLc w hb).resolve_right λu=>q (hans.mpr u)
   have mk:=Q.dn c b ha hb ua d;have ab:abF (hs.getD c H0).2.1 b=false:=by
    unfold abF;have : ¬((hs.getD c H0).2.1.getD b (0,0)).2<2:=by
     have mk : 2<=((hs.getD c H0).2.1.getD b (0,0)).2:=mk;omega
    exact decide_eq_false this
   rw[ab];rfl
 unfold ZAG;rw[J];have hl:c<hs.length:=by rw[w.len];exact ha
 rw[Xq,getElem?_eq_getElem hl];exact List.set_getElem_self hl
theorem ZEz(hc:ZS e.r.cl "newer" = true)(hn:e.ts.length=n)(Q:QF n a):Kpu e n (SameT n a):=⟨λ{x y R} hx hy hxy w ux k=>k.tr (ZIN hc hn hx hy hxy w ux (k.qf Q)).1,λ{c b ans hs} ha hb hab w ua hans k=>by rw[ZOf ha hb hab w ua hans (k.qf Q)];exact k⟩
end
theorem ZJ6:∀{news told:List Int} {v:Nat},(v:Int)∈news->v<told.length->told.getD v 0<(Z9 told news).getD v 0
 |[],told,v,h,_=>by cases h
 |k::news,told,v,h,hv=>by
  show told.getD v 0<(Z9 (told.set k.toNat (told.getD k.toNat 0+1)) news).getD v 0;have m:=ZCT (news:=news) (told:=told.set k.toNat (told.getD k.toNat 0+1)) (v:=v)
  by_cases q:k=(v:Int)
  .subst q
   rw[toNat_natCast] at m ⊢;rw[ZK,Xp ⟨rfl,hv⟩] at m;omega
  .have h2:=(List.mem_cons.mp h).resolve_left λe=>q e.symm
   have i:=ZJ6 (news:=news) (told:=told.set k.toNat (told.getD k.toNat 0+1)) (v:=v) h2 (by rw[length_set];exact hv);have:told.getD v 0<=(told.set k.toNat (told.getD k.toNat 0+1)).getD v 0:=by
    rw[ZK]
    split
    .rename_i u
     rw[u.1];omega
    .exact Int.le_refl _
   omega
section
variable{e:En}{n:Nat}
theorem ZSg{y:Nat}(hc:ZS e.r.cl "newer" = true)(hag:ZS e.r.cl "again" = true)(hn:e.ts.length=n)(hlo:e.lo=[])(w:HsL n R.hs)(Q:QF n R.hs)(hh:h<n)(hy:y<n)(hhy:h≠y)(uh:(R.hs.getD h H0).1=1)(ht:y=tgF e h):SameT n (ZH e h y R).2.hs (Zf e h y R).hs:=by
 have S:=ZIN (e:=e) hc hn hh hy hhy w uh Q;have K:=ZEz (e:=e) (n:=n) (a:=(ZH e h y R).2.hs) hc hn (S.1.qf Q);have wS:=ZAv (e:=e) w hh hy;have hw:=Z4 (e:=e) w hh hy hhy;have gS:=ZAF (e:=e) (R:=R) hhy;have ew:SameT n (ZH e h y R).2.hs (Zu e [(h,y),(y,h)] R).2.hs/\HsL n (Zu e [(h,y),(y,h)] R).2.hs/\((Zu e [(h,y),(y,h)] R).2.hs.getD h H0).1=1:=by
  have g0:∀p∈[(h,y),(y,h)],(p.1<n/\p.2<n)/\p.1≠p.2:=λp hp=>by
   rcases List.mem_cons.mp hp with rfl|hp
   .exact⟨⟨hh,hy⟩,hhy⟩
   .rw[List.mem_singleton.mp hp]
    exact⟨⟨hy,hh⟩,Ne.symm hhy⟩
  refine⟨?_,(ZCi (e:=e) w λp hp=>(g0 p hp).1).1,(ZN (ZDF (e:=e) λp hp=>(g0 p hp).2).up h).trans uh⟩;rw[Zu]
  split
  .rename_i t
   exact ZQv K (a:=y) ⟨rfl,trivial⟩ ((ZN gS.up y).trans (ZMM w hy t)) wS SameT.rf λp hp=>g0 p (Xo _ hp)
  .exact SameT.rf
 have eq:∃ws,Zc e R.hs h y=[(h,y),(y,h)]::ws/\(∀l∈ws,∀p∈l,(p.1<n/\p.2<n)/\p.1≠p.2)/\∀l∈ws,Chn h l:=⟨_,rfl,λl hl=>hw l (Xo _ hl),λl hl=>ZEc (e:=e) (hs:=R.hs) (b:=y) l (Xo _ hl)⟩;have A:SameT n (ZH e h y R).2.hs (ZX e (Zc e R.hs h y) R).2.hs:=by
  obtain⟨ws,eq,h1,h2⟩:=eq;rw[eq,ZX]
  split
  .exact ew.1
  .exact ZJR K h2 ew.2.2 ew.2.1 ew.1 h1
 unfold Zf;rw[Xp (by unfold ZDZ;rw[Xp ht,hag];rfl)];have g:=ZA6 (e:=e) (ws:=Zc e R.hs h y) (R:=R) λv hv p hp=>(hw v hv p hp).2
 refine K.jud hh hy hhy (ZBN w λv hv p hp=>(hw v hv p hp).1).1 ((ZN g.up h).trans uh) ?_ A;rw[ZN g.up y];refine⟨λt=>?_,λu=>ZJS hlo w hh hy hhy uh u⟩;apply Classical.byContradiction;intro q;have d0:=(ZLc w hy).resolve_right q;rw[ZDN (e:=e) (z:=y) (ws:=Zc e R.hs h y) (R:=R) (λl hl p hp=>(hw l hl p hp).2) ZGf d0] at t;cases t
end
section
variable{r:Ru}{ts:Qi}{s:Sx}
theorem nx_ST(W:WR r ts)(k:QS r ts s)(Q:QF ts.length s.2):SameT ts.length s.2 (nxS r ts s q0).2:=ZMw (ZEz W.nw rfl Q) W.ru.o W.n2 k.q.L SameT.rf
theorem ZBu(W:WR r ts)(k:QS r ts s){t:Nat}(Q:QF ts.length (qn r ts s t).2):∀m,SameT ts.length (qn r ts s t).2 (qn r ts s (t+m)).2:=λm=>ZBF W k (λ_=>ZEz W.nw rfl Q) SameT.rf m
theorem qf_at(W:WR r ts)(k:QS r ts s){t:Nat}(ht:ZDi ts.length<=t):QF ts.length (qn r ts s t).2:=by
 have U:=λi=>ZAV W k i t
 have b2 : 2*Zo ts.length<=t:=by unfold ZDi at ht;omega
 have b4 : 4<=t:=by unfold ZDi at ht;omega
 refine⟨λx y v hx hy hv ux uy=>?_,λx z hx hz ux uz=>?_,λx b hx hb hxb ux ub=>?_⟩
 .rcases ZLc k.q.L hv with dv|uv
  .obtain⟨o,h⟩:=ZF9 W k hv dv
   rw[(h t ht x hx ((U x).symm.trans ux)).1,(h t ht y hy ((U y).symm.trans uy)).1]
  .obtain⟨o,h⟩:=ZKd W k hv uv
   rw[h t b2 x hx ((U x).symm.trans ux),h t b2 y hy ((U y).symm.trans uy)]
 .obtain⟨o,h⟩:=ZF9 W k hz ((U z).symm.trans uz)
  have:=h t ht x hx ((U x).symm.trans ux);rw[this.1];exact this.2
 .exact(ZMG W k hx hb hxb ((U x).symm.trans ux) ((U b).symm.trans ub) b4).2
theorem ZHn(W:WR r ts)(k:QS r ts s)(Q:QF ts.length s.2)(hh:h<ts.length)(hv:v<ts.length)(hvh:v≠h)(uh:(s.2.getD h H0).1=1)(tk:ZAH (ts.getD h (0,0)) s.1=true)(c1 : 1<=r.c)(lt:(s.2.getD h H0).2.2.1.getD v 0<r.t)(nd:(v:Int)∉ZAf (qE r ts s.1) h (tgF (qE r ts s.1) h)):∃u,u<ts.length/\u≠h/\(s.2.getD h H0).2.2.1.getD u 0<((nxS r ts s q0).2.getD h H0).2.2.1.getD u 0:=by
 have e0:(nxS r ts s q0).2=(ZBr (qE r ts s.1) ⟨s.2,[]⟩).hs:=congrArg Rw.hs ZCR;rw[e0];unfold ZBr;have hw : 0<=r.w:=by have:=W.ru.w;omega
 obtain⟨A,B,eAB⟩:=append_of_mem (List.mem_range.mpr hh);have inR:∀a∈A++h::B,a<ts.length:=λa ha=>by rw[<-eAB] at ha;exact List.mem_range.mp ha
 show ∃u,u<ts.length/\u≠h/\_<(((List.range ts.length).foldl (λR a=>ZQ (qE r ts s.1) a R) ⟨s.2,[]⟩).hs.getD h H0).2.2.1.getD u 0;rw[eAB,foldl_append,foldl_cons];have inA:∀a∈A,a<ts.length:=λa ha=>inR a (mem_append_left _ ha)
 have inB:∀a∈B,a<ts.length:=λa ha=>inR a (mem_append_right _ (Xo _ ha))
 have q1:=ZFf (e:=qE r ts s.1) (L:=A) (R:=⟨s.2,[]⟩) W.ru.t.1 hw W.n2 k.q inA;have t1:SameT ts.length s.2 (A.foldl (λR a=>ZQ (qE r ts s.1) a R) ⟨s.2,[]⟩).hs:=ZDM (e:=qE r ts s.1) (R:=⟨s.2,[]⟩) (ZEz (e:=qE r ts s.1) W.nw rfl Q) W.ru.o rfl W.n2 k.q.L SameT.rf inA
 generalize A.foldl (λR a=>ZQ (qE r ts s.1) a R) ⟨s.2,[]⟩=R1 at *
 have ux1:=(t1.up h).trans uh;have Q1:=t1.qf Q;have tgin:=Z0 (e:=qE r ts s.1) (a:=h) (b:=tgF (qE r ts s.1) h) W.n2 hh (Xs ..);have e2:ZQ (qE r ts s.1) h R1=((List.range ts.length).filter λb=>!decide (b=h) && !decide (b=tgF (qE r ts s.1) h)).foldl (λR b=>Zf (qE r ts s.1) h b R) (Zf (qE r ts s.1) h (tgF (qE r ts s.1) h) R1):=by
  unfold ZQ ZCP;rw[ux1,show ZAH ((qE r ts s.1).ts.getD h (0,0)) (qE r ts s.1).tn=true from tk,Xp (by decide)];rfl
 rw[e2];have S:=ZIN (e:=qE r ts s.1) W.nw rfl hh tgin.1 tgin.2 q1.L ux1 Q1;have a2:=ZSg (e:=qE r ts s.1) W.nw W.ag rfl rfl q1.L Q1 hh tgin.1 tgin.2 ux1 rfl;have Q2:=a2.qf (S.1.qf Q1);have w2:=(ZAm (e:=qE r ts s.1) W.ru.o q1.L hh tgin.1 tgin.2).1;have ux2:=(a2.up h).trans ((S.1.up h).trans ux1);have hm:((ZH (qE r ts s.1) h (tgF (qE r ts s.1) h) R1).2.hs.getD h H0).2.2.1=Z9 (R1.hs.getD h H0).2.2.1 (ZBS (qE r ts s.1) (R1.hs.getD h H0) h (tgF (qE r ts s.1) h)):=by
  rw[S.2];unfold Zn;rw[ZK,Xp ⟨rfl,by rw[q1.len];exact hh⟩]
 generalize Zf (qE r ts s.1) h (tgF (qE r ts s.1) h) R1=R2 at *
 have inD:∀c∈(List.range ts.length).filter λb=>!decide (b=h) && !decide (b=tgF (qE r ts s.1) h),c<ts.length/\h≠c:=λc hc=>Z0 (e:=qE r ts s.1) W.n2 hh (Xo _ hc)
 generalize ((List.range ts.length).filter λb=>!decide (b=h) && !decide (b=tgF (qE r ts s.1) h))=D at *
 have t3:SameT ts.length R2.hs (D.foldl (λR b=>Zf (qE r ts s.1) h b R) R2).hs:=ZE4 (e:=qE r ts s.1) (ZEz (e:=qE r ts s.1) W.nw rfl Q2) W.ru.o rfl hh w2 SameT.rf inD ux2;have w3:=(ZAk (f:=λ(R:Rw) (b:Nat)=>Zf (qE r ts s.1) h b R) (n:=ts.length) (m:=14) (L:=D) (R:=R2) w2 λc hc R w=>ZAm (e:=qE r ts s.1) W.ru.o w hh (inD c hc).1 (inD c hc).2).1;have Q3:=t3.qf Q2
 generalize D.foldl (λR b=>Zf (qE r ts s.1) h b R) R2=R3 at *
 have t4:SameT ts.length R3.hs (B.foldl (λR a=>ZQ (qE r ts s.1) a R) R3).hs:=ZDM (e:=qE r ts s.1) (ZEz (e:=qE r ts s.1) W.nw rfl Q3) W.ru.o rfl W.n2 w3 SameT.rf inB;have tt:=a2.tr (t3.tr t4);have m1:=t1.td h;have m2:=tt.td h
 by_cases c:(R1.hs.getD h H0).2.2.1.getD v 0<r.t
 .have N:=ZK6 r (R1.hs.getD h H0).2.2.1 h (ZAf (qE r ts s.1) h (tgF (qE r ts s.1) h))
  have tl:=(q1.all h hh).tl;have hu:∃u:Nat,(u:Int)∈ZBS (qE r ts s.1) (R1.hs.getD h H0) h (tgF (qE r ts s.1) h)/\u<ts.length/\u≠h:=by
   show ∃u:Nat,(u:Int)∈ZAw r (R1.hs.getD h H0).2.2.1 h (ZAf (qE r ts s.1) h (tgF (qE r ts s.1) h))/\_
   by_cases l:(ZAw r (R1.hs.getD h H0).2.2.1 h (ZAf (qE r ts s.1) h (tgF (qE r ts s.1) h))).length<r.c.toNat
   .exact⟨v,N.all l v (by rw[tl];exact hv) c hvh nd,hv,hvh⟩
   .generalize ZAw r (R1.hs.getD h H0).2.2.1 h (ZAf (qE r ts s.1) h (tgF (qE r ts s.1) h))=L at *
    cases L with
    |nil=>exact absurd (show([]:List Int).length<r.c.toNat by show 0<r.c.toNat;omega) l
    |cons a L =>
     obtain⟨u,e1,e2,_,e4,_⟩:=N.mem a (Xs ..);exact⟨u,by rw[<-e1];exact Xs ..,by rw[<-tl];exact e2,e4⟩
  obtain⟨u,u1,u2,u3⟩:=hu;have g:=ZJ6 (told:=(R1.hs.getD h H0).2.2.1) u1 (by rw[tl];exact u2);rw[<-hm] at g;have a:=m1 u;have b:=m2 u;exact⟨u,u2,u3,⋯⟩
 .have a:=m2 v
  have b:=S.1.td h v;exact⟨v,hv,hvh,⋯⟩
end
theorem ZOb{n:Nat}{b a:Int}(n3 : 3<=n)(n4:n<=4)(ha : 0<=a/\a<(n:Int)-1)(hv:v<n):∃j,b<=j/\j<b+(7-(n:Int))/\j % ((n:Int)-1)≠a/\(j+1) % (n:Int)≠(v:Int):=by
 have hn:n=3\/n=4:=⋯
 apply Classical.byContradiction;intro q;have q:∀j,b<=j->j<b+(7-(n:Int))->j % ((n:Int)-1)=a\/(j+1) % (n:Int)=(v:Int):=λj h1 h2=>by
  apply Classical.byContradiction;intro r;exact q ⟨j,h1,h2,λe=>r (.inl e),λe=>r (.inr e)⟩
 rcases hn with rfl|rfl
 .have h0:=q b ⋯ ⋯
  have h1:=q (b+1) ⋯ ⋯;have h2:=q (b+2) ⋯ ⋯;have h3:=q (b+3) ⋯ ⋯;clear q;omega
 .have h0:=q b ⋯ ⋯
  have h1:=q (b+1) ⋯ ⋯;have h2:=q (b+2) ⋯ ⋯;clear q;omega
def lfQ(r:Ru)(n h v:Nat)(hs:List Hs):Nat:=if v<n/\v≠h then (r.t-(hs.getD h H0).2.2.1.getD v 0).toNat else 0
def lf4(r:Ru)(n h:Nat)(hs:List Hs):Nat:=lfQ r n h 0 hs+lfQ r n h 1 hs+lfQ r n h 2 hs+lfQ r n h 3 hs
variable{u:Nat}
section
variable{r:Ru}{ts:Qi}{s:Sx}{n h:Nat}
theorem ZBJ{a b:List Hs}(k:SameT n a b):lfQ r n h v b<=lfQ r n h v a:=by
 unfold lfQ;have:=k.td h v
 split <;> omega
theorem ZEA{a b:List Hs}(k:SameT n a b):lf4 r n h b<=lf4 r n h a:=by
 unfold lf4;have h0:=ZBJ (r:=r) (h:=h) k (v:=0);have h1:=ZBJ (r:=r) (h:=h) k (v:=1);have h2:=ZBJ (r:=r) (h:=h) k (v:=2);have h3:=ZBJ (r:=r) (h:=h) k (v:=3);omega
theorem ZPj{a b:List Hs}(k:SameT n a b)(n4:n<=4)(hu:u<n)(huh:u≠h)(g:(a.getD h H0).2.2.1.getD u 0<(b.getD h H0).2.2.1.getD u 0)(bd:(b.getD h H0).2.2.1.getD u 0<=r.t):lf4 r n h b<lf4 r n h a:=by
 have st:lfQ r n h u b<lfQ r n h u a:=by
  unfold lfQ;rw[Xp ⟨hu,huh⟩,Xp ⟨hu,huh⟩];omega
 unfold lf4;have h0:=ZBJ (r:=r) (h:=h) k (v:=0);have h1:=ZBJ (r:=r) (h:=h) k (v:=1);have h2:=ZBJ (r:=r) (h:=h) k (v:=2);have h3:=ZBJ (r:=r) (h:=h) k (v:=3);have hu4:u=0\/u=1\/u=2\/u=3:=⋯
 rcases hu4 with rfl|rfl|rfl|rfl <;> omega
theorem ZIe(k:QS r ts s)(hh:h<ts.length)(v:Nat)(r0 : 0<=r.t) : 0<=(s.2.getD h H0).2.2.1.getD v 0/\(s.2.getD h H0).2.2.1.getD v 0<=r.t:=ZFT (P:=λk:Int=>0<=k/\k<=r.t) (k.q.all h hh).ts ⟨Int.le_refl _,r0⟩
noncomputable def inQ(n h v:Nat):Nat:=if v<n/\v≠h then 1 else 0
theorem ZR0:∀n,n<5->∀h,h<n->inQ n h 0+inQ n h 1+inQ n h 2+inQ n h 3=n-1:=by decide
theorem ZUE(k:QS r ts s)(R:RuOk r)(n2 : 2<=ts.length)(n4:ts.length<=4)(hh:h<ts.length):lf4 r ts.length h s.2<=9*(ts.length-1):=by
 have t:=R.t;have c:∀v,lfQ r ts.length h v s.2<=9*inQ ts.length h v:=λv=>by
  have:=(ZIe k hh v t.1).1;unfold lfQ inQ
  split <;> omega
 rw[<-ZR0 _ (Nat.lt_succ_of_le n4) h hh,Nat.mul_add,Nat.mul_add,Nat.mul_add];exact add_le_add (add_le_add (add_le_add (c 0) (c 1)) (c 2)) (c 3)
theorem ZPM(z:lf4 r n h s.2=0)(n4:n<=4)(hv:v<n)(hvh:v≠h):r.t<=(s.2.getD h H0).2.2.1.getD v 0:=by
 have:lfQ r n h v s.2=0:=by
  unfold lf4 at z;have hu4:v=0\/v=1\/v=2\/v=3:=⋯
  rcases hu4 with rfl|rfl|rfl|rfl <;> omega
 unfold lfQ at this
 rw[Xp ⟨hv,hvh⟩] at this
 omega
theorem ZTJ(z:lf4 r n h s.2≠0):∃v,v<n/\v≠h/\(s.2.getD h H0).2.2.1.getD v 0<r.t:=by
 have one:∀v,lfQ r n h v s.2≠0->∃v,v<n/\v≠h/\(s.2.getD h H0).2.2.1.getD v 0<r.t:=λv q=>by
  unfold lfQ at q
  split at q
  .rename_i u
   exact⟨v,u.1,u.2,⋯⟩
  .exact absurd rfl q
 by_cases a:lfQ r n h 0 s.2=0
 .by_cases b:lfQ r n h 1 s.2=0
  .by_cases c:lfQ r n h 2 s.2=0
   .refine one 3 λd=>z ?_
    unfold lf4;omega
   .exact one 2 c
  .exact one 1 b
 .exact one 0 a
theorem ZVU(n4:ts.length<=4)(W:WR r ts)(k:QS r ts s)(Q:QF ts.length s.2)(n3 : 3<=ts.length)(hh:h<ts.length)(uh:(s.2.getD h H0).1=1)(c1 : 1<=r.c)(z:lf4 r ts.length h s.2≠0):lf4 r ts.length h (qn r ts s (4*(7-ts.length))).2<lf4 r ts.length h s.2:=by
 obtain⟨v,hv,hvh,lt⟩:=ZTJ z;have ck:=W.clk hh;obtain⟨j,j1,j2,j3,j4⟩:=ZOb (n:=ts.length) (v:=v) (b:=tkJ (ts.getD h (0,0)) s.1) (a:=rsQ ts.length h v) n3 n4 (ZIp hh hv hvh) hv;obtain⟨τ,a1,a2,a3,a4,a5⟩:=ZFc ck k.tn j1;obtain⟨i,rfl⟩:∃i:Nat,τ = s.1+(i:Int):=⟨(τ-s.1).toNat,⋯⟩;have p4:=ck.2.1;have p1:=ck.1;have bd:(ts.getD h (0,0)).1*(j-tkJ (ts.getD h (0,0)) s.1+1)<=4*(7-(ts.length:Int)):=Int.le_trans (Int.mul_le_mul_of_nonneg_right p4 ⋯) (Int.mul_le_mul_of_nonneg_left ⋯ (by decide));have him:i+1<=4*(7-ts.length):=⋯
 have Ki:=k.qn W i;have T0:=ZBu (t:=0) W k Q i;rw[zero_add] at T0;have T0:SameT ts.length s.2 (qn r ts s i).2:=T0;have Qi:=T0.qf Q;have T2:=ZBu (t:=i+1) W k (ZBu (t:=0) W k Q (i+1) |>.qf Q |> λx=>by rw[zero_add] at x;exact x) (4*(7-ts.length)-(i+1));rw[show i+1+(4*(7-ts.length)-(i+1))=4*(7-ts.length) by omega] at T2;have m2:=ZEA (r:=r) (h:=h) T2;have m0:=ZEA (r:=r) (h:=h) T0
 by_cases lt2:((qn r ts s i).2.getD h H0).2.2.1.getD v 0<r.t
 .have et:(qn r ts s i).1=s.1+(i:Int):=ZCq i
  have tk:ZAH (ts.getD h (0,0)) (qn r ts s i).1=true:=by rw[et];exact a3
  have tg:v ≠ tgF (qE r ts (qn r ts s i).1) h:=λ q=>j3 (by
   have:=(ZIZ (e:=qE r ts (qn r ts s i).1) W.n2 (show ts.length<=8 by omega) hh hv hvh ck tk).mp q;have:tkJ (ts.getD h (0,0)) (qn r ts s i).1 % ((ts.length:Int)-1)=rsQ ts.length h v:=this
   rw[et,a4] at this
   exact this)
  have nd:(v:Int)∉ZAf (qE r ts (qn r ts s i).1) h (tgF (qE r ts (qn r ts s i).1) h):=by
   unfold ZAf ZAg;show(v:Int)∉(((tgF (qE r ts (qn r ts s i).1) h:Nat):Int)::if ZS r.cl "own" = true then [(h:Int)] else [])++if ZS r.cl "about" = true/\ZAE (ts.getD h (0,0)) (qn r ts s i).1 % ((ts.length:Nat):Int)≠(h:Int) then [ZAE (ts.getD h (0,0)) (qn r ts s i).1 % ((ts.length:Nat):Int)] else []
   rw[Xp W.ow,et,a5];intro q;rcases List.mem_append.mp q with q|q
   .rcases List.mem_cons.mp q with q|q
    .rw[<-et] at q
     exact tg ⋯
    .have:=List.mem_singleton.mp q
     omega
   .split at q
    .exact j4 (List.mem_singleton.mp q).symm
    .cases q
  obtain⟨u,u1,u2,u3⟩:=ZHn W Ki Qi hh hv hvh ((ZAV W k h i).trans uh) tk c1 lt2 nd;have:=ZPj (r:=r) (nx_ST W Ki Qi) n4 u1 u2 u3 (ZIe (k.qn W (i+1)) hh u W.ru.t.1).2;have:lf4 r ts.length h (qn r ts s (i+1)).2<lf4 r ts.length h (qn r ts s i).2:=this
  omega
 .have:=ZPj (r:=r) T0 n4 hv hvh ⋯ (ZIe Ki hh v W.ru.t.1).2
  have m1:=ZEA (r:=r) (h:=h) (ZBu W k Qi 1);have m1:lf4 r ts.length h (qn r ts s (i+1)).2<=_:=m1;omega
def NoN(r:Ru)(n:Nat)(hs:List Hs):Prop:=n=2\/r.c=0\/∀h v,h<n->(hs.getD h H0).1=1->v<n->v≠h->r.t<=(hs.getD h H0).2.2.1.getD v 0
theorem ZNC(n4:ts.length<=4)(W:WR r ts)(k:QS r ts s)(Q:QF ts.length s.2)(n3 : 3<=ts.length)(hh:h<ts.length)(uh:(s.2.getD h H0).1=1)(c1 : 1<=r.c):∀i,lf4 r ts.length h (qn r ts s (4*(7-ts.length)*i)).2=0\/lf4 r ts.length h (qn r ts s (4*(7-ts.length)*i)).2+i<=9*(ts.length-1)
 |0=>.inr (by have:=ZUE k W.ru W.n2 n4 hh;rw[Nat.mul_zero];exact this)
 |i+1=>by
  have ih:=ZNC n4 W k Q n3 hh uh c1 i;have T:=ZBu (t:=0) W k Q (4*(7-ts.length)*i);rw[zero_add] at T;have Qi:=T.qf Q;have Ki:=k.qn W (4*(7-ts.length)*i);rw[mul_succ,ZG4]
  by_cases z:lf4 r ts.length h (qn r ts s (4*(7-ts.length)*i)).2=0
  .left
   have:=ZBu (t:=0) W Ki Qi (4*(7-ts.length));rw[zero_add] at this
   have:=ZEA (r:=r) (h:=h) this
   have:lf4 r ts.length h _<=lf4 r ts.length h (qn r ts s (4*(7-ts.length)*i)).2:=this
   omega
  .right
   have:=ZVU n4 W Ki Qi n3 hh ((ZAV W k h _).trans uh) c1 z;rcases ih with ih|ih <;> omega
theorem ZVM(n4:ts.length<=4)(W:WR r ts)(k:QS r ts s)(Q:QF ts.length s.2):NoN r ts.length (qn r ts s (4*(7-ts.length)*(9*(ts.length-1)))).2:=by
 have n2:=W.n2
 by_cases e2:ts.length=2
 .exact .inl e2
 by_cases c:r.c=0
 .exact .inr (.inl c)
 have:=W.ru.c;refine .inr (.inr λh v hh uh hv hvh=>ZPM (r:=r) ?_ n4 hv hvh);rcases ZNC n4 W k Q ⋯ hh ((ZAV W k h _).symm.trans uh) ⋯ (9*(ts.length-1)) with z|z
 .exact z
 .omega
end
section
variable{e:En}{n:Nat}{a:List Hs}
theorem ZPA(hn:e.ts.length=n){y:Nat}(w:HsL n a)(hx:x<n)(hy:y<n)(hxy:x≠y)(ux:(a.getD x H0).1=1)(N:NoN e.r n a):ZBS e (a.getD x H0) x y=[]:=by
 have O:=ZK6 e.r (a.getD x H0).2.2.1 x (ZAf e x y);have h:ZAw e.r (a.getD x H0).2.2.1 x (ZAf e x y)=[]:=by
  generalize ZAw e.r (a.getD x H0).2.2.1 x (ZAf e x y)=L at *
  cases L with
  |nil=>rfl
  |cons k L =>
   exfalso;obtain⟨u,e1,e2,e3,e4,e5⟩:=O.mem k (Xs ..);have tl:=(w.get hx).tl;rcases N with N|N|N
   .refine e5 ?_
    have:u=y:=⋯
    rw[this];unfold ZAf ZAg;exact mem_append_left _ (Xs ..)
   .have:=O.len
    rw[N] at this
    exact absurd this (by show ¬L.length+1<=(0:Int).toNat;exact Nat.not_succ_le_zero _)
   .have:=N x u hx ux ⋯ e4
    omega
 exact h
theorem ZKO{a:List Hs}:a.set i (a.getD i H0)=a:=by
 by_cases q:i<a.length
 .rw[Xq,getElem?_eq_getElem q]
  exact List.set_getElem_self q
 .exact List.set_eq_of_length_le ⋯
theorem ZHo(hc:ZS e.r.cl "newer" = true)(hn:e.ts.length=n)(w:HsL n a)(Q:QF n a)(N:NoN e.r n a):Kpu e n (λhs=>hs=a):=⟨λ{x y R} hx hy hxy w' ux k=>by
 rw[k] at ux;have no:=ZPA (e:=e) hn w hx hy hxy ux N;have ms:Zn e x y a=a:=by
  unfold Zn;rw[no];exact ZKO
 unfold ZH;rw[k]
 split
 .exact ms
 .split
  .exact ms
  .rename_i uy0
   have uy:=(ZLc w hy).resolve_left uy0;show Zp e x y a=a;unfold Zp;rw[ms,ZDv hc λp hp=>by
    rw[ZBR hp];exact Q.eq x y p.1 hx hy (by rw[<-hn];exact ZGq hp) ux uy]
   exact ZKO,λ{c b ans hs} ha hb hab w' ua hans k=>by
 rw[k] at ua hans ⊢;exact ZOf ha hb hab w ua hans Q⟩
end
section
variable{r:Ru}{ts:Qi}{s:Sx}
def ZCo(n:Nat):Nat:=ZDi n+4*(7-n)*(9*(n-1))
theorem ZTi(W:WR r ts)(k:QS r ts s)(m:Nat)(n4:ts.length<=4:=by omega):(qn r ts s (ZCo ts.length+m)).2=(qn r ts s (ZCo ts.length)).2:=by
 have Q:=qf_at W k (le_refl (ZDi ts.length));have Kb:=k.qn W (ZDi ts.length);have N:=ZVM n4 W Kb Q;rw[<-ZG4] at N;have Q2:=(ZBu (t:=ZDi ts.length) W k Q (4*(7-ts.length)*(9*(ts.length-1)))).qf Q;have w:=(k.qn W (ZCo ts.length)).q.L;exact ZBF (t:=ZCo ts.length) W k (I:=λhs=>hs=(qn r ts s (ZCo ts.length)).2) (λtn=>ZHo (e:=qE r ts tn) W.nw rfl w Q2 N) rfl m
theorem ZQT{n:Nat}(n2 : 2<=n)(n4:n<=4):ZCo n<=468:=by
 have hn:n=2\/n=3\/n=4:=⋯
 rcases hn with rfl|rfl|rfl <;> decide
theorem ZMQ(W:WR r ts)(k:QS r ts s){t:Nat}(ht : 468<=t)(n4:ts.length<=4:=by omega):(qn r ts s t).2=(qn r ts s 468).2:=by
 have b:=ZQT W.n2 n4;have h1:=ZTi W k (t-ZCo ts.length);have h2:=ZTi W k (468-ZCo ts.length);rw[show ZCo ts.length+(t-ZCo ts.length)=t by omega] at h1;rw[show ZCo ts.length+(468-ZCo ts.length)=468 by omega] at h2;rw[h1,h2]
end
structure Alk (ts:List (Int×Int)) (t1 t2:Int):Prop where
 tk:∀a,a<ts.length->ZAH (ts.getD a (0,0)) t1=ZAH (ts.getD a (0,0)) t2
 ab:∀a,a<ts.length->ZAE (ts.getD a (0,0)) t1 % ((ts.length:Nat):Int)=ZAE (ts.getD a (0,0)) t2 % ((ts.length:Nat):Int)
 tg:∀a,a<ts.length->(ZAE (ts.getD a (0,0)) t1-1) % ((ts.length:Int)-1)=(ZAE (ts.getD a (0,0)) t2-1) % ((ts.length:Int)-1)
section
variable{r:Ru}{ts:Qi}{t1 t2:Int}
theorem ZRj(A:Alk ts t1 t2){y:Nat}(hx:x<ts.length):ZAf (qE r ts t1) x y=ZAf (qE r ts t2) x y:=by
 unfold ZAf;show ZAg r.cl x y (ZAE (ts.getD x (0,0)) t1 % ((ts.length:Nat):Int))=ZAg r.cl x y (ZAE (ts.getD x (0,0)) t2 % ((ts.length:Nat):Int));rw[A.ab x hx]
theorem ZQl(A:Alk ts t1 t2){y:Nat}(hx:x<ts.length):ZH (qE r ts t1) x y R=ZH (qE r ts t2) x y R:=by
 have d:=ZRj (r:=r) (y:=y) A hx;have n:∀h,ZBS (qE r ts t1) h x y=ZBS (qE r ts t2) h x y:=λh=>by unfold ZBS;rw[d]
 have m:∀hs,Zn (qE r ts t1) x y hs=Zn (qE r ts t2) x y hs:=λhs=>by unfold Zn;rw[n]
 have c:∀hs,Zp (qE r ts t1) x y hs=Zp (qE r ts t2) x y hs:=λhs=>by unfold Zp;rw[n,m,d]
 unfold ZH;rw[m,c]
theorem ZM7(A:Alk ts t1 t2):∀{l:List (Nat×Nat)} {R:Rw},(∀p∈l,p.1<ts.length)->Zu (qE r ts t1) l R=Zu (qE r ts t2) l R
 |[],R,_=>by rw[Zu,Zu]
 |p::l,R,h=>by
  have hp:=ZQl (r:=r) (y:=p.2) (R:=R) A (h p (Xs ..));rw[Zu,Zu,hp,ZM7 A λq hq=>h q (Xo _ hq)]
theorem ZJy(A:Alk ts t1 t2):∀{ws:List (List (Nat×Nat))} {R:Rw},(∀l∈ws,∀p∈l,p.1<ts.length)->ZX (qE r ts t1) ws R=ZX (qE r ts t2) ws R
 |[],R,_=>by rw[ZX,ZX]
 |l::ws,R,h=>by
  rw[ZX,ZX,ZM7 A (h l (Xs ..)),ZJy A λq hq=>h q (Xo _ hq)]
theorem ZQz(A:Alk ts t1 t2)(ha:a<ts.length):tgF (qE r ts t1) a=tgF (qE r ts t2) a:=by
 unfold tgF;show(((a:Int)+1+(ZAE (ts.getD a (0,0)) t1-1) % ((ts.length:Int)-1)) % (ts.length:Int)).toNat=(((a:Int)+1+(ZAE (ts.getD a (0,0)) t2-1) % ((ts.length:Int)-1)) % (ts.length:Int)).toNat;rw[A.tg a ha]
theorem ZRq(A:Alk ts t1 t2)(ha:a<ts.length)(hb:b<ts.length)(hab:a≠b)(w:HsL ts.length R.hs):Zf (qE r ts t1) a b R=Zf (qE r ts t2) a b R:=by
 have n:ZDZ (qE r ts t1) a b R.hs=ZDZ (qE r ts t2) a b R.hs:=by unfold ZDZ;rw[ZQz A ha]
 have hw:=Z4 (e:=qE r ts t1) w ha hb hab;have s:ZX (qE r ts t1) (Zc (qE r ts t1) R.hs a b) R=ZX (qE r ts t2) (Zc (qE r ts t1) R.hs a b) R:=ZJy A λl hl p hp=>(hw l hl p hp).1.1
 have j:∀ans hs,ZAG (qE r ts t1) a b ans hs=ZAG (qE r ts t2) a b ans hs:=λ_ _=>rfl
 have wy:Zc (qE r ts t1) R.hs a b=Zc (qE r ts t2) R.hs a b:=rfl;unfold Zf;rw[n,s,wy,j]
theorem ZKh(A:Alk ts t1 t2)(ho : 0<=r.o/\r.o<=3){a:Nat}(ha:a<ts.length):∀{L:List Nat} {R:Rw},HsL ts.length R.hs->(∀b∈L,b<ts.length/\a≠b)->L.foldl (λR b=>Zf (qE r ts t1) a b R) R=L.foldl (λR b=>Zf (qE r ts t2) a b R) R
 |[],R,_,_=>by rw[foldl_nil,foldl_nil]
 |b::L,R,w,hl=>by
  obtain⟨h1,h2⟩:=hl b (Xs ..);have w2:=(ZAm (e:=qE r ts t1) ho w ha h1 h2).1;have k1:=ZRq (r:=r) A ha h1 h2 w;have k2:=ZKh A ho ha (L:=L) w2 λc hc=>hl c (Xo _ hc)
  rw[foldl_cons,foldl_cons]
  generalize Zf (qE r ts t1) a b R=X at *
  rw[<-k1];exact k2
theorem ZOF(A:Alk ts t1 t2)(ho : 0<=r.o/\r.o<=3)(n2 : 2<=ts.length)(ha:a<ts.length)(w:HsL ts.length R.hs):ZQ (qE r ts t1) a R=ZQ (qE r ts t2) a R:=by
 have o:ZBX (qE r ts t1) a=ZBX (qE r ts t2) a:=by unfold ZBX;rw[ZQz A ha]
 have y:ZCP (qE r ts t1) a R.hs=ZCP (qE r ts t2) a R.hs:=by
  unfold ZCP;show(_ && ZAH (ts.getD a (0,0)) t1)=(_ && ZAH (ts.getD a (0,0)) t2);rw[A.tk a ha]
 have k:=ZKh (L:=ZBX (qE r ts t1) a) A ho ha w λb hb=>Z0 (e:=qE r ts t1) n2 ha hb
 unfold ZQ ZG8;rw[y,<-o,k]
theorem ZH8(A:Alk ts t1 t2)(ho : 0<=r.o/\r.o<=3)(n2 : 2<=ts.length):∀{L:List Nat} {R:Rw},HsL ts.length R.hs->(∀a∈L,a<ts.length)->L.foldl (λR a=>ZQ (qE r ts t1) a R) R=L.foldl (λR a=>ZQ (qE r ts t2) a R) R
 |[],R,_,_=>by rw[foldl_nil,foldl_nil]
 |a::L,R,w,hl=>by
  have ha:=hl a (Xs ..);have k1:=ZOF (r:=r) A ho n2 ha w;have k2:=ZH8 A ho n2 (L:=L) (ZAy (e:=qE r ts t1) ho n2 w ha).1 λc hc=>hl c (Xo _ hc)
  rw[foldl_cons,foldl_cons]
  generalize ZQ (qE r ts t1) a R=X at *
  rw[<-k1];exact k2
theorem ZUt(A:Alk ts t1 t2)(ho : 0<=r.o/\r.o<=3)(n2 : 2<=ts.length)(w:HsL ts.length hs):(nxS r ts (t1,hs) q0).2=(nxS r ts (t2,hs) q0).2:=by
 have e1:(nxS r ts (t1,hs) q0).2=(ZBr (qE r ts t1) ⟨hs,[]⟩).hs:=congrArg Rw.hs ZCR;have e2:(nxS r ts (t2,hs) q0).2=(ZBr (qE r ts t2) ⟨hs,[]⟩).hs:=congrArg Rw.hs ZCR;have e3:(List.range ts.length).foldl (λR a=>ZQ (qE r ts t1) a R) ⟨hs,[]⟩=(List.range ts.length).foldl (λR a=>ZQ (qE r ts t2) a R) ⟨hs,[]⟩:=ZH8 (L:=List.range ts.length) (R:=⟨hs,[]⟩) A ho n2 w λa ha=>List.mem_range.mp ha
 rw[e1,e2];unfold ZBr;exact congrArg Rw.hs e3
def ZVW(ts:List (Int×Int))(L:Nat):Prop:=∀c∈ts,∃q:Int,(L:Int)=c.1*(q*((ts.length:Int)*((ts.length:Int)-1)))
theorem ZRE{L:Nat}(ck:∀c∈ts,ZAs c)(P:ZVW ts L)(h0 : 0<=t):Alk ts t (t+(L:Int)):=by
 have key:∀a,a<ts.length->ZAH (ts.getD a (0,0)) t=ZAH (ts.getD a (0,0)) (t+(L:Int))/\∃q:Int,ZAE (ts.getD a (0,0)) (t+(L:Int))=ZAE (ts.getD a (0,0)) t+q*((ts.length:Int)*((ts.length:Int)-1)):=λa ha=>by
  have hm:ts.getD a (0,0)∈ts:=by rw[Xq,getElem?_eq_getElem ha];exact getElem_mem _
  have c:=ck _ hm;obtain⟨q,hq⟩:=P _ hm
  generalize ts.getD a (0,0)=cl at *
  have e1:=ZGT c h0;have e2:=ZGT c (show 0<=t+(L:Int) by omega);obtain⟨p,st⟩:=cl;obtain⟨c1,c2,c3,c4⟩:=c;dsimp only at *
  generalize hm:q*((ts.length:Int)*((ts.length:Int)-1))=m at *
  have hL:t+(L:Int)-st=t-st+p*m:=⋯
  refine⟨?_,q,?_⟩
  .unfold ZAH
   dsimp only;rw[hL,Int.add_mul_emod_self_left]
   by_cases z:st<=t
   .rw[Xe z,Xe (show st<=t+(L:Int) by omega)]
   .rw[decide_eq_false z,Bool.false_and]
    symm;rw[Bool.and_eq_false_iff];right;refine decide_eq_false ?_;intro y;have d:=Int.dvd_of_emod_eq_zero y;obtain⟨k,hk⟩:=d;have hk1:p*k<0:=⋯
    have hk2 : -p<p*k:=⋯
    have:k<0:=by
     apply Classical.byContradiction;intro g;have:=Int.mul_nonneg (show 0<=p by omega) (show 0<=k by omega);omega
    have:=Int.mul_le_mul_of_nonneg_left (show k <= -1 by omega) (show 0<=p by omega);omega
  .rw[e1,e2,hL,Int.add_mul_ediv_left _ _ ⋯,hm]
   omega
 refine⟨λa ha=>(key a ha).1,λa ha=>?_,λa ha=>?_⟩
 .obtain⟨q,e⟩:=(key a ha).2
  rw[e,show q*((ts.length:Int)*((ts.length:Int)-1))=(ts.length:Int)*(q*((ts.length:Int)-1)) by rw[Int.mul_left_comm]];exact(Int.add_mul_emod_self_left ..).symm
 .obtain⟨q,e⟩:=(key a ha).2
  rw[e,show ZAE (ts.getD a (0,0)) t+q*((ts.length:Int)*((ts.length:Int)-1))-1=ZAE (ts.getD a (0,0)) t-1+((ts.length:Int)-1)*(q*(ts.length:Int)) by rw[show((ts.length:Int)-1)*(q*(ts.length:Int))=q*((ts.length:Int)*((ts.length:Int)-1)) by rw[Int.mul_left_comm,mul_comm ((ts.length:Int)-1)]];omega];exact(Int.add_mul_emod_self_left ..).symm
theorem ZN1{L t:Nat}(W:WR r ts)(k:QS r ts s)(P:ZVW ts L)(hL : 1<=L)(h:∀i,i<=L->(qn r ts s (t+i)).2=(qn r ts s t).2):∀m,(qn r ts s (t+m)).2=(qn r ts s t).2:=by
 intro m
 induction m using Nat.strongRecOn with
 |_ m ih =>
  by_cases c:m<=L
  .exact h m c
  .obtain⟨j,rfl⟩:∃j,m=j+L+1:=⟨m-L-1,⋯⟩
   have a:=ih (j+L) ⋯;have b:=ih j ⋯;have d:=ih (j+1) ⋯;have Kj:=k.qn W (t+j);have e1:(qn r ts s (t+(j+L+1))).2=(nxS r ts ((qn r ts s (t+j)).1+(L:Int),(qn r ts s (t+j)).2) q0).2:=by
    show(nxS r ts (qn r ts s (t+(j+L))) q0).2=_;rw[show qn r ts s (t+(j+L))=((qn r ts s (t+j)).1+(L:Int),(qn r ts s (t+j)).2) from Prod.ext (by rw[ZCq,ZCq];dsimp only;omega) (a.trans b.symm)]
   have e2:(nxS r ts ((qn r ts s (t+j)).1,(qn r ts s (t+j)).2) q0).2=(qn r ts s (t+(j+1))).2:=by
    show _=(nxS r ts (qn r ts s (t+j)) q0).2
    generalize qn r ts s (t+j)=X
    obtain⟨x1,x2⟩:=X;rfl
   rw[e1,<-ZUt (ZRE W.ck P Kj.tn) W.ru.o W.n2 Kj.q.L,e2];exact d
end
def Ov(v n:Nat)(t:Int)(h:Hs):Prop:=h.1=1/\∀u,u<n->u≠v->h.2.1.getD u (0,0)=(0,0)/\t<=h.2.2.1.getD u 0
def ZB5(v n:Nat)(t:Int)(hs:List Hs):Prop:=∀i,i<n->Ov v n t (hs.getD i H0)
section
variable{cl:List Str}{v n y:Nat}{t:Int}
theorem ZEq{l:List α}{x d:α}(h:u≠i):(l.set i x).getD u d=l.getD u d:=by
 rw[ZK,Xn λz=>h z.1.symm]
theorem ZRF{h:Hs}(hc:ZS cl "newer" = true)(k:Ov v n t h)(hp:p.1<n)(hy:y<n)(hw:p.1≠v->p.2=(0,0)):Ov v n t (ZY cl y h p):=by
 have irr:gtW (0,0) (0,0)=false:=by decide
 unfold ZY ZCv ZCu
 split
 .rename_i e
  split
  .rename_i c
   have yv:y=v:=Classical.byContradiction λq=>by
    have:=c.2.2;rw[hw (by rw[e];exact q),(k.2 y hy q).1,irr] at this
    cases this
   refine⟨k.1,λu hu hv=>?_⟩;rw[<-yv] at hv;dsimp only;rw[ZEq hv,ZEq hv];exact k.2 u hu (by rw[<-yv];exact hv)
  .exact k
 .split
  .rename_i c
   have ov:p.1=v:=Classical.byContradiction λq=>by
    unfold ZCl at c;rw[Xp hc,hw q,(k.2 p.1 hp q).1,irr] at c;cases c
   refine⟨k.1,λu hu hv=>?_⟩;rw[<-ov] at hv;dsimp only;rw[ZEq hv,ZEq hv];exact k.2 u hu (by rw[<-ov];exact hv)
  .exact k
theorem ZJd(hc:ZS cl "newer" = true)(hy:y<n):∀{ns:List (Nat×(Int×Int))} {h:Hs},Ov v n t h->(∀p∈ns,p.1<n/\(p.1≠v->p.2=(0,0)))->Ov v n t (ZW cl y h ns)
 |[],h,k,_=>k
 |q::ns,h,k,hp=>by
  show Ov v n t (ZW cl y (ZY cl y h q) ns);have:=hp q (Xs ..);exact ZJd hc hy (ZRF hc k this.1 hy this.2) λp hm=>hp p (Xo _ hm)
end
section
variable{e:En}{v n:Nat}{t:Int}
theorem ZJN{y:Nat}(k:ZB5 v n t hs):ZB5 v n t (Zn e x y hs):=λi hi=>by
 unfold Zn;rw[ZK]
 split
 .rename_i u
  have kx:=k i hi;rw[<-u.1] at kx;exact⟨kx.1,λu hu hv=>⟨(kx.2 u hu hv).1,Int.le_trans (kx.2 u hu hv).2 ZCT⟩⟩
 .exact k i hi
theorem ZGu(hc:ZS e.r.cl "newer" = true)(hn:e.ts.length=n):Kpu e n (ZB5 v n t):=⟨λ{x y R} hx hy hxy w ux k=>by
 unfold ZH
 split
 .exact ZJN k
 .split
  .exact ZJN k
  .intro i hi
   show Ov v n t ((Zp e x y R.hs).getD i H0);unfold Zp;rw[ZK]
   split
   .refine ZJd hc hy (k y hy) λp hp=>?_
    have l:=ZGq hp;rw[hn] at l;refine⟨l,λq=>?_⟩;rw[ZBR hp];exact((k x hx).2 p.1 l q).1
   .exact ZJN k i hi,λ{a b ans hs} ha hb hab w ua hans k=>by
 have an:ans=true:=hans.mpr (k b hb).1;subst an;intro i hi;unfold ZAG;rw[ZK]
 split
 .exact⟨(k a ha).1,(k a ha).2⟩
 .exact k i hi⟩
end
section
variable{r:Ru}{ts:Qi}{s:Sx}{v:Nat}
theorem qf_up(W:WR r ts)(k:QS r ts s)(au:∀i,i<ts.length->(s.2.getD i H0).1=1){t:Nat}(ht : 2*Zo ts.length<=t):QF ts.length (qn r ts s t).2:=by
 have U:=λi=>ZAV W k i t
 have n2:=W.n2;have b4 : 4<=t:=by
  have : 1<=ts.length*(ts.length-1):=Nat.mul_pos ⋯ ⋯;unfold Zo at ht;omega
 refine⟨λx y v hx hy hv ux uy=>?_,λx z hx hz ux uz=>?_,λx b hx hb hxb ux ub=>?_⟩
 .obtain⟨o,h⟩:=ZKd W k hv (au v hv)
  rw[h t ht x hx (au x hx),h t ht y hy (au y hy)]
 .rw[U z,au z hz] at uz
  cases uz
 .exact(ZMG W k hx hb hxb (au x hx) (au b hb) b4).2
theorem ZEL(W:WR r ts)(k:QS r ts s)(o:ZB5 v ts.length r.t s.2)(m:Nat):ZB5 v ts.length r.t (qn r ts s m).2:=by
 have:=ZBF (t:=0) W k (I:=ZB5 v ts.length r.t) (λtn=>ZGu (e:=qE r ts tn) W.nw rfl) o m;rw[zero_add] at this
 exact this
theorem ZLR{b a:Int}{n:Nat}(n5 : 5<=n)(ha : 0<=a/\a<(n:Int)-1)(hv:v<n)(n7:n<=7):∃j,b<=j/\j<b+3/\j % ((n:Int)-1)≠a/\(j+1) % (n:Int)≠(v:Int):=by
 apply Classical.byContradiction;intro q;have q:∀j,b<=j->j<b+3->j % ((n:Int)-1)=a\/(j+1) % (n:Int)=(v:Int):=λj h1 h2=>by
  apply Classical.byContradiction;intro r;exact q ⟨j,h1,h2,λe=>r (.inl e),λe=>r (.inr e)⟩
 have h0:=q b ⋯ ⋯;have h1:=q (b+1) ⋯ ⋯;have h2:=q (b+2) ⋯ ⋯;clear q;have hn:n=5\/n=6\/n=7:=⋯
 rcases hn with rfl|rfl|rfl <;> omega
theorem ZJc(k:QS r ts s)(hh:h<ts.length)(v:Nat)(r0 : 0<=r.t) : 0<=(s.2.getD h H0).2.2.1.getD v 0/\(s.2.getD h H0).2.2.1.getD v 0<=r.t:=ZFT (P:=λk:Int=>0<=k/\k<=r.t) (k.q.all h hh).ts ⟨Int.le_refl _,r0⟩
theorem ZSu(W:WR r ts)(k:QS r ts s)(Q:QF ts.length s.2)(o:ZB5 v ts.length r.t s.2)(n5 : 5<=ts.length)(hh:h<ts.length)(hv:v<ts.length)(hvh:v≠h)(c1 : 1<=r.c)(z:(s.2.getD h H0).2.2.1.getD v 0<r.t):(s.2.getD h H0).2.2.1.getD v 0+1<=((qn r ts s 12).2.getD h H0).2.2.1.getD v 0:=by
 have n7:=W.n7;have ck:=W.clk hh;obtain⟨j,j1,j2,j3,j4⟩:=ZLR (n:=ts.length) (v:=v) (b:=tkJ (ts.getD h (0,0)) s.1) (a:=rsQ ts.length h v) n5 (ZIp hh hv hvh) hv n7;obtain⟨τ,a1,a2,a3,a4,a5⟩:=ZFc ck k.tn j1;obtain⟨i,rfl⟩:∃i:Nat,τ = s.1+(i:Int):=⟨(τ-s.1).toNat,⋯⟩;have p4:=ck.2.1;have p1:=ck.1;have bd:(ts.getD h (0,0)).1*(j-tkJ (ts.getD h (0,0)) s.1+1)<=4*3:=Int.le_trans (Int.mul_le_mul_of_nonneg_right p4 ⋯) (Int.mul_le_mul_of_nonneg_left ⋯ (by decide));have him:i+1<=12:=⋯
 have Ki:=k.qn W i;have T0:=ZBu (t:=0) W k Q i;rw[zero_add] at T0;have T0:SameT ts.length s.2 (qn r ts s i).2:=T0;have Qi:=T0.qf Q;have oi:=ZEL W k o i;have o1:=ZEL W k o (i+1);have T2:=ZBu (t:=i+1) W k (ZBu (t:=0) W k Q (i+1) |>.qf Q |> λx=>by rw[zero_add] at x;exact x) (12-(i+1));rw[show i+1+(12-(i+1))=12 by omega] at T2;have m2:=T2.td h v;have m0:=T0.td h v
 by_cases lt2:((qn r ts s i).2.getD h H0).2.2.1.getD v 0<r.t
 .have et:(qn r ts s i).1=s.1+(i:Int):=ZCq i
  have tk:ZAH (ts.getD h (0,0)) (qn r ts s i).1=true:=by rw[et];exact a3
  have tg:v ≠ tgF (qE r ts (qn r ts s i).1) h:=λ q=>j3 (by
   have:=(ZIZ (e:=qE r ts (qn r ts s i).1) W.n2 (show ts.length<=8 by omega) hh hv hvh ck tk).mp q;have:tkJ (ts.getD h (0,0)) (qn r ts s i).1 % ((ts.length:Int)-1)=rsQ ts.length h v:=this
   rw[et,a4] at this
   exact this)
  have nd:(v:Int)∉ZAf (qE r ts (qn r ts s i).1) h (tgF (qE r ts (qn r ts s i).1) h):=by
   unfold ZAf ZAg;show(v:Int)∉(((tgF (qE r ts (qn r ts s i).1) h:Nat):Int)::if ZS r.cl "own" = true then [(h:Int)] else [])++if ZS r.cl "about" = true/\ZAE (ts.getD h (0,0)) (qn r ts s i).1 % ((ts.length:Nat):Int)≠(h:Int) then [ZAE (ts.getD h (0,0)) (qn r ts s i).1 % ((ts.length:Nat):Int)] else []
   rw[Xp W.ow,et,a5];intro q;rcases List.mem_append.mp q with q|q
   .rcases List.mem_cons.mp q with q|q
    .rw[<-et] at q
     exact tg ⋯
    .have:=List.mem_singleton.mp q
     omega
   .split at q
    .exact j4 (List.mem_singleton.mp q).symm
    .cases q
  obtain⟨u,u1,u2,u3⟩:=ZHn W Ki Qi hh hv hvh ((oi h hh).1) tk c1 lt2 nd;have uv:u=v:=Classical.byContradiction λq=>by
   have a:=((oi h hh).2 u u1 q).2;have b:=(ZJc (k.qn W (i+1)) hh u W.ru.t.1).2;have b:((nxS r ts (qn r ts s i) q0).2.getD h H0).2.2.1.getD u 0<=r.t:=b;omega
  subst uv;have u3:((qn r ts s i).2.getD h H0).2.2.1.getD u 0<((qn r ts s (i+1)).2.getD h H0).2.2.1.getD u 0:=u3;omega
 .have m1:=(ZBu W k Qi 1).td h v
  have m1:_<=((qn r ts s (i+1)).2.getD h H0).2.2.1.getD v 0:=m1;omega
theorem ZKf{h:Nat}(W:WR r ts)(k:QS r ts s)(Q:QF ts.length s.2)(o:ZB5 v ts.length r.t s.2)(n5 : 5<=ts.length)(hh:h<ts.length)(hv:v<ts.length)(hvh:v≠h)(c1 : 1<=r.c):∀i:Nat,r.t<=((qn r ts s (12*i)).2.getD h H0).2.2.1.getD v 0\/(i:Int)<=((qn r ts s (12*i)).2.getD h H0).2.2.1.getD v 0
 |0=>.inr (ZJc (k.qn W 0) hh v W.ru.t.1).1
 |i+1=>by
  have ih:=ZKf W k Q o n5 hh hv hvh c1 i;have T:=ZBu (t:=0) W k Q (12*i);rw[zero_add] at T;have Qi:=T.qf Q;have Ki:=k.qn W (12*i);rw[mul_succ,ZG4]
  by_cases z:((qn r ts s (12*i)).2.getD h H0).2.2.1.getD v 0<r.t
  .right
   have:=ZSu W Ki Qi (ZEL W k o (12*i)) n5 hh hv hvh c1 z;rcases ih with ih|ih <;> omega
  .left
   have:=ZBu (t:=0) W Ki Qi 12;rw[zero_add] at this
   have:=this.td h v
   have:((qn r ts s (12*i)).2.getD h H0).2.2.1.getD v 0<=_:=this
   omega
def ZBL(n:Nat):Nat:=2*Zo n+108
theorem ZJr(W:WR r ts)(k:QS r ts s)(o:ZB5 v ts.length r.t s.2)(n5 : 5<=ts.length)(hv:v<ts.length)(m:Nat):(qn r ts s (ZBL ts.length+m)).2=(qn r ts s (ZBL ts.length)).2:=by
 have Q:=qf_up W k (λi hi=>(o i hi).1) (le_refl (2*Zo ts.length));have Kb:=k.qn W (2*Zo ts.length);have ob:=ZEL W k o (2*Zo ts.length);have oe:=ZEL W k o (ZBL ts.length);have N:NoN r ts.length (qn r ts s (ZBL ts.length)).2:=by
  by_cases c:r.c=0
  .exact .inr (.inl c)
  have:=W.ru.c;refine .inr (.inr λh w hh uh hw hwh=>?_)
  by_cases e:w=v
  .subst e
   have t9:=W.ru.t;have:=ZKf W Kb Q ob n5 hh hw hwh ⋯ 9;rw[<-ZG4] at this
   have:r.t<=((qn r ts s (ZBL ts.length)).2.getD h H0).2.2.1.getD w 0\/((9:Nat):Int)<=((qn r ts s (ZBL ts.length)).2.getD h H0).2.2.1.getD w 0:=this
   rcases this with z|z <;> omega
  .exact((oe h hh).2 w hw e).2
 have Q2:QF ts.length (qn r ts s (ZBL ts.length)).2:=(ZBu (t:=2*Zo ts.length) W k Q 108).qf Q;have w:=(k.qn W (ZBL ts.length)).q.L;exact ZBF (t:=ZBL ts.length) W k (I:=λhs=>hs=(qn r ts s (ZBL ts.length)).2) (λtn=>ZHo (e:=qE r ts tn) W.nw rfl w Q2 N) rfl m
theorem ZPY{t:Nat}(W:WR r ts)(k:QS r ts s)(o:ZB5 v ts.length r.t s.2)(n5 : 5<=ts.length)(hv:v<ts.length)(ht : 444<=t):(qn r ts s t).2=(qn r ts s 444).2:=by
 have n7:=W.n7;have b:ZBL ts.length<=444:=by
  have hn:ts.length=5\/ts.length=6\/ts.length=7:=⋯
  rcases hn with e|e|e <;> rw[e] <;> decide
 have h1:=ZJr W k o n5 hv (t-ZBL ts.length);have h2:=ZJr W k o n5 hv (444-ZBL ts.length);rw[show ZBL ts.length+(t-ZBL ts.length)=t by omega] at h1;rw[show ZBL ts.length+(444-ZBL ts.length)=444 by omega] at h2;rw[h1,h2]
end
section
variable{e:En}
def LoP(e:En)(R:Rw):Prop:=∀k∈e.lo,k<(R.le.length:Int)
theorem LoP.mono{R':Rw}(h:LoP e R)(l:R.le.length<=R'.le.length):LoP e R':=λk hk=>by have:=h k hk;omega
theorem ZGY{y:Nat}:(ZH e x y R).2.le.length=R.le.length+1:=by
 unfold ZH
 split
 .rw[Xa];rfl
 .split <;> (rw[Xa];rfl)
theorem ZS3{y:Nat}(h:LoP e R):ZH e x y R=ZH (qE e.r e.ts e.tn) x y R:=by
 have c1 : ¬e.lo.contains (R.le.length:Int)=true:=λq=>by
  rw[List.contains_iff_mem] at q;have:=h _ q;omega
 have c2 : ¬(qE e.r e.ts e.tn).lo.contains (R.le.length:Int)=true:=λq=>by
  rw[List.contains_iff_mem] at q;cases q
 unfold ZH;rw[Xn c1,Xn c2];rfl
theorem ZQs:∀{l:List (Nat×Nat)} {R:Rw},LoP e R->Zu e l R=Zu (qE e.r e.ts e.tn) l R
 |[],R,_=>rfl
 |p::l,R,h=>by
  rw[Zu,Zu,<-ZS3 h]
  split
  .exact ZQs (h.mono (by rw[ZGY];omega))
  .rfl
theorem ZFl:∀{l:List (Nat×Nat)} {R:Rw},R.le.length<=(Zu e l R).2.le.length
 |[],R=>le_refl _
 |p::l,R=>by
  rw[Zu];have:=ZGY (e:=e) (x:=p.1) (y:=p.2) (R:=R)
  split
  .have:=ZFl (l:=l) (R:=(ZH e p.1 p.2 R).2)
   omega
  .show _<=(ZH e p.1 p.2 R).2.le.length
   omega
theorem ZQM{p:Nat×Nat}{l:List (Nat×Nat)}:R.le.length+1<=(Zu e (p::l) R).2.le.length:=by
 rw[Zu];have:=ZGY (e:=e) (x:=p.1) (y:=p.2) (R:=R)
 split
 .have:=ZFl (e:=e) (l:=l) (R:=(ZH e p.1 p.2 R).2)
  omega
 .show _<=(ZH e p.1 p.2 R).2.le.length
  omega
theorem ZMD:∀{ws:List (List (Nat×Nat))} {R:Rw},LoP e R->ZX e ws R=ZX (qE e.r e.ts e.tn) ws R
 |[],R,_=>rfl
 |l::ws,R,h=>by
  rw[ZX,ZX,<-ZQs h]
  split
  .rfl
  .exact ZMD (h.mono ZFl)
theorem ZGW:∀{ws:List (List (Nat×Nat))} {R:Rw},R.le.length<=(ZX e ws R).2.le.length
 |[],R=>le_refl _
 |l::ws,R=>by
  rw[ZX];have:=ZFl (e:=e) (l:=l) (R:=R)
  split
  .exact this
  .have:=ZGW (ws:=ws) (R:=(Zu e l R).2)
   omega
theorem ZR5(h:LoP e R):Zf e a b R=Zf (qE e.r e.ts e.tn) a b R:=by
 unfold Zf;rw[show ZDZ e a b R.hs=ZDZ (qE e.r e.ts e.tn) a b R.hs from rfl,show Zc e R.hs a b=Zc (qE e.r e.ts e.tn) R.hs a b from rfl,ZMD h];rfl
theorem ZJs:R.le.length<=(Zf e a b R).le.length:=by
 unfold Zf
 split
 .exact ZGW
 .exact le_refl _
theorem ZJH{a:Nat}:∀{L:List Nat} {R:Rw},LoP e R->L.foldl (λR b=>Zf e a b R) R=L.foldl (λR b=>Zf (qE e.r e.ts e.tn) a b R) R
 |[],R,_=>by rw[foldl_nil,foldl_nil]
 |b::L,R,h=>by
  rw[foldl_cons,foldl_cons,<-ZR5 h];exact ZJH (h.mono ZJs)
theorem ZFt{a:Nat}:∀{L:List Nat} {R:Rw},R.le.length<=(L.foldl (λR b=>Zf e a b R) R).le.length
 |[],R=>by rw[foldl_nil];exact le_refl _
 |b::L,R=>by
  rw[foldl_cons];exact le_trans ZJs ZFt
theorem ZQC(h:LoP e R):ZQ e a R=ZQ (qE e.r e.ts e.tn) a R:=by
 unfold ZQ;rw[show ZCP e a R.hs=ZCP (qE e.r e.ts e.tn) a R.hs from rfl]
 split
 .unfold ZG8
  exact ZJH h
 .rfl
theorem ZNp:R.le.length<=(ZQ e a R).le.length:=by
 unfold ZQ
 split
 .exact ZFt
 .exact le_refl _
theorem ZKD:∀{L:List Nat} {R:Rw},LoP e R->L.foldl (λR a=>ZQ e a R) R=L.foldl (λR a=>ZQ (qE e.r e.ts e.tn) a R) R
 |[],R,_=>by rw[foldl_nil,foldl_nil]
 |b::L,R,h=>by
  rw[foldl_cons,foldl_cons,<-ZQC h];exact ZKD (h.mono ZNp)
end
theorem ZTA{n:Nat}(k:ZB5 v n t hs):ZB5 v n t (ZAG e a v ans hs):=λi hi=>by
 unfold ZAG;rw[ZK]
 split
 .rename_i u
  have kx:=k i hi;rw[<-u.1] at kx;have S:∀{w:Int×Int} {z:Int} {ms:List Int},Ov v n t ((hs.getD a H0).1,(hs.getD a H0).2.1.set v w,(hs.getD a H0).2.2.1.set v z,ms):=λ{w z ms}=>⟨kx.1,λu hu hv=>by
   dsimp only;rw[ZEq hv,ZEq hv];exact kx.2 u hu hv⟩
  unfold ZA2
  split
  .exact⟨kx.1,kx.2⟩
  .split
   .exact S
   .split
    .split
     .exact S
     .exact⟨kx.1,kx.2⟩
    .split
     .exact⟨kx.1,kx.2⟩
     .exact kx
 .exact k i hi
theorem ZNc(ho : 0<=r.o/\r.o<=3)(hc:ZS r.cl "newer" = true)(hag:ZS r.cl "again" = true)(n2 : 2<=ts.length)(w:HsL ts.length hs)(tk:ZAH (ts.getD 0 (0,0)) tn=true)(k:ZB5 (tgF ⟨r,ts,tn,[0]⟩ 0) ts.length t hs):ZB5 (tgF ⟨r,ts,tn,[0]⟩ 0) ts.length t (ZAc r ts tn hs [0] [] [] []).hs:=by
 have e1:ZAc r ts tn hs [0] [] [] []=ZBr ⟨r,ts,tn,[0]⟩ ⟨hs,[]⟩:=by
  unfold ZAc;rw[ZEh];rfl
 rw[e1]
 generalize hv:tgF ⟨r,ts,tn,[0]⟩ 0=v at *
 have K:Kpu (⟨r,ts,tn,[0]⟩:En) ts.length (ZB5 v ts.length t):=ZGu (e:=⟨r,ts,tn,[0]⟩) hc rfl;have Kq:Kpu (qE r ts tn) ts.length (ZB5 v ts.length t):=ZGu (e:=qE r ts tn) hc rfl;unfold ZBr;obtain⟨m,hm⟩:∃m,ts.length=m+1:=⟨ts.length-1,⋯⟩;show ZB5 v ts.length t (List.foldl (λR a=>ZQ ⟨r,ts,tn,[0]⟩ a R) ⟨hs,[]⟩ (List.range ts.length)).hs;have er:List.range ts.length=0::(List.range m).map Nat.succ:=by rw[hm,List.range_succ_eq_map]
 rw[er,foldl_cons];have h0 : 0<ts.length:=⋯
 have u0:=(k 0 h0).1;have a0:ZCP ⟨r,ts,tn,[0]⟩ 0 hs=true:=by
  unfold ZCP;rw[u0];show(decide ((1:Int)=1) && ZAH (ts.getD 0 (0,0)) tn)=true;rw[tk];rfl
 have et:ZQ ⟨r,ts,tn,[0]⟩ 0 ⟨hs,[]⟩=((List.range ts.length).filter λb=>!decide (b=0) && !decide (b=v)).foldl (λR b=>Zf ⟨r,ts,tn,[0]⟩ 0 b R) (Zf ⟨r,ts,tn,[0]⟩ 0 v ⟨hs,[]⟩):=by
  unfold ZQ;rw[Xp a0];unfold ZG8 ZBX;rw[hv,foldl_cons]
 have tgin:=Z0 (e:=⟨r,ts,tn,[0]⟩) (a:=0) (b:=v) n2 h0 (by unfold ZBX;rw[hv];exact Xs ..);have wA:=ZAm (e:=⟨r,ts,tn,[0]⟩) (R:=⟨hs,[]⟩) ho w h0 tgin.1 tgin.2;have g1:=Z8 (e:=⟨r,ts,tn,[0]⟩) (R:=⟨hs,[]⟩) w h0 tgin.1 tgin.2
 -- the first asking
 have now:ZDZ ⟨r,ts,tn,[0]⟩ 0 v hs=true:=by
  unfold ZDZ;rw[Xp hv.symm];show(ZS r.cl "again" || _)=true;rw[hag];rfl
 have eA:Zf ⟨r,ts,tn,[0]⟩ 0 v ⟨hs,[]⟩=⟨ZAG ⟨r,ts,tn,[0]⟩ 0 v (ZX ⟨r,ts,tn,[0]⟩ (Zc ⟨r,ts,tn,[0]⟩ hs 0 v) ⟨hs,[]⟩).1 (ZX ⟨r,ts,tn,[0]⟩ (Zc ⟨r,ts,tn,[0]⟩ hs 0 v) ⟨hs,[]⟩).2.hs,(ZX ⟨r,ts,tn,[0]⟩ (Zc ⟨r,ts,tn,[0]⟩ hs 0 v) ⟨hs,[]⟩).2.le⟩:=by
  unfold Zf;rw[Xp now]
 have hw:=Z4 (e:=⟨r,ts,tn,[0]⟩) w h0 tgin.1 tgin.2;have oA:ZB5 v ts.length t (Zf ⟨r,ts,tn,[0]⟩ 0 v ⟨hs,[]⟩).hs:=by
  rw[eA];exact ZTA (ZJR K (R:=⟨hs,[]⟩) ZEc u0 w k hw)
 have lA:LoP ⟨r,ts,tn,[0]⟩ (Zf ⟨r,ts,tn,[0]⟩ 0 v ⟨hs,[]⟩):=by
  rw[eA];intro x hx;have hx:x=0:=by simpa using hx
  subst hx;have l1 : 1<=(ZX ⟨r,ts,tn,[0]⟩ (Zc ⟨r,ts,tn,[0]⟩ hs 0 v) ⟨hs,[]⟩).2.le.length:=by
   obtain⟨ws,eq⟩:∃ws,Zc ⟨r,ts,tn,[0]⟩ hs 0 v=[(0,v),(v,0)]::ws:=⟨_,rfl⟩;rw[eq,ZX];have l0:=ZQM (e:=⟨r,ts,tn,[0]⟩) (p:=(0,v)) (l:=[(v,0)]) (R:=⟨hs,[]⟩);have l0 : 1<=(Zu ⟨r,ts,tn,[0]⟩ [(0,v),(v,0)] ⟨hs,[]⟩).2.le.length:=l0
   split
   .exact l0
   .have:=ZGW (e:=⟨r,ts,tn,[0]⟩) (ws:=ws) (R:=(Zu ⟨r,ts,tn,[0]⟩ [(0,v),(v,0)] ⟨hs,[]⟩).2)
    omega
  have l2:(0:Int)<((ZX ⟨r,ts,tn,[0]⟩ (Zc ⟨r,ts,tn,[0]⟩ hs 0 v) ⟨hs,[]⟩).2.le.length:Int):=⋯
  exact l2
 have uA:=(ZN g1.up 0).trans u0
 generalize Zf ⟨r,ts,tn,[0]⟩ 0 v ⟨hs,[]⟩=RA at *
 rw[et,ZJH lA];have inB:∀b∈((List.range ts.length).filter λb=>!decide (b=0) && !decide (b=v)),b<ts.length/\(0:Nat)≠b:=λb hb=>by
  obtain⟨h1,h2⟩:=List.mem_filter.mp hb;rw[Bool.and_eq_true] at h2;have h2:=h2.1;refine⟨List.mem_range.mp h1,λz=>?_⟩;subst z;cases h2
 have oB:=ZE4 Kq ho rfl h0 (L:=(List.range ts.length).filter λb=>!decide (b=0) && !decide (b=v)) wA.1 oA inB uA;have lB:LoP ⟨r,ts,tn,[0]⟩ (((List.range ts.length).filter λb=>!decide (b=0) && !decide (b=v)).foldl (λR b=>Zf (qE r ts tn) 0 b R) RA):=lA.mono ZFt;have wB:HsL ts.length (((List.range ts.length).filter λb=>!decide (b=0) && !decide (b=v)).foldl (λR b=>Zf (qE r ts tn) 0 b R) RA).hs:=(ZE4 (e:=qE r ts tn) (n:=ts.length) (I:=HsL ts.length) ⟨λ{x y R} hx hy hxy w ux k=>ZAv (e:=qE r ts tn) w hx hy,λ{a b ans hs} ha hb hab w ua hans k=>ZPG w ha⟩ ho rfl h0 (L:=(List.range ts.length).filter λb=>!decide (b=0) && !decide (b=v)) wA.1 wA.1 inB uA);show ZB5 v ts.length t (List.foldl (λR a=>ZQ ⟨r,ts,tn,[0]⟩ a R) (List.foldl (λR b=>Zf (qE r ts tn) 0 b R) RA _) (List.map Nat.succ (List.range m))).hs;rw[ZKD lB];exact ZDM (e:=qE r ts tn) Kq ho rfl n2 (L:=List.map Nat.succ (List.range m)) wB oB λa ha=>by
  obtain⟨b,hb,rfl⟩:=List.mem_map.mp ha;have:=List.mem_range.mp hb;show b+1<ts.length;omega
def AtD(K:Frag)(x:Str)(st:Stmt)(f:Addr):Prop:=nsIn K mainGlobals x=some (some (.ref f))/\ZOG K x x st f
variable{K:Frag}
theorem atD_mk{x:Str}{st:Stmt}{f:Addr}{oc:Value}{od an:Option Addr}{osl:Array (Option Value)}{kV doc pm cdv ct:Value}(a:nsIn K mainGlobals x=some (some (.ref f)))(l:K.lookup f=some ⟨oc,od,.func (fnOf x x (ZBD st) (ZAC st) (ZM st) .none kV doc pm an cdv ct),osl⟩)
  (c:codeIn K cdv x=true)(k:keepIn K (.ref f)=true):AtD K x st f:=⟨a,fnAt_mk l c k⟩
def fdO(K:Frag)(f:Addr):FuncData:=@dite FuncData (∃fd x q st,Fun K x q st f fd) (Classical.propDecidable _) (λh=>h.choose) λ_=>fnOf "" "" (ZBD (.Pass default)) (ZAC (.Pass default)) (ZM (.Pass default)) .none .none .none .none none .none .none
variable{q:Str}{fd:FuncData}
theorem ZVV{x:Str}{st:Stmt}{f:Addr}(F:Fun K x q st f fd):fdO K f=fd:=by
 have h:∃fd x q st,Fun K x q st f fd:=⟨fd,x,q,st,F⟩;unfold fdO;rw[dif_pos h];obtain⟨_,_,_,F'⟩:=h.choose_spec;obtain⟨_,_,_,_,_,_,_,_,_,_,e1,_⟩:=F.ex;obtain⟨_,_,_,_,_,_,_,_,_,_,e2,_⟩:=F'.ex;rw[e1] at e2;cases e2;rfl
theorem ZOG.fn{x:Str}{st:Stmt}{f:Addr}(h:ZOG K x q st f):Fun K x q st f (fdO K f):=by
 obtain⟨fd,F⟩:=h;rw[ZVV F];exact F
inductive ALs (K:Frag) (tp:Nat->Stmt):List (Str×Nat)->List Addr->Prop
 |nil:ALs K tp [] []
 |cons {x:Str} {i:Nat} {f:Addr} {r:List (Str×Nat)} {fs:List Addr}:AtD K x (tp i) f->ALs K tp r fs->ALs K tp ((x,i)::r) (f::fs)
theorem ALs.at_{K:Frag}{tp:Nat->Stmt}:∀{l:List (Str×Nat)} {fs:List Addr} (_:ALs K tp l fs) (n:Nat) {x:Str} {i:Nat},l[n]? = some (x,i)->AtD K x (tp i) (fs.getD n 0)
 |_,_,.nil,_,_,_,e=>by cases e
 |_,_,.cons a _,0,_,_,e=>by
  cases e;exact a
 |_,_,.cons _ h,n+1,_,_,e=>h.at_ n e
variable{mg:Yj}{ps:List Str}
theorem ZV{tp:Nat->Stmt}{h:Heap}{l:List (Str×Nat)}{fs:List Addr}{x:Str}(X:K.In h)(G:h.Ns mainGlobals mg)(H:ALs K tp l fs)(n:Nat)(e:l[n]? = some (x,i))(hb:∀(kV doc pm:Value) (an:Option Addr) (cdv ct:Value) (us:List Value),us.length=ps.length->bindArgs (fnOf x x (ZBD (tp i)) (ZAC (tp i)) (ZM (tp i)) .none kV doc pm an cdv ct) ⟨us,[]⟩=pure (ps.zip us)):Def K mg x (tp i) ps (fs.getD n 0) (fdO K (fs.getD n 0)):=by
 obtain⟨a,F⟩:=H.at_ n e;exact⟨mg_of X G a,F.fn,F.fn.binds hb⟩
variable{P:Program}{w:World}{base:Heap}{k:Nat}{d:DS}
theorem ZSW{x:Str}{st:Stmt}{f:Addr}{n:Nat}{r:FW}(D:Def K mg x st ps f fd)(N:List Str)(S:FnScope N ps (ZM st))(e:r=Zg n d)(hn:N.length=n)(hm:ps.length=m)
  (hb:N.Nodup->∀(cdv:Value) (A:Around) (outer:List Env) (s:Shared) (H:Hp) (E:XK),Room k (A.deeper (envOfC x (ZM st) s⁻¹ f cdv))->JSs (ZFv CX0 P w K mg base N x (ZM st) f cdv A outer s H E).nox (ZAC st) d) :
  FnOk P w K mg base CX0 (k+1) f fd ps (spD K m r):=ZFm e hn hm D.fn S (hb S.nd)
theorem ZS4{C:Addr}{x qual:Str}{st:Stmt}{f:Addr}{n:Nat}{r:FW}(D:MDef K C x qual st ps f fd)(N:List Str)(S:FnScope N ps (ZM st))(e:r=Zg n d)(hn:N.length=n)(hm:ps.length=m)
  (hb:N.Nodup->∀(cdv:Value) (A:Around) (outer:List Env) (s:Shared) (H:Hp) (E:XK),Room k (A.deeper (envOfC qual (ZM st) s⁻¹ f cdv))->JSs (ZFv CX0 P w K mg base N qual (ZM st) f cdv A outer s H E).nox (ZAC st) d) :
  FnOk P w K mg base CX0 (k+1) f fd ps (spD K m r):=ZFm e hn hm D.fn S (hb S.nd)
def ZIm(n:Nat)(ws:List W)(sd:Sd):Prop:=ws.map some++List.replicate (n-ws.length) none=sd
theorem ZVj:ZIm 0 [] []:=rfl
variable{sd:Sd}
theorem ZS7{n:Nat}(h:ZIm n [] sd):ZIm (n+1) [] (none::sd):=by
 unfold ZIm at h ⊢;rw[<-h];rfl
variable{ws:List W}
theorem ZRl{n:Nat}{w:W}(h:ZIm n ws sd):ZIm (n+1) (w::ws) (some w::sd):=by
 unfold ZIm at h ⊢;rw[<-h,Xc,Nat.add_sub_add_right];rfl
theorem ev_in{n:Nat}{r:FW}{g:G}{P:W->G->Prop}(e:r=Zg n d)(k:ZIm n ws sd)(h:EvS (d sd g) (runP P)):EvP (r ws g) P:=by
 rw[e];refine ZQV ?_;unfold ZIm at k;rw[k];exact h
end _L
namespace _K
open PySem PySem.Spec PyProof.Rows _L H1
noncomputable abbrev ZF:CD:=⟨"Road",["rules","town","state","lost","letters"]⟩
noncomputable def top(i:Nat):Stmt:=PySem.Challenge.pw_hearsaybook_k42_still_behind_turns.main.body.getD i (.Pass ⟨0,0,0,0⟩)
noncomputable abbrev ZG6:List Str:=["thing"]
noncomputable abbrev ZGc:List Str:=["thing"]
noncomputable abbrev ZDf:List Str:=["thing","length"]
noncomputable abbrev ZMS:List Str:=["things"]
noncomputable abbrev ZTg:List Str:=["things","place","thing"]
noncomputable abbrev ZNM:List Str:=[]
noncomputable abbrev ZFA:List Str:=["state","thing"]
noncomputable abbrev ZD7:List Str:=["thing"]
noncomputable abbrev ZE9:List Str:=["some","others"]
noncomputable abbrev ZEI:List Str:=["state","numbers","up"]
noncomputable abbrev ZMd:List Str:=["one","other"]
noncomputable abbrev ZMj:List Str:=["town","house","turn"]
noncomputable abbrev ZGH:List Str:=["town","house","turn"]
noncomputable abbrev ZJt:List Str:=["town","house","turn"]
noncomputable abbrev ZL7:List Str:=["town"]
noncomputable abbrev ZCy:List Str:=["one","other"]
noncomputable abbrev ZGI:List Str:=["rules","town","state","x","y"]
noncomputable abbrev ZEX:List Str:=["rules","town","turn","x","y"]
noncomputable abbrev ZDg:List Str:=["rules","told","x","due"]
noncomputable abbrev ZMr:List Str:=["rules","house","y","notes"]
noncomputable abbrev ZHt:List Str:=["rules","house","y","word"]
noncomputable abbrev ZMN:List Str:=["rules","house","about","word"]
noncomputable abbrev ZFJ:List Str:=["rules","old","word"]
noncomputable abbrev ZKI:List Str:=["rules","town","state","x","y"]
noncomputable abbrev ZEO:List Str:=["state","at","house"]
noncomputable abbrev ZGD:List Str:=["town","state","a"]
noncomputable abbrev ZCC:List Str:=["town","turn","a"]
noncomputable abbrev ZGO:List Str:=["rules","town","state","a","b"]
noncomputable abbrev ZGb:List Str:=["book","house"]
noncomputable abbrev ZQY:List Str:=["rules","state","a","b"]
noncomputable abbrev ZH1:List Str:=["rules","book","a","b"]
noncomputable abbrev ZKg:List Str:=["rules","state","a","b","answered"]
noncomputable abbrev ZHk:List Str:=["rules","town","state","doings"]
noncomputable abbrev ZQQ:List Str:=["houses","doings"]
noncomputable abbrev ZC5:List Str:=["road","x"]
noncomputable abbrev ZQb:List Str:=["road","x"]
noncomputable abbrev ZHp:List Str:=["road","a"]
noncomputable abbrev ZDe:List Str:=["road","a","b"]
noncomputable abbrev ZCp:List Str:=["road","way"]
noncomputable abbrev ZJf:List Str:=["rules","town","state","row"]
noncomputable abbrev ZMh:List Str:=["rules","town","state","row"]
noncomputable abbrev ZDH:List Str:=["rules","town","state"]
noncomputable abbrev ZM4:List Str:=["rules","town"]
noncomputable abbrev ZC0:List Str:=["_law_script","_law_k"]
noncomputable abbrev ZFK:List Str:=["_law_script","_law_k"]
noncomputable abbrev ZFG:List Str:=["_law_left_here","_law_many"]
noncomputable abbrev ZE8:List Str:=["_law_left_here","_law_most"]
noncomputable abbrev ZD8:List Str:=["_law_lacking"]
noncomputable abbrev ZEb:List Str:=["_law_left_here"]
noncomputable abbrev ZFN:List Str:=["_law_left_here","_law_most"]
noncomputable abbrev ZDj:List Str:=["_law_left_here","_law_ups","_law_much"]
noncomputable abbrev ZGG:List Str:=["_law_left_here","_law_many_houses","_law_most"]
noncomputable abbrev ZFH:List Str:=["_law_left_here","_law_drawn","_law_town_here","_law_most"]
noncomputable abbrev ZEa:List Str:=["_law_thing"]
noncomputable abbrev ZCw:List Str:=["_law_found","_law_due"]
noncomputable abbrev ZEV:List Str:=["_law_town_here"]
noncomputable abbrev ZBp:List Str:=["_law_drawn","_law_town_here","_law_state","_law_many"]
noncomputable abbrev ZEE:List Str:=["_law_drawn","_law_town_here","_law_state"]
noncomputable abbrev ZBA:List Str:=["self","rules","town","state","lost"]
noncomputable abbrev ZB3:List Str:=["self","x","y"]
set_option genInjectivity false in
set_option genSizeOf false in
structure Adr where
 (c_Road:Addr)
 (x:Nat->Addr)
abbrev Da(K:Frag)(mg:Yj)(A:Adr)(x:Str)(i:Nat)(ps:List Str)(n:Nat):Prop:=Def K mg x (top i) ps (A.x n) (fdO K (A.x n))
abbrev Fo(P:Program)(w:World)(K:Frag)(mg:Yj)(base:Heap)(A:Adr)(k n:Nat)(ps:List Str)(m:Nat)(r:FW):Prop:=FnOk P w K mg base CX0 k (A.x n) (fdO K (A.x n)) ps (spD K m r)
structure Txt (K:Frag) (mg:Yj) (A:Adr):Prop where
 z_all:mg "all" = none
 z_any:mg "any" = none
 z_bool:mg "bool" = none
 z_dict:mg "dict" = none
 z_enumerate:mg "enumerate" = none
 z_int:mg "int" = none
 z_isinstance:mg "isinstance" = none
 z_len:mg "len" = none
 z_max:mg "max" = none
 z_min:mg "min" = none
 z_range:mg "range" = none
 z_sorted:mg "sorted" = none
 z_sum:mg "sum" = none
 z_tuple:mg "tuple" = none
 z_zip:mg "zip" = none
 g_ALIVE:ZLG mg "ALIVE" 0
 g_SUSPECT:ZLG mg "SUSPECT" 1
 g_GONE:ZLG mg "GONE" 2
 g_LEFT:ZLG mg "LEFT" 3
 g_MOST_QUIET:ZLG mg "MOST_QUIET" 500
 k_Road:Kls K mg ZF A.c_Road
 m_Road:Mk K A.c_Road (A.x 59)
 fz0:Da K mg A "is_whole" 1 ZG6 0
 fz1:Da K mg A "is_count" 2 ZGc 1
 fz2:Da K mg A "is_tuple_of" 3 ZDf 2
 fz3:Da K mg A "rises" 4 ZMS 3
 fz4:Da K mg A "put" 5 ZTg 4
 fz5:Da K mg A "quiet" 7 ZNM 5
 fz6:Da K mg A "is_doings" 8 ZFA 6
 fz7:Da K mg A "are_rising" 9 ZD7 7
 fz8:Da K mg A "are_apart" 10 ZE9 8
 fz9:Da K mg A "are_houses" 11 ZEI 9
 fz10:Da K mg A "newer" 17 ZMd 10
 fz11:Da K mg A "ticks" 19 ZMj 11
 fz12:Da K mg A "ticks_by" 20 ZGH 12
 fz13:Da K mg A "target" 21 ZJt 13
 fz14:Da K mg A "cycle" 22 ZL7 14
 fz15:Da K mg A "least_shared" 23 ZCy 15
 fz16:Da K mg A "notes_of" 25 ZGI 16
 fz17:Da K mg A "due_houses" 26 ZEX 17
 fz18:Da K mg A "news_houses" 27 ZDg 18
 fz19:Da K mg A "taken" 28 ZMr 19
 fz20:Da K mg A "refuted" 29 ZHt 20
 fz21:Da K mg A "noted" 30 ZMN 21
 fz22:Da K mg A "gives_way" 31 ZFJ 22
 fz23:Da K mg A "posted" 33 ZKI 23
 fz24:Da K mg A "with_house" 34 ZEO 24
 fz25:Da K mg A "asks_any" 35 ZGD 25
 fz26:Da K mg A "asked_in_order" 36 ZCC 26
 fz27:Da K mg A "asks_now" 37 ZGO 27
 fz28:Da K mg A "is_about" 38 ZGb 28
 fz29:Da K mg A "ways" 39 ZQY 29
 fz30:Da K mg A "helpers" 40 ZH1 30
 fz31:Da K mg A "judged" 41 ZKg 31
 fz32:Da K mg A "stepped" 47 ZHk 32
 fz33:Da K mg A "done" 48 ZQQ 33
 fz34:Da K mg A "write_to_all" 49 ZC5 34
 fz35:Da K mg A "stop" 50 ZQb 35
 fz36:Da K mg A "ask_all" 51 ZHp 36
 fz37:Da K mg A "is_answered" 52 ZDe 37
 fz38:Da K mg A "comes_through" 53 ZCp 38
 fz39:Da K mg A "walked" 54 ZJf 39
 fz40:Da K mg A "trail" 55 ZMh 40
 fz41:Da K mg A "still_behind" 58 ZDH 41
 fz42:Da K mg A "begun" 60 ZM4 42
 fz43:Da K mg A "_law_cell_at" 62 ZC0 43
 fz44:Da K mg A "_law_left" 63 ZFK 44
 fz45:Da K mg A "_law_pick" 64 ZFG 45
 fz46:Da K mg A "_law_town" 65 ZE8 46
 fz47:Da K mg A "_law_names" 66 ZD8 47
 fz48:Da K mg A "_law_rules" 67 ZEb 48
 fz49:Da K mg A "_law_lost" 68 ZFN 49
 fz50:Da K mg A "_law_doings" 69 ZDj 50
 fz51:Da K mg A "_law_row" 70 ZGG 51
 fz52:Da K mg A "_law_here" 71 ZFH 52
 fz53:Da K mg A "_law_whole" 72 ZEa 53
 fz54:Da K mg A "_law_same" 73 ZCw 54
 fz55:Da K mg A "_law_cycle" 74 ZEV 55
 fz56:Da K mg A "_law_quiet_walk" 75 ZBp 56
 fz57:Da K mg A "_law_right" 76 ZEE 57
 fz59:MDef K A.c_Road "__init__" "Road.__init__" (ZFo (top 46) 0) ZBA (A.x 59) (fdO K (A.x 59))
 fz60:MDef K A.c_Road "sends" "Road.sends" (ZFo (top 46) 1) ZB3 (A.x 60) (fdO K (A.x 60))
variable{k:Nat}
section
variable{a0 a1 a2 a3 a4 a5 a6 a7:W}{g:G}{P:W->G->Prop}
abbrev ZLv:DS :=
 (ZE (ZA3 (dF ZD4 (ZA (ZB 0) (ZA (λ_ g=>some (.ty "int",g)) ZC))) (ZKV (dF ZD4 (ZA (ZB 0) (ZA (λ_ g=>some (.ty "bool",g)) ZC))))))
@[irreducible] def ZDz:FW:=Zg 1 ZLv
abbrev ZLU:DS :=
 (ZE (ZA3 (dF ZDz (ZA (ZB 0) ZC)) (dOp ZVe (ZB 0) (dI 0))))
@[irreducible] def ZDt:FW:=Zg 1 ZLU
abbrev ZHM:DS :=
 (ZE (ZA3 (dF ZD4 (ZA (ZB 0) (ZA (λ_ g=>some (.ty "tuple",g)) ZC))) (dOp ZCL (dF (f1 ZBQ) (ZA (ZB 0) ZC)) (ZB 1))))
@[irreducible] def ZB9:FW:=Zg 2 ZHM
abbrev ZS9:DS :=
 (ZE (dF (f1 ZFX) (ZA (ZAI 2 [] (.tp (.cons (.nm 0) (.cons (.nm 1) .nil))) (ZJY (ZA (ZB 0) (ZA (dSl (ZB 0) (ZEY (dI 1)) ZBz) ZC))) ZES (dOp ZD5 (ZB 0) (ZB 1))) ZC)))
@[irreducible] def ZIM:FW:=Zg 1 ZS9
abbrev d_put:DS :=
 (ZE (dOp Zz (dOp Zz (dSl (ZB 0) ZBz (ZEY (ZB 1))) (dF Zd (ZA (ZB 2) ZC))) (dSl (ZB 0) (ZEY (dOp Zz (ZB 1) (dI 1))) ZBz)))
@[irreducible] def ZAb:FW:=Zg 3 d_put
abbrev ZSs:DS :=
 (ZE (dF Zd (ZA (dF Zd ZC) (ZA (dF Zd ZC) (ZA (dF Zd ZC) (ZA (dF Zd ZC) ZC))))))
@[irreducible] def ZNN:FW:=Zg 0 ZSs
abbrev ZKF:DS :=
 (ZE (dF (f1 ZFX) (ZA (ZAI 1 [1] (.nm 0) (ZBY (ZB 0)) ZES (dOp ZCj (ZB 0) (ZB 1))) ZC)))
@[irreducible] def ZCx:FW:=Zg 2 ZKF
abbrev ZIK:DS :=
 (ZD (ZAB (.tp (.cons (.nm 3) (.cons (.nm 4) .nil))) (ZB 0))
 (ZE (dF (f1 ZFX) (ZA (ZAI 1 [2,4] (.nm 0) (ZBY (ZB 1)) ZES (ZA3 (dOp ZD5 (ZB 0) (dF (f1 ZBQ) (ZA (ZB 2) ZC))) (dOp ZCL (dOp ZO (dOp ZO (ZB 2) (ZB 0)) (dI 0)) (ZB 1)))) ZC))))
@[irreducible] def ZAx:FW:=Zg 5 ZIK
abbrev ZJJ:DS :=
 (ZE (ZA3 (dF ZD4 (ZA (ZB 0) (ZA (λ_ g=>some (.ty "tuple",g)) ZC))) (ZA3 (dF (f1 ZFX) (ZA (ZAI 1 [] (.nm 0) (ZBY (ZB 0)) ZES (dF ZDt (ZA (ZB 0) ZC))) ZC)) (dF ZIM (ZA (ZB 0) ZC)))))
@[irreducible] def ZCf:FW:=Zg 1 ZJJ
abbrev ZKQ:DS :=
 (ZD (Zr (ZDJ (ZCX (dB (dF ZB9 (ZA (ZB 1) (ZA (dI 4) ZC)))) (dB (dF (f1 ZFX) (ZA (ZAI 1 [] (.nm 0) (ZBY (ZB 1)) ZES (dF ZCf (ZA (ZB 0) ZC))) ZC)))))
 (ZE (dC (.bool false)))
 dNx)
 (ZD (ZAB (.tp (.cons (.nm 2) (.cons (.nm 3) (.cons (.nm 4) (.cons (.nm 5) .nil))))) (ZB 1))
 (ZD (Zr (ZDJ (dB (dF ZCx (ZA (ZB 3) (ZA (ZB 4) ZC)))))
 (ZE (dC (.bool false)))
 dNx)
 (ZE (ZA3 (dF ZAx (ZA (ZB 0) (ZA (ZB 3) (ZA (dI 1) ZC)))) (ZA3 (dF ZAx (ZA (ZB 0) (ZA (ZB 4) (ZA (dI 1) ZC)))) (dF ZAx (ZA (ZB 0) (ZA (ZB 5) (ZA (dI 0) ZC))))))))))
@[irreducible] def ZB1:FW:=Zg 6 ZKQ
abbrev ZR9:DS :=
 (ZE (dOp ZL1 (ZB 0) (ZB 1)))
@[irreducible] def ZFd:FW:=Zg 2 ZR9
abbrev ZSw:DS :=
 (ZD (ZAB (.tp (.cons (.nm 3) (.cons (.nm 4) .nil))) (dOp ZO (ZB 0) (ZB 1)))
 (ZE (ZA3 (dOp ZVe (ZB 2) (ZB 4)) (dOp ZCL (dOp ZAq (dOp ZCK (ZB 2) (ZB 4)) (ZB 3)) (dI 0)))))
@[irreducible] def ZM0:FW:=Zg 5 ZSw
abbrev ZLJ:DS :=
 (ZD (ZAB (.tp (.cons (.nm 3) (.cons (.nm 4) .nil))) (dOp ZO (ZB 0) (ZB 1)))
 (ZD (Zr (dB (dOp ZD5 (ZB 2) (ZB 4)))
 (ZE (dI 0))
 dNx)
 (ZE (dOp Zz (dOp ZIn (dOp ZCK (ZB 2) (ZB 4)) (ZB 3)) (dI 1)))))
@[irreducible] def ZCm:FW:=Zg 5 ZLJ
abbrev ZQP:DS :=
 (ZD (ZR 3 (dF (f1 ZBQ) (ZA (ZB 0) ZC)))
 (ZD (ZR 4 (dOp ZCK (dF ZCm (ZA (ZB 0) (ZA (ZB 1) (ZA (ZB 2) ZC)))) (dI 1)))
 (ZE (dOp ZAq (dOp Zz (dOp Zz (ZB 1) (dI 1)) (dOp ZAq (ZB 4) (dOp ZCK (ZB 3) (dI 1)))) (ZB 3)))))
@[irreducible] def ZEB:FW:=Zg 5 ZQP
abbrev ZGp:DS :=
 (ZD (ZR 2 (ZB 0))
 (ZD (ZGV 1000 (dB (dOp ZCM (dOp ZAq (ZB 2) (ZB 1)) (dI 0)))
 (ZG1 2 (ZB 0)))
 (ZE (ZB 2))))
@[irreducible] def ZBl:FW:=Zg 3 ZGp
abbrev ZR4:DS :=
 (ZD (ZR 1 (dF (f1 ZBQ) (ZA (ZB 0) ZC)))
 (ZD (ZR 2 (dI 1))
 (ZD (ZBg (.tp (.cons (.nm 3) (.cons (.nm 4) .nil))) (ZBY (ZB 0))
 (ZR 2 (dF ZBl (ZA (ZB 2) (ZA (ZB 3) ZC)))))
 (ZE (dOp ZAQ (dOp ZAQ (ZB 2) (ZB 1)) (dOp ZCK (ZB 1) (dI 1)))))))
@[irreducible] def ZIQ:FW:=Zg 5 ZR4
abbrev ZIR:DS :=
 (ZD (ZR 5 (dOp ZO (ZB 0) (dI 4)))
 (ZD (ZR 6 (dF ZCI (ZA (ZB 4) ZC)))
 (ZD (Zr (dB (dOp ZDK (dC (.str "own")) (ZB 5)))
 (ZAT (ZDy (ZB 6) (ZB 3)))
 dNx)
 (ZD (ZR 7 (dOp ZAq (dF ZCm (ZA (ZB 1) (ZA (ZB 3) (ZA (ZB 2) ZC)))) (dF (f1 ZBQ) (ZA (ZB 1) ZC))))
 (ZD (Zr (ZCX (dB (dOp ZDK (dC (.str "about")) (ZB 5))) (dB (dOp ZCM (ZB 7) (ZB 3))))
 (ZAT (ZDy (ZB 6) (ZB 7)))
 dNx)
 (ZE (ZB 6)))))))
@[irreducible] def ZCa:FW:=Zg 8 ZIR
abbrev ZHR:DS :=
 (ZD (ZAB (.tp (.cons (.nm 4) (.cons (.nm 5) (.cons (.nm 6) (.cons (.nm 7) (.cons (.nm 8) .nil)))))) (ZB 0))
 (ZD (ZR 9 (ZAI 2 [6,2,3] (.tp (.cons (.nm 0) (.cons (.nm 1) .nil))) (ZD3 (ZA (ZB 1) ZC)) (ZCX (dB (dOp ZD5 (ZB 1) (ZB 2))) (ZCX (dB (dOp ZCM (ZB 0) (ZB 3))) (dB (dOp ZCj (ZB 0) (ZB 4))))) (dF Zd (ZA (ZB 1) (ZA (ZB 0) ZC)))))
 (ZE (ZAI 2 [] (.tp (.cons (.nm 0) (.cons (.nm 1) .nil))) (ZBY (dSl (dF (f1 ZPu) (ZA (ZB 9) ZC)) ZBz (ZEY (ZB 7)))) ZES (ZB 1)))))
@[irreducible] def ZB4:FW:=Zg 10 ZHR
abbrev ZLz:DS :=
 (ZD (ZAB (.tp (.cons (.nm 5) (.cons (.nm 6) .nil))) (ZB 2))
 (ZD (ZAB (.tp (.cons (.nm 7) (.cons (.nm 8) (.cons (.nm 9) (.cons (.nm 10) .nil))))) (dOp ZO (ZB 6) (ZB 3)))
 (ZD (ZR 11 (dF ZCa (ZA (ZB 0) (ZA (ZB 1) (ZA (ZB 5) (ZA (ZB 3) (ZA (ZB 4) ZC)))))))
 (ZD (ZR 12 (dF ZB4 (ZA (ZB 0) (ZA (ZB 9) (ZA (ZB 3) (ZA (ZB 11) ZC))))))
 (ZD (ZR 13 (dF (f1 ZEr) (ZA (ZAI 2 [11,12] (.tp (.cons (.nm 0) (.cons (.nm 1) .nil))) (ZD3 (ZA (ZB 8) ZC)) (dOr (dB (dOp ZDK (ZB 0) (ZB 2))) (dB (dOp ZDK (ZB 0) (ZB 3)))) (dF Zd (ZA (ZB 0) (ZA (ZB 1) ZC)))) ZC)))
 (ZD (ZBg (.nm 14) (ZBY (ZB 12))
 (ZR 9 (dF ZAb (ZA (ZB 9) (ZA (ZB 14) (ZA (dOp Zz (dOp ZO (ZB 9) (ZB 14)) (dI 1)) ZC))))))
 (ZE (dF Zd (ZA (ZB 13) (ZA (ZB 9) ZC))))))))))
@[irreducible] def ZDp:FW:=Zg 15 ZLz
abbrev ZNT:DS :=
 (ZD (ZAB (.tp (.cons (.nm 4) (.cons (.nm 5) (.cons (.nm 6) (.cons (.nm 7) .nil))))) (ZB 1))
 (ZD (Zr (ZCX (dB (dOp ZCL (ZB 4) (dI 1))) (ZCX (dB (dOp ZDK (dC (.str "refute")) (dOp ZO (ZB 0) (dI 4)))) (dB (dF ZFd (ZA (ZB 3) (ZA (dOp ZO (ZB 5) (ZB 2)) ZC))))))
 (ZD (ZAB (.tp (.cons (.nm 8) (.cons (.nm 9) .nil))) (ZB 3))
 (ZE (dF Zd (ZA (ZB 4) (ZA (dF ZAb (ZA (ZB 5) (ZA (ZB 2) (ZA (dF Zd (ZA (dOp Zz (ZB 8) (dI 1)) (ZA (dI 0) ZC))) ZC)))) (ZA (dF ZAb (ZA (ZB 6) (ZA (ZB 2) (ZA (dI 0) ZC)))) (ZA (ZB 7) ZC)))))))
 dNx)
 (ZE (ZB 1))))
@[irreducible] def ZDT:FW:=Zg 10 ZNT
abbrev ZKR:DS :=
 (ZD (Zr (dB (dOp ZDK (dC (.str "newer")) (dOp ZO (ZB 0) (dI 4))))
 (ZE (dF ZFd (ZA (ZB 2) (ZA (ZB 1) ZC))))
 dNx)
 (ZE (dOp ZCM (ZB 2) (ZB 1))))
@[irreducible] def ZC6:FW:=Zg 3 ZKR
abbrev ZSA:DS :=
 (ZD (ZAB (.tp (.cons (.nm 4) (.cons (.nm 5) (.cons (.nm 6) (.cons (.nm 7) .nil))))) (ZB 1))
 (ZD (Zr (ZDJ (dB (dF ZC6 (ZA (ZB 0) (ZA (dOp ZO (ZB 5) (ZB 2)) (ZA (ZB 3) ZC))))))
 (ZE (ZB 1))
 dNx)
 (ZD (ZAB (.tp (.cons (.nm 8) (.cons (.nm 9) .nil))) (ZB 3))
 (ZD (Zr (dB (dOp ZCM (ZB 9) (dI 1)))
 (ZR 7 (dF ZAb (ZA (ZB 7) (ZA (ZB 2) (ZA (dI 0) ZC)))))
 dNx)
 (ZE (dF Zd (ZA (ZB 4) (ZA (dF ZAb (ZA (ZB 5) (ZA (ZB 2) (ZA (ZB 3) ZC)))) (ZA (dF ZAb (ZA (ZB 6) (ZA (ZB 2) (ZA (dI 0) ZC)))) (ZA (ZB 7) ZC))))))))))
@[irreducible] def ZFn:FW:=Zg 10 ZSA
abbrev ZSq:DS :=
 (ZD (ZBg (.tp (.cons (.nm 4) (.cons (.nm 5) .nil))) (ZBY (ZB 3))
 (Zr (dB (dOp ZCL (ZB 4) (ZB 2)))
 (ZR 1 (dF ZDT (ZA (ZB 0) (ZA (ZB 1) (ZA (ZB 2) (ZA (ZB 5) ZC))))))
 (ZR 1 (dF ZFn (ZA (ZB 0) (ZA (ZB 1) (ZA (ZB 4) (ZA (ZB 5) ZC))))))))
 (ZE (ZB 1)))
@[irreducible] def ZJD:FW:=Zg 6 ZSq
abbrev ZI1:DS :=
 (ZD (ZAB (.tp (.cons (.nm 3) (.cons (.nm 4) .nil))) (ZB 0))
 (ZE (dF Zd (ZA (ZB 3) (ZA (dF ZAb (ZA (ZB 4) (ZA (ZB 1) (ZA (ZB 2) ZC)))) ZC)))))
@[irreducible] def ZAJ:FW:=Zg 5 ZI1
abbrev ZQp:DS :=
 (ZD (ZAB (.tp (.cons (.nm 5) (.cons (.nm 6) .nil))) (ZB 2))
 (ZD (ZAB (.tp (.cons (.nm 7) (.cons (.nm 8) .nil))) (dF ZDp (ZA (ZB 0) (ZA (ZB 1) (ZA (ZB 2) (ZA (ZB 3) (ZA (ZB 4) ZC)))))))
 (ZD (ZAB (.tp (.cons (.nm 9) (.cons (.nm 10) (.cons (.nm 11) (.cons (.nm 12) .nil))))) (dOp ZO (ZB 6) (ZB 3)))
 (ZD (ZR 13 (dF Zd (ZA (ZB 5) (ZA (dF ZAb (ZA (ZB 6) (ZA (ZB 3) (ZA (dF Zd (ZA (ZB 9) (ZA (ZB 10) (ZA (ZB 8) (ZA (ZB 12) ZC))))) ZC)))) ZC))))
 (ZD (Zr (dB (dOp ZCL (dOp ZO (dOp ZO (ZB 6) (ZB 4)) (dI 0)) (dI 0)))
 (ZE (dF Zd (ZA (ZB 13) (ZA (dC .none) ZC))))
 dNx)
 (ZE (dF Zd (ZA (ZB 13) (ZA (dF ZAJ (ZA (ZB 13) (ZA (ZB 4) (ZA (dF ZJD (ZA (ZB 0) (ZA (dOp ZO (ZB 6) (ZB 4)) (ZA (ZB 4) (ZA (ZB 7) ZC))))) ZC)))) ZC)))))))))
@[irreducible] def ZGJ:FW:=Zg 14 ZQp
abbrev ZL2:DS :=
 (ZD (ZAB (.tp (.cons (.nm 3) (.cons (.nm 4) .nil))) (ZB 1))
 (ZE (ZA3 (dOp ZCL (dOp ZO (dOp ZO (ZB 4) (ZB 2)) (dI 0)) (dI 1)) (dF ZM0 (ZA (ZB 0) (ZA (ZB 2) (ZA (ZB 3) ZC)))))))
@[irreducible] def ZCZ:FW:=Zg 5 ZL2
abbrev ZEe:DS :=
 (ZD (ZR 3 (dF ZEB (ZA (ZB 0) (ZA (ZB 2) (ZA (ZB 1) ZC)))))
 (ZE (dOp Zz (dF ZGx (ZA (ZB 3) ZC)) (ZAI 1 [2,3] (.nm 0) (ZAh (ZA (dF (f1 ZBQ) (ZA (ZB 0) ZC)) ZC)) (ZCX (dB (dOp ZCM (ZB 0) (ZB 1))) (dB (dOp ZCM (ZB 0) (ZB 2)))) (ZB 0)))))
@[irreducible] def ZA8:FW:=Zg 4 ZEe
abbrev ZLB:DS :=
 (ZD (ZAB (.tp (.cons (.nm 2) (.cons (.nm 3) .nil))) (dOp ZO (ZB 0) (ZB 1)))
 (ZE (dOp ZD5 (ZB 3) (dI 2))))
@[irreducible] def ZBm:FW:=Zg 4 ZLB
abbrev ZL0:DS :=
 (ZD (ZAB (.tp (.cons (.nm 5) (.cons (.nm 6) .nil))) (ZB 2))
 (ZD (ZAB (.tp (.cons (.nm 7) (.cons (.nm 8) (.cons (.nm 9) (.cons (.nm 10) .nil))))) (dOp ZO (ZB 6) (ZB 3)))
 (ZD (Zr (dB (dOp ZCL (ZB 4) (dF ZEB (ZA (ZB 1) (ZA (ZB 3) (ZA (ZB 5) ZC))))))
 (ZE (ZOB (dOp ZDK (dC (.str "again")) (dOp ZO (ZB 0) (dI 4))) (dF ZBm (ZA (ZB 8) (ZA (ZB 4) ZC)))))
 dNx)
 (ZE (dOp ZL1 (dOp ZO (ZB 10) (ZB 4)) (dI 0))))))
@[irreducible] def ZCO:FW:=Zg 11 ZL0
abbrev ZOP:DS :=
 (ZD (ZR 4 (dF (f1 ZBQ) (ZA (ZB 1) ZC)))
 (ZD (ZR 5 (ZAI 1 [4,2] (.nm 0) (ZAh (ZA (dI 1) (ZA (ZB 4) ZC))) ZES (dOp ZAq (dOp Zz (ZB 2) (ZB 0)) (ZB 1))))
 (ZE (dSl (ZAI 1 [3,1] (.nm 0) (ZBY (ZB 5)) (ZCX (dB (dOp ZCM (ZB 0) (ZB 1))) (dB (dF ZBm (ZA (ZB 2) (ZA (ZB 0) ZC))))) (ZB 0)) ZBz (ZEY (dOp ZO (ZB 0) (dI 0)))))))
@[irreducible] def ZE2:FW:=Zg 6 ZOP
abbrev ZVQ:DS :=
 (ZD (ZAB (.tp (.cons (.nm 4) (.cons (.nm 5) .nil))) (ZB 1))
 (ZD (ZAB (.tp (.cons (.nm 6) (.cons (.nm 7) (.cons (.nm 8) (.cons (.nm 9) .nil))))) (dOp ZO (ZB 5) (ZB 2)))
 (ZD (ZR 10 (dF ZCI (ZA (dF Zd (ZA (dF Zd (ZA (ZB 2) (ZA (ZB 3) ZC))) (ZA (dF Zd (ZA (ZB 3) (ZA (ZB 2) ZC))) ZC))) ZC)))
 (ZD (Zr (ZCX (dB (dOp ZDK (dC (.str "others")) (dOp ZO (ZB 0) (dI 4)))) (dB (dF ZBm (ZA (ZB 7) (ZA (ZB 3) ZC)))))
 (ZJx 10 (ZAI 1 [2,3] (.nm 0) (ZBY (dF ZE2 (ZA (ZB 0) (ZA (ZB 7) (ZA (ZB 2) (ZA (ZB 3) ZC)))))) ZES (dF Zd (ZA (dF Zd (ZA (ZB 1) (ZA (ZB 0) ZC))) (ZA (dF Zd (ZA (ZB 0) (ZA (ZB 2) ZC))) (ZA (dF Zd (ZA (ZB 2) (ZA (ZB 0) ZC))) (ZA (dF Zd (ZA (ZB 0) (ZA (ZB 1) ZC))) ZC)))))))
 dNx)
 (ZE (ZB 10))))))
@[irreducible] def ZL3:FW:=Zg 11 ZVQ
abbrev ZP6:DS :=
 (ZD (ZAB (.tp (.cons (.nm 5) (.cons (.nm 6) .nil))) (ZB 1))
 (ZD (ZAB (.tp (.cons (.nm 7) (.cons (.nm 8) (.cons (.nm 9) (.cons (.nm 10) .nil))))) (dOp ZO (ZB 6) (ZB 2)))
 (ZD (ZAB (.tp (.cons (.nm 11) (.cons (.nm 12) .nil))) (dOp ZO (ZB 8) (ZB 3)))
 (ZD (Zr (dB (ZB 4))
 (ZR 10 (dF ZAb (ZA (ZB 10) (ZA (ZB 3) (ZA (dI 0) ZC)))))
 (Zr (ZCX (dB (dOp ZD5 (ZB 12) (dI 2))) (dOr (dB (dOp ZCj (dC (.str "wait")) (dOp ZO (ZB 0) (dI 4)))) (dB (dOp ZCL (dOp ZO (ZB 10) (ZB 3)) (dI 1)))))
 (ZKk 8 9 10 (ZA (dF ZAb (ZA (ZB 8) (ZA (ZB 3) (ZA (dF Zd (ZA (ZB 11) (ZA (dI 2) ZC))) ZC)))) (ZA (dF ZAb (ZA (ZB 9) (ZA (ZB 3) (ZA (dI 0) ZC)))) (ZA (dF ZAb (ZA (ZB 10) (ZA (ZB 3) (ZA (dI 0) ZC)))) ZC))))
 (Zr (ZCX (dB (dOp ZD5 (ZB 12) (dI 2))) (dB (dOp ZCL (dOp ZO (ZB 10) (ZB 3)) (dI 0))))
 (ZD (Zr (dB (dOp ZCL (ZB 12) (dI 0)))
 (ZPX 8 9 (ZA (dF ZAb (ZA (ZB 8) (ZA (ZB 3) (ZA (dF Zd (ZA (ZB 11) (ZA (dI 1) ZC))) ZC)))) (ZA (dF ZAb (ZA (ZB 9) (ZA (ZB 3) (ZA (dI 0) ZC)))) ZC)))
 dNx)
 (ZR 10 (dF ZAb (ZA (ZB 10) (ZA (ZB 3) (ZA (dOp ZO (ZB 0) (dI 1)) ZC))))))
 (Zr (dB (dOp ZD5 (ZB 12) (dI 2)))
 (ZR 10 (dF ZAb (ZA (ZB 10) (ZA (ZB 3) (ZA (dOp ZCK (dOp ZO (ZB 10) (ZB 3)) (dI 1)) ZC)))))
 dNx))))
 (ZE (dF ZAJ (ZA (ZB 1) (ZA (ZB 2) (ZA (dF Zd (ZA (ZB 7) (ZA (ZB 8) (ZA (ZB 9) (ZA (ZB 10) ZC))))) ZC)))))))))
@[irreducible] def ZEP:FW:=Zg 13 ZP6
abbrev ZEy:DS :=
 (ZD (ZCG ZF 0 (ZB 0) (ZB 1))
 (ZD (ZCG ZF 1 (ZB 0) (ZB 2))
 (ZD (ZCG ZF 2 (ZB 0) (ZB 3))
 (ZD (ZCG ZF 3 (ZB 0) (ZB 4))
 (ZCG ZF 4 (ZB 0) (dF ZCI ZC))))))
@[irreducible] def ZA5:FW:=Zg 5 ZEy
abbrev ZHK:DS :=
 (ZD (ZR 3 (dOp ZDK (dF (f1 ZBQ) (ZA (ZAr ZF 4 (ZB 0)) ZC)) (ZAr ZF 3 (ZB 0))))
 (ZD (ZAT (ZDy (ZAr ZF 4 (ZB 0)) (dF Zd (ZA (ZB 1) (ZA (ZB 2) (ZA (ZB 3) ZC))))))
 (ZD (ZAB (.tp (.cons (.nm 4) (.cons (.nm 5) .nil))) (dF ZGJ (ZA (ZAr ZF 0 (ZB 0)) (ZA (ZAr ZF 1 (ZB 0)) (ZA (ZAr ZF 2 (ZB 0)) (ZA (ZB 1) (ZA (ZB 2) ZC)))))))
 (ZD (Zr (dOr (dB (ZB 3)) (dB (dOp ZMI (ZB 5) (dC .none))))
 (ZD (ZCG ZF 2 (ZB 0) (ZB 4))
 (ZE (dC (.bool false))))
 dNx)
 (ZD (ZCG ZF 2 (ZB 0) (ZB 5))
 (ZE (dC (.bool true))))))))
@[irreducible] def ZAL:FW:=Zg 6 ZHK
abbrev ZF7:DS :=
 (ZBg (.nm 2) (ZAh (ZA (dF (f1 ZBQ) (ZA (ZAr ZF 1 (ZB 0)) ZC)) ZC))
 (Zr (dB (dOp ZCM (ZB 2) (ZB 1)))
 (ZAT (ZFD ZF ZAL (ZB 0) (ZA (ZB 1) (ZA (ZB 2) ZC))))
 dNx))
@[irreducible] def ZA1:FW:=Zg 3 ZF7
abbrev ZVD:DS :=
 (ZD (ZAB (.tp (.cons (.nm 2) (.cons (.nm 3) .nil))) (ZAr ZF 2 (ZB 0)))
 (ZD (ZAB (.tp (.cons (.nm 4) (.cons (.nm 5) (.cons (.nm 6) (.cons (.nm 7) .nil))))) (dOp ZO (ZB 3) (ZB 1)))
 (ZCG ZF 2 (ZB 0) (dF ZAJ (ZA (ZAr ZF 2 (ZB 0)) (ZA (ZB 1) (ZA (dF Zd (ZA (dI 0) (ZA (ZB 5) (ZA (ZB 6) (ZA (ZB 7) ZC))))) ZC)))))))
@[irreducible] def ZIX:FW:=Zg 8 ZVD
abbrev ZT1:DS :=
 (ZD (ZAB (.tp (.cons (.nm 2) (.cons (.nm 3) (.cons (.nm 4) (.cons (.nm 5) .nil))))) (ZB 1))
 (ZD (ZR 6 (dF ZCI ZC))
 (ZD (ZBg (.tp (.cons (.nm 7) (.cons (.nm 8) .nil))) (ZD3 (ZA (ZB 0) ZC))
 (ZD (ZAB (.tp (.cons (.nm 9) (.cons (.nm 10) (.cons (.nm 11) (.cons (.nm 12) .nil))))) (ZB 8))
 (ZD (ZAB (.tp (.cons (.nm 13) (.cons (.nm 14) .nil))) (dOp ZO (ZB 10) (ZB 7)))
 (ZD (Zr (dB (dOp ZDK (ZB 7) (ZB 3)))
 (ZR 8 (dF Zd (ZA (dI 0) (ZA (ZB 10) (ZA (ZB 11) (ZA (dOp ZAQ (dF Zd (ZA (dI 0) ZC)) (dF (f1 ZBQ) (ZA (ZB 12) ZC))) ZC))))))
 (Zr (dB (dOp ZDK (ZB 7) (ZB 4)))
 (ZR 8 (dF Zd (ZA (ZB 9) (ZA (dF ZAb (ZA (ZB 10) (ZA (ZB 7) (ZA (dF Zd (ZA (ZB 13) (ZA (dI 3) ZC))) ZC)))) (ZA (dF ZAb (ZA (ZB 11) (ZA (ZB 7) (ZA (dI 0) ZC)))) (ZA (dOp ZAQ (dF Zd (ZA (dI 0) ZC)) (dF (f1 ZBQ) (ZA (ZB 12) ZC))) ZC))))))
 (Zr (dB (dOp ZDK (ZB 7) (ZB 5)))
 (ZR 8 (dF Zd (ZA (dI 1) (ZA (dF ZAb (ZA (ZB 10) (ZA (ZB 7) (ZA (dF Zd (ZA (dOp Zz (ZB 13) (dI 1)) (ZA (dI 0) ZC))) ZC)))) (ZA (dF ZAb (ZA (ZB 11) (ZA (ZB 7) (ZA (dI 0) ZC)))) (ZA (ZB 12) ZC))))))
 dNx)))
 (ZAT (ZDy (ZB 6) (ZB 8)))))))
 (ZE (dF (f1 ZEr) (ZA (ZB 6) ZC))))))
@[irreducible] def ZLg:FW:=Zg 15 ZT1
abbrev ZFY:DS :=
 (ZD (ZBg (.tp (.cons (.nm 2) (.cons (.nm 3) .nil))) (ZBY (ZB 1))
 (Zr (ZDJ (dB (ZFD ZF ZAL (ZB 0) (ZA (ZB 2) (ZA (ZB 3) ZC)))))
 (ZE (dC (.bool false)))
 dNx))
 (ZE (dC (.bool true))))
@[irreducible] def ZAo:FW:=Zg 4 ZFY
abbrev ZHQ:DS :=
 (ZD (ZBg (.nm 3) (ZBY (dF ZL3 (ZA (ZAr ZF 0 (ZB 0)) (ZA (ZAr ZF 2 (ZB 0)) (ZA (ZB 1) (ZA (ZB 2) ZC))))))
 (Zr (dB (dF ZAo (ZA (ZB 0) (ZA (ZB 3) ZC))))
 (ZE (dC (.bool true)))
 dNx))
 (ZE (dC (.bool false))))
@[irreducible] def ZBC:FW:=Zg 4 ZHQ
abbrev ZNy:DS :=
 (ZD (ZAB (.tp (.cons (.nm 2) (.cons (.nm 3) .nil))) (ZAr ZF 2 (ZB 0)))
 (ZBg (.nm 4) (ZBY (dF ZA8 (ZA (ZAr ZF 1 (ZB 0)) (ZA (ZB 2) (ZA (ZB 1) ZC)))))
 (Zr (dB (dF ZCO (ZA (ZAr ZF 0 (ZB 0)) (ZA (ZAr ZF 1 (ZB 0)) (ZA (ZAr ZF 2 (ZB 0)) (ZA (ZB 1) (ZA (ZB 4) ZC)))))))
 (ZD (ZR 5 (dF ZBC (ZA (ZB 0) (ZA (ZB 1) (ZA (ZB 4) ZC)))))
 (ZCG ZF 2 (ZB 0) (dF ZEP (ZA (ZAr ZF 0 (ZB 0)) (ZA (ZAr ZF 2 (ZB 0)) (ZA (ZB 1) (ZA (ZB 4) (ZA (ZB 5) ZC))))))))
 dNx)))
@[irreducible] def ZDU:FW:=Zg 6 ZNy
abbrev ZNz:DS :=
 (ZD (ZAB (.tp (.cons (.nm 4) (.cons (.nm 5) .nil))) (ZB 2))
 (ZD (ZAB (.tp (.cons (.nm 6) (.cons (.nm 7) (.cons (.nm 8) (.cons (.nm 9) .nil))))) (ZB 3))
 (ZD (ZR 10 (ZMn ZF ZA5 (ZA (ZB 0) (ZA (ZB 1) (ZA (dF Zd (ZA (ZB 4) (ZA (dF ZLg (ZA (ZB 5) (ZA (ZB 3) ZC))) ZC))) (ZA (ZB 6) ZC))))))
 (ZD (ZBg (.nm 11) (ZBY (dOp Zz (ZB 8) (ZB 9)))
 (ZAT (dF ZA1 (ZA (ZB 10) (ZA (ZB 11) ZC)))))
 (ZD (ZBg (.nm 11) (ZBY (ZB 8))
 (ZAT (dF ZIX (ZA (ZB 10) (ZA (ZB 11) ZC)))))
 (ZD (ZBg (.nm 12) (ZAh (ZA (dF (f1 ZBQ) (ZA (ZB 1) ZC)) ZC))
 (Zr (dB (dF ZCZ (ZA (ZB 1) (ZA (ZAr ZF 2 (ZB 10)) (ZA (ZB 12) ZC)))))
 (ZAT (dF ZDU (ZA (ZB 10) (ZA (ZB 12) ZC))))
 dNx))
 (ZD (ZAB (.tp (.cons (.nm 4) (.cons (.nm 5) .nil))) (ZAr ZF 2 (ZB 10)))
 (ZE (dF Zd (ZA (dF Zd (ZA (dOp Zz (ZB 4) (dI 1)) (ZA (ZB 5) ZC))) (ZA (dF (f1 ZEr) (ZA (ZAr ZF 4 (ZB 10)) ZC)) ZC)))))))))))
@[irreducible] def ZA4:FW:=Zg 13 ZNz
abbrev ZRf:DS :=
 (ZD (ZR 4 (dF ZCI ZC))
 (ZD (ZBg (.tp (.cons (.nm 5) (.cons (.nm 6) .nil))) (ZD3 (ZA (ZB 3) ZC))
 (ZD (Zr (ZDJ (dB (dF ZB1 (ZA (ZB 2) (ZA (ZB 6) ZC)))))
 ZVP
 dNx)
 (ZD (ZAB (.tp (.cons (.nm 2) (.cons (.nm 7) .nil))) (dF ZA4 (ZA (ZB 0) (ZA (ZB 1) (ZA (ZB 2) (ZA (ZB 6) ZC))))))
 (ZAT (ZDy (ZB 4) (dF Zd (ZA (ZB 2) (ZA (ZB 7) ZC))))))))
 (ZE (ZB 4))))
@[irreducible] def ZIw:FW:=Zg 8 ZRf
abbrev ZPW:DS :=
 (ZD (ZR 4 (dF ZCI ZC))
 (ZD (ZBg (.tp (.cons (.nm 5) (.cons (.nm 6) .nil))) (ZBY (dF ZIw (ZA (ZB 0) (ZA (ZB 1) (ZA (ZB 2) (ZA (ZB 3) ZC))))))
 (ZD (ZR 2 (ZB 5))
 (ZAT (ZDy (ZB 4) (ZB 6)))))
 (ZE (dF Zd (ZA (ZB 2) (ZA (dF (f1 ZEr) (ZA (ZB 4) ZC)) ZC))))))
@[irreducible] def ZEN:FW:=Zg 7 ZPW
abbrev ZGg:DS :=
 (ZD (ZR 3 (dF ZIQ (ZA (ZB 1) ZC)))
 (ZD (ZR 4 (dI 0))
 (ZD (ZR 5 (dI 0))
 (ZD (ZR 6 (ZB 2))
 (ZD (ZGV 1000 (dB (dOp ZD5 (ZB 5) (ZB 3)))
 (ZD (ZAB (.tp (.cons (.nm 2) (.cons (.nm 7) .nil))) (dF ZA4 (ZA (ZB 0) (ZA (ZB 1) (ZA (ZB 2) (ZA (dF ZNN ZC) ZC))))))
 (ZD (ZG1 5 (dI 1))
 (ZD (Zr (dB (dOp ZCM (dOp ZO (ZB 2) (dI 1)) (dOp ZO (ZB 6) (dI 1))))
 (ZD (ZG1 4 (ZB 5))
 (ZD (ZR 5 (dI 0))
 (ZR 6 (ZB 2))))
 dNx)
 (Zr (dB (dOp ZL1 (ZB 4) (dI 500)))
 (ZE (dC .none))
 dNx)))))
 (ZE (dF Zd (ZA (ZB 4) (ZA (ZB 6) ZC)))))))))
@[irreducible] def ZAR:FW:=Zg 8 ZGg
abbrev ZSL:DS :=
 (ZD (ZAB (.tp (.cons (.nm 2) (.cons (.nm 3) (.cons (.nm 4) (.cons (.nm 5) (.cons (.nm 6) .nil)))))) (ZB 0))
 (ZD (ZR 7 (dF (f1 ZBQ) (ZA (ZB 1) ZC)))
 (ZD (ZR 8 (dF Zd (ZA (dI 1) (ZA (dOp ZAQ (dF Zd (ZA (dF Zd (ZA (dI 0) (ZA (dI 0) ZC))) ZC)) (ZB 7)) (ZA (dOp ZAQ (dF Zd (ZA (ZB 4) ZC)) (ZB 7)) (ZA (dOp ZAQ (dF Zd (ZA (dI 0) ZC)) (ZB 7)) ZC))))))
 (ZE (dF Zd (ZA (dI 0) (ZA (dOp ZAQ (dF Zd (ZA (ZB 8) ZC)) (ZB 7)) ZC)))))))
@[irreducible] def ZFk:FW:=Zg 9 ZSL
abbrev ZGz:DS :=
 (ZD (Zr (dB (dOp ZD5 (ZB 1) (dF (f1 ZBQ) (ZA (ZB 0) ZC))))
 (ZE (dOp ZO (ZB 0) (ZB 1)))
 dNx)
 (ZE (dI 0)))
@[irreducible] def ZBi:FW:=Zg 2 ZGz
abbrev ZKA:DS :=
 (ZD (ZR 2 (dF ZBi (ZA (ZB 0) (ZA (dOp ZAq (ZB 1) (dF ZTf (ZA (dI 1) (ZA (dF (f1 ZBQ) (ZA (ZB 0) ZC)) ZC)))) ZC))))
 (ZD (ZR 3 (dOp ZAq (dOp ZAQ (dOp Zz (dOp Zz (dOp ZAq (ZB 2) (dI 2147483629)) (dOp ZAQ (dOp ZAQ (dI 7919) (ZB 1)) (ZB 1))) (dI 11)) (dI 48271)) (dI 2147483647)))
 (ZD (ZR 3 (dOp ZAq (dOp Zz (dOp Zz (dOp ZAQ (ZB 3) (dI 69621)) (dOp ZAQ (dI 7) (ZB 1))) (dI 1)) (dI 2147483629)))
 (ZD (Zr (dB (dOp ZD5 (ZB 2) (dI 1000000000000000000)))
 (ZR 2 (dI 0))
 dNx)
 (ZE (dF ZCI (ZA (ZB 2) (ZA (ZB 3) (ZA (dI 60) ZC)))))))))
@[irreducible] def ZBq:FW:=Zg 4 ZKA
abbrev ZKW:DS :=
 (ZD (Zr (ZCX (dB (dOp ZL1 (dOp ZO (ZB 0) (dI 0)) (dI 0))) (dB (dOp ZL1 (dOp ZO (ZB 0) (dI 2)) (dI 0))))
 (ZD (ZR 2 (dOp ZAq (dOp ZO (ZB 0) (dI 0)) (ZB 1)))
 (ZD (ZGK (ZB 0) (dI 0) (dOp ZIn (dOp ZO (ZB 0) (dI 0)) (ZB 1)))
 (ZD (ZGK (ZB 0) (dI 2) (dOp ZCK (dOp ZO (ZB 0) (dI 2)) (dI 1)))
 (ZE (ZB 2)))))
 dNx)
 (ZD (ZGK (ZB 0) (dI 1) (dOp ZAq (dOp Zz (dOp ZAQ (dOp ZO (ZB 0) (dI 1)) (dI 48271)) (dI 12345)) (dI 2147483647)))
 (ZE (dOp ZAq (dOp ZAq (dOp ZAQ (dOp ZO (ZB 0) (dI 1)) (dOp ZO (ZB 0) (dI 1))) (dI 1999999973)) (ZB 1)))))
@[irreducible] def ZL:FW:=Zg 3 ZKW
abbrev ZJp:DS :=
 (ZD (ZR 2 (dF ZCI ZC))
 (ZD (ZBg (.nm 3) (ZAh (ZA (dOp Zz (dI 2) (dF ZL (ZA (ZB 0) (ZA (dOp ZCK (ZB 1) (dI 1)) ZC)))) ZC))
 (ZD (ZR 4 (dOp ZO (dF ZGx (ZA (dI 1) (ZA (dI 1) (ZA (dI 2) (ZA (dOp Zz (dI 1) (dF ZL (ZA (ZB 0) (ZA (dI 4) ZC)))) ZC))))) (dF ZL (ZA (ZB 0) (ZA (dI 4) ZC)))))
 (ZAT (ZDy (ZB 2) (dF Zd (ZA (ZB 4) (ZA (dF ZL (ZA (ZB 0) (ZA (ZB 4) ZC))) ZC)))))))
 (ZE (dF (f1 ZEr) (ZA (ZB 2) ZC)))))
@[irreducible] def ZC4:FW:=Zg 5 ZJp
abbrev ZI4:DS :=
 (ZD (ZR 1 (dF Zd (ZA (dC (.str "about")) (ZA (dC (.str "again")) (ZA (dC (.str "newer")) (ZA (dC (.str "others")) (ZA (dC (.str "own")) (ZA (dC (.str "refute")) (ZA (dC (.str "wait")) ZC)))))))))
 (ZE (dF (f1 ZEr) (ZA (ZAI 1 [0] (.nm 0) (ZBY (ZB 1)) (dB (dOp ZCM (ZB 0) (ZB 1))) (ZB 0)) ZC))))
@[irreducible] def ZCc:FW:=Zg 2 ZI4
abbrev ZJK:DS :=
 (ZD (ZR 1 (dOp ZO (dF ZGx (ZA (dI 0) (ZA (dI 1) (ZA (dI 2) (ZA (dI 3) ZC))))) (dF ZL (ZA (ZB 0) (ZA (dI 4) ZC)))))
 (ZD (ZR 2 (dOp ZO (dF ZGx (ZA (dI 1) (ZA (dI 2) (ZA (dI 3) (ZA (dOp Zz (dI 1) (dF ZL (ZA (ZB 0) (ZA (dI 9) ZC)))) ZC))))) (dF ZL (ZA (ZB 0) (ZA (dI 4) ZC)))))
 (ZD (ZR 3 (dOp ZO (dF ZGx (ZA (dI 0) (ZA (dI 1) (ZA (dI 2) (ZA (dF ZL (ZA (ZB 0) (ZA (dI 10) ZC))) ZC))))) (dF ZL (ZA (ZB 0) (ZA (dI 4) ZC)))))
 (ZD (ZR 4 (dOp ZO (dF ZGx (ZA (dI 0) (ZA (dI 1) (ZA (dI 2) (ZA (dF ZL (ZA (ZB 0) (ZA (dI 9) ZC))) ZC))))) (dF ZL (ZA (ZB 0) (ZA (dI 4) ZC)))))
 (ZE (dF Zd (ZA (ZB 1) (ZA (ZB 2) (ZA (ZB 3) (ZA (ZB 4) (ZA (dF ZCc (ZA (dC .none) ZC)) ZC)))))))))))
@[irreducible] def ZBW:FW:=Zg 5 ZJK
abbrev ZKo:DS :=
 (ZD (ZR 2 (dF ZL (ZA (ZB 0) (ZA (dI 5) ZC))))
 (ZD (Zr (dB (dOp ZCL (ZB 2) (dI 0)))
 (ZE (dF Zd ZC))
 dNx)
 (ZD (Zr (dB (dOp ZCL (ZB 2) (dI 1)))
 (ZE (ZMY (dF ZL (ZA (ZB 0) (ZA (ZB 1) ZC)))))
 dNx)
 (ZD (ZR 3 (dF (f1 ZWD) (ZA (ZAI 1 [0,1] (.nm 0) (ZAh (ZA (dF ZL (ZA (ZB 0) (ZA (dOp ZO (dF ZGx (ZA (dI 3) (ZA (dI 6) (ZA (dI 30) ZC)))) (dOp ZCK (ZB 2) (dI 2))) ZC))) ZC)) ZES (dF Zd (ZA (dF ZL (ZA (ZB 1) (ZA (ZB 2) ZC))) (ZA (dC (.bool true)) ZC)))) ZC)))
 (ZE (dF (f1 ZEr) (ZA (dF (f1 ZOc) (ZA (ZB 3) ZC)) ZC)))))))
@[irreducible] def ZDE:FW:=Zg 4 ZKo
abbrev ZHF:DS :=
 (ZD (ZR 3 (dF ZKq (ZA (dF ZCI ZC) (ZA (dF ZCI ZC) (ZA (dF ZCI ZC) ZC)))))
 (ZD (ZR 4 (dF (f1 ZVn) (ZA (ZB 1) ZC)))
 (ZD (ZBg (.nm 5) (ZAh (ZA (dF (f1 ZBQ) (ZA (ZB 1) ZC)) ZC))
 (ZD (ZR 6 (dF ZL (ZA (ZB 0) (ZA (ZB 2) ZC))))
 (Zr (ZCX (dB (dOp ZCL (dOp ZO (ZB 1) (ZB 5)) (dI 1))) (ZCX (dB (dOp ZD5 (ZB 6) (dI 2))) (dB (dOp ZL1 (ZB 4) (dI 1)))))
 (ZD (ZAT (ZDy (dOp ZO (ZB 3) (ZB 6)) (ZB 5)))
 (ZR 4 (dOp ZCK (ZB 4) (dI 1))))
 (Zr (ZCX (dB (dOp ZCL (dOp ZO (ZB 1) (ZB 5)) (dI 0))) (dB (dOp ZD5 (ZB 6) (dI 4))))
 (ZAT (ZDy (dOp ZO (ZB 3) (dI 2)) (ZB 5)))
 dNx))))
 (ZD (ZBg (.nm 5) (ZBY (dOp Zz (dOp ZO (ZB 3) (dI 0)) (dOp ZO (ZB 3) (dI 1))))
 (ZGK (ZB 1) (ZB 5) (dI 0)))
 (ZD (ZBg (.nm 5) (ZBY (dOp ZO (ZB 3) (dI 2)))
 (ZGK (ZB 1) (ZB 5) (dI 1)))
 (ZD (ZR 7 (dF ZDE (ZA (ZB 0) (ZA (dOp Zz (dOp ZAQ (dI 4) (dF (f1 ZBQ) (ZA (ZB 1) ZC))) (dI 6)) ZC))))
 (ZE (dF Zd (ZA (ZB 7) (ZA (dF (f1 ZEr) (ZA (dOp ZO (ZB 3) (dI 0)) ZC)) (ZA (dF (f1 ZEr) (ZA (dOp ZO (ZB 3) (dI 1)) ZC)) (ZA (dF (f1 ZEr) (ZA (dOp ZO (ZB 3) (dI 2)) ZC)) ZC))))))))))))
@[irreducible] def ZB2:FW:=Zg 8 ZHF
abbrev ZK0:DS :=
 (ZD (ZR 3 (dOp ZLI (dF ZGx (ZA (dI 1) ZC)) (ZB 1)))
 (ZD (ZR 4 (dOp ZO (dF ZGx (ZA (dI 6) (ZA (dI 20) (ZA (dI 60) ZC)))) (dF ZL (ZA (ZB 0) (ZA (dI 3) ZC)))))
 (ZE (dF (f1 ZEr) (ZA (ZAI 1 [0,3,4] (.nm 0) (ZAh (ZA (dF ZL (ZA (ZB 0) (ZA (dOp Zz (ZB 2) (dI 1)) ZC))) ZC)) ZES (dF ZB2 (ZA (ZB 1) (ZA (ZB 2) (ZA (ZB 3) ZC))))) ZC)))))
@[irreducible] def ZDq:FW:=Zg 5 ZK0
abbrev ZJg:DS :=
 (ZE (dOp ZO (dF ZEN (ZA (ZB 1) (ZA (ZB 2) (ZA (dF ZFk (ZA (ZB 1) (ZA (ZB 2) ZC))) (ZA (dF ZDq (ZA (ZB 0) (ZA (dF (f1 ZBQ) (ZA (ZB 2) ZC)) (ZA (ZB 3) ZC)))) ZC))))) (dI 0)))
@[irreducible] def ZC7:FW:=Zg 4 ZJg
abbrev ZIB:DS :=
 (ZE (ZA3 (dF ZD4 (ZA (ZB 0) (ZA (λ_ g=>some (.ty "int",g)) ZC))) (ZKV (dF ZD4 (ZA (ZB 0) (ZA (λ_ g=>some (.ty "bool",g)) ZC))))))
@[irreducible] def ZEU:FW:=Zg 1 ZIB
abbrev ZBs(rec:FW):DS :=
 (ZD (Zr (dB (dF ZD4 (ZA (ZB 1) (ZA (λ_ g=>some (.ty "tuple",g)) ZC))))
 (ZD (Zr (dOr (ZDJ (dB (dF ZD4 (ZA (ZB 0) (ZA (λ_ g=>some (.ty "tuple",g)) ZC))))) (dB (dOp ZCM (dF (f1 ZBQ) (ZA (ZB 0) ZC)) (dF (f1 ZBQ) (ZA (ZB 1) ZC)))))
 (ZE (dC (.bool false)))
 dNx)
 (ZE (dF (f1 ZFX) (ZA (ZAI 2 [] (.tp (.cons (.nm 0) (.cons (.nm 1) .nil))) (ZJY (ZA (ZB 0) (ZA (ZB 1) ZC))) ZES (dF rec (ZA (ZB 0) (ZA (ZB 1) ZC)))) ZC))))
 dNx)
 (ZD (Zr (dB (dOp ZMI (ZB 1) (dC .none)))
 (ZE (dOp ZMI (ZB 0) (dC .none)))
 dNx)
 (ZD (Zr (dOr (dB (dF ZD4 (ZA (ZB 1) (ZA (λ_ g=>some (.ty "bool",g)) ZC)))) (dB (dF ZD4 (ZA (ZB 0) (ZA (λ_ g=>some (.ty "bool",g)) ZC)))))
 (ZE (ZA3 (dF ZD4 (ZA (ZB 0) (ZA (λ_ g=>some (.ty "bool",g)) ZC))) (ZA3 (dF ZD4 (ZA (ZB 1) (ZA (λ_ g=>some (.ty "bool",g)) ZC))) (dOp ZCL (ZB 0) (ZB 1)))))
 dNx)
 (ZE (ZA3 (dF ZD4 (ZA (ZB 0) (ZA (λ_ g=>some (.ty "int",g)) ZC))) (dOp ZCL (ZB 0) (ZB 1)))))))
@[irreducible] def Zv(n:Nat):FW:=Nat.rec (motive:=λ_=>FW) (λ_ _=>none) (λ_ r=>Zg 2 (ZBs r)) n
theorem ZIW:Zv 0 = λ_ _=>none:=by
 unfold Zv;rfl
theorem ZEF(k:Nat):Zv (k+1)=Zg 2 (ZBs (Zv k)):=by
 unfold Zv;rfl
theorem ZCd(h:EvS (ZBs (Zv k) [some a0,some a1] g) (runP P)):EvP (Zv (k+1) [a0,a1] g) P:=by
 rw[ZEF];exact ZQV h
abbrev ZI6:DS :=
 (ZD (ZR 1 (dI 1))
 (ZD (ZBg (.tp (.cons (.nm 2) (.cons (.nm 3) .nil))) (ZBY (ZB 0))
 (ZD (ZR 4 (dOp ZAQ (dOp ZAQ (ZB 2) (dF (f1 ZBQ) (ZA (ZB 0) ZC))) (dOp ZCK (dF (f1 ZBQ) (ZA (ZB 0) ZC)) (dI 1))))
 (ZD (ZR 5 (ZB 1))
 (ZD (ZGV 1000 (dB (dOp ZCM (dOp ZAq (ZB 5) (ZB 4)) (dI 0)))
 (ZR 5 (dOp Zz (ZB 5) (ZB 1))))
 (ZR 1 (ZB 5))))))
 (ZE (ZB 1))))
@[irreducible] def ZCe:FW:=Zg 6 ZI6
abbrev ZED:DS :=
 (ZD (ZR 4 (dF ZCI (ZA (ZB 2) ZC)))
 (ZD (ZBg (.nm 5) (ZAh (ZA (ZB 3) ZC))
 (ZAT (ZDy (ZB 4) (dOp ZO (dF ZA4 (ZA (ZB 0) (ZA (ZB 1) (ZA (dOp ZO (ZB 4) (dUn negW (dI 1))) (ZA (dF Zd (ZA (dF Zd ZC) (ZA (dF Zd ZC) (ZA (dF Zd ZC) (ZA (dF Zd ZC) ZC))))) ZC))))) (dI 0)))))
 (ZE (ZB 4))))
@[irreducible] def ZA0:FW:=Zg 6 ZED
abbrev ZJE:DS :=
 (ZD (ZR 3 (dF ZAR (ZA (ZB 0) (ZA (ZB 1) (ZA (ZB 2) ZC)))))
 (ZD (Zr (dOr (ZDJ (dB (dF ZD4 (ZA (ZB 3) (ZA (λ_ g=>some (.ty "tuple",g)) ZC))))) (dOr (dB (dOp ZCM (dF (f1 ZBQ) (ZA (ZB 3) ZC)) (dI 2))) (ZDJ (dB (dF ZEU (ZA (dOp ZO (ZB 3) (dI 0)) ZC))))))
 (ZE (dC (.bool false)))
 dNx)
 (ZD (Zr (ZDJ (dB (ZDu ZTx ZTx (dI 0) (dOp ZO (ZB 3) (dI 0)) (dI 500))))
 (ZE (dC (.bool false)))
 dNx)
 (ZD (ZR 4 (dF ZA0 (ZA (ZB 0) (ZA (ZB 1) (ZA (ZB 2) (ZA (dOp Zz (dOp ZO (ZB 3) (dI 0)) (dF ZCe (ZA (ZB 1) ZC))) ZC))))))
 (ZD (Zr (ZDJ (dB (dF (Zv 8) (ZA (dOp ZO (ZB 3) (dI 1)) (ZA (dOp ZO (ZB 4) (dOp ZO (ZB 3) (dI 0))) ZC)))))
 (ZE (dC (.bool false)))
 dNx)
 (ZD (Zr (dB (dF (f1 ZQS) (ZA (ZAI 1 [3] (.nm 0) (ZBY (dSl (ZB 4) (ZEY (dOp ZO (ZB 3) (dI 0))) ZBz)) ZES (dOp ZCM (dOp ZO (ZB 0) (dI 1)) (dOp ZO (dOp ZO (ZB 1) (dI 1)) (dI 1)))) ZC)))
 (ZE (dC (.bool false)))
 dNx)
 (ZE (ZOB (dOp ZCL (dOp ZO (ZB 3) (dI 0)) (dI 0)) (dOp ZCM (dOp ZO (dOp ZO (ZB 4) (dOp ZCK (dOp ZO (ZB 3) (dI 0)) (dI 1))) (dI 1)) (dOp ZO (dOp ZO (ZB 3) (dI 1)) (dI 1)))))))))))
@[irreducible] def ZBa:FW:=Zg 5 ZJE
abbrev ZTd:DS :=
 (ZD (ZBg (.nm 1) (ZAh (ZA (dOp Zz (dI 1) (dF ZWJ (ZA (dI 1) (ZA (dF (f1 ZBQ) (ZA (ZB 0) ZC)) ZC)))) ZC))
 (ZD (ZR 2 (dF ZBq (ZA (ZB 0) (ZA (ZB 1) ZC))))
 (ZD (ZR 3 (dF ZBW (ZA (ZB 2) ZC)))
 (ZD (ZR 4 (dF ZC4 (ZA (ZB 2) (ZA (dOp ZO (dF ZGx (ZA (dI 3) (ZA (dI 4) ZC))) (dF (f1 ZWC) (ZA (dOp ZCL (dF ZL (ZA (ZB 2) (ZA (dI 8) ZC))) (dI 7)) ZC))) ZC))))
 (ZD (ZR 5 (dF ZC7 (ZA (ZB 2) (ZA (ZB 3) (ZA (ZB 4) (ZA (dI 8) ZC))))))
 (ZD (Zr (ZDJ (dB (dF ZBa (ZA (ZB 3) (ZA (ZB 4) (ZA (ZB 5) ZC))))))
 (ZE (dC (.bool false)))
 dNx)
 (ZD (ZR 6 (dOp ZO (dF ZAR (ZA (ZB 3) (ZA (ZB 4) (ZA (ZB 5) ZC)))) (dI 1)))
 (Zr (ZDJ (dB (dF (Zv 8) (ZA (dF ZAR (ZA (ZB 3) (ZA (ZB 4) (ZA (ZB 6) ZC)))) (ZA (dF Zd (ZA (dI 0) (ZA (ZB 6) ZC))) ZC)))))
 (ZE (dC (.bool false)))
 dNx))))))))
 (ZD (ZR 2 (dF ZBq (ZA (ZB 0) (ZA (dI 9) ZC))))
 (ZD (ZR 3 (dF ZBW (ZA (ZB 2) ZC)))
 (ZD (ZR 7 (dOp Zz (dF Zd (ZA (dF Zd (ZA (dI 3) (ZA (dI 0) ZC))) ZC)) (dOp ZEw (dF Zd (ZA (dF Zd (ZA (dI 4) (ZA (dI 0) ZC))) ZC)) (dI 6))))
 (ZD (ZR 5 (dOp ZO (dF ZEN (ZA (ZB 3) (ZA (ZB 7) (ZA (dF ZFk (ZA (ZB 3) (ZA (ZB 7) ZC))) (ZA (dOp ZEw (dF Zd (ZA (dF Zd (ZA (dF Zd (ZA (dI 0) ZC)) (ZA (dF Zd ZC) (ZA (dF Zd ZC) (ZA (dF Zd ZC) ZC))))) ZC)) (dF ZL (ZA (ZB 2) (ZA (dI 2) ZC)))) ZC))))) (dI 0)))
 (ZE (dF ZBa (ZA (ZB 3) (ZA (ZB 7) (ZA (ZB 5) ZC))))))))))
@[irreducible] def ZJZ:FW:=Zg 8 ZTd
end
variable{d:PyData}{b m i u x j a F M B:Nat}{ns ks fa le co ups lo due:List Int}{g g':G}{v tn:Int}{ys ds:Qd}{ss cl:List Str}{s:Str}{α:Type}{h:Nat->List Hs}{w:Int×Int}{R:Rw}
section
variable{g:G}{P:W->G->Prop}{r:Ru}{ts:Qi}{hs:List Hs}{e:En}{s:Sx}{tn:Int}{xs:Qd}
local macro_rules
 | `(tactic| symm) => `(tactic| repeat (first
  | with_reducible (first
   | refine ZVZ ?_ | refine x_nil ?_ | refine x_c ?_ | refine x_op ?_ | refine x_f ?_ | refine ZV8 ?_ | refine x_b ?_ | refine ZKw ?_ | refine ZQ6 ?_ | refine x_set ?_ | refine x_ifS ?_ | refine x_and ?_ | refine x_or ?_ | refine x_not ?_
   | refine ZUG ?_ | refine as_i ?_ | refine x_asg ?_ | refine x_ret ?_ | refine ZP8 ?_ | refine x_for ?_ | refine ZTk ?_ | refine x_retN ?_
   | refine x_un ?_ | refine ZT0 ?_ | refine x_orV ?_ | refine ZLC ?_ | refine x_if ?_ | refine ZRb ?_
   | refine x_sl ?_ | refine ZPH ?_ | refine ZUg ?_ | refine ZUU ?_ | refine ZVt ?_ | refine ZRU ?_ | refine ZVk ?_ | refine ZTW ?_ | refine ZTb ?_ | refine x_augS ?_ | refine ZTm ?_ | refine x_fld ?_ | refine ZUb ?_ | refine ZUw ?_ | refine ZUS ?_ | refine x_par ?_ | refine ZVi ?_ | refine x_pick ?_ | refine x_ext ?_ | refine x_ins ?_)
  | ((with_reducible refine ZNH ?_ ?_); exact rfl)
  | refine ZO3 ?_ | refine ZT2 ?_ | refine Exists.intro _ (And.intro rfl ?_)
  | refine Exists.intro _ (Exists.intro _ (Exists.intro _ (And.intro rfl (And.intro (by assumption) (And.intro rfl ?_)))))
  | refine Exists.intro _ (Exists.intro _ (Exists.intro _ (And.intro rfl (And.intro (by assumption) (And.intro (Xd rfl) (And.intro rfl ?_))))))
  | refine Exists.intro _ (Exists.intro _ (And.intro rfl (And.intro (by assumption) ?_)))
  | refine And.intro (ZEg (by assumption)) ?_ | refine And.intro (ZEg Zk) ?_ | refine ZBU ?_ | refine ZTp ?_))
theorem ZAl(n:Nat)(lo:Int):(ZDx n lo).length=n:=by unfold ZDx;rw[Xm,length_range]
theorem ZSU{d:Int}(h0 : 0<=d)(h1:d<xs.length)(q:∀x∈xs,P (.dat x) g):EvP (ZO (.dat (.list xs)) (.dat (.int d)) g) P:=by
 have hn:d.toNat<xs.length:=⋯
 refine y_ixL (d:=xs[d.toNat]) ?_ (q _ (getElem_mem hn));have h:=ZFs (xs:=xs) (j:=d.toNat) (v:=xs[d.toNat]) (by simp[hn])
 rwa [toNat_of_nonneg h0] at h
theorem ZBO{xs:List Int}{d:Int}(h0 : 0<=d)(h1:d<xs.length)(q:∀x∈xs,P (.dat (.int x)) g):EvP (ZO (.dat (.list (xs.map .int))) (.dat (.int d)) g) P:=ZSU h0 (by rw[Xm];exact h1) λx hx=>by
 obtain⟨z,hz,rfl⟩:=List.mem_map.mp hx;exact q z hz
local macro_rules
 | `(tactic| exfalso) => `(tactic| refine ev_in (by with_unfolding_all rfl) (by repeat (first | exact ZVj | apply ZRl | apply ZS7)) ?_)
theorem Zx{m:Int}(hb:Bx g b)(h0 : 0<m)(h1:m<2 ^ 62)(q:∀d g',0<=d->d<m->Dr b g g'->P (.dat (.int d)) g'):EvP (ZL [.ref b,.dat (.int m)] g) P:=by
 have hl:=hb.lt;obtain⟨x,n,c,e⟩:=hb;have slow:EvS ((ZD (ZGK (ZB 0) (dI 1) (dOp ZAq (dOp Zz (dOp ZAQ (dOp ZO (ZB 0) (dI 1)) (dI 48271)) (dI 12345)) (dI 2147483647))) (ZE (dOp ZAq (dOp ZAq (dOp ZAQ (dOp ZO (ZB 0) (dI 1)) (dOp ZO (ZB 0) (dI 1))) (dI 1999999973)) (ZB 1)))) [some (.ref b),some (.dat (.int m)),none] g) (runP P):=by
  symm;refine ZBd e rfl ?_;symm;refine ZEH (ZC8 (by decide)) ?_;symm;refine⟨_,e,?_⟩;symm;refine ZBd (ZAK hl) rfl ?_;symm;refine ZBd (ZAK hl) rfl ?_;symm
  generalize hz:(n*48271+12345) % 2147483647=z
  have z0 : 0<=z:=by rw[<-hz];exact emod_nonneg _ (by decide)
  have z1:z<2147483647:=by rw[<-hz];exact emod_lt_of_pos _ (by decide)
  refine ZEH (ZUH ⋯) ?_;symm;refine ZDk h0 ?_;symm;exact q _ _ (emod_nonneg _ ⋯) (emod_lt_of_pos _ h0) (.set hl)
 exfalso;symm;refine ZBd e rfl ?_;symm;refine⟨λhx=>?_,λhx=>⟨(λz=>by cases z),λ_=>?_⟩⟩
 .symm
  refine ZBd e rfl ?_;symm;refine⟨λhc=>?_,λhx=>?_⟩
  .symm
   refine ZBd e rfl ?_;symm;refine ZDk h0 ?_;symm;refine ZBd e rfl ?_;symm;refine ZTU h0 ⋯ ?_;symm;refine⟨_,e,?_⟩;symm;refine ZBd (ZAK hl) rfl ?_;symm;refine⟨_,ZAK hl,?_⟩;symm;refine q _ _ (emod_nonneg _ ⋯) (emod_lt_of_pos _ h0) ?_;rw[List.set_set];exact .set hl
  .exact ZTk (ZKw slow)
 .exact ZTk (ZKw slow)
theorem ZOL{k:Int}(h0 : 0<=k)(q:∀x,P (.dat (.int x)) g):EvP (ZBi [.inp ns,.dat (.int k)] g) P:=by
 exfalso;symm;refine⟨λhx=>?_,λhx=>?_⟩
 .have hk2:k.toNat<ns.length:=by have:=Xd hx;omega
  symm;refine ZJB (y:=ns.getD k.toNat 0) (x:=.dat (.int (ns.getD k.toNat 0))) (g:=g) (by have:=ZFs (xs:=ns) (j:=k.toNat) (v:=ns.getD k.toNat 0) (by rw[Xq,getElem?_eq_getElem hk2];rfl);rwa [toNat_of_nonneg h0] at this) rfl ?_;symm;exact q _
 .symm
  exact q _
theorem ZNI{k:Int}(hk : 0<=k/\k<=100)(q:∀g',g'.length=g.length+1->(∀n,n<g.length->g'[n]? = g[n]?)->Bx g' g.length->P (.ref g.length) g'):EvP (ZBq [.inp ns,.dat (.int k)] g) P:=by
 have k1 : 0<(if (ns.length:Int) > 1 then (ns.length:Int) else 1):=by split <;> omega
 exfalso;symm
 generalize (if (ns.length:Int) > 1 then (ns.length:Int) else 1)=m at *
 refine ZDk k1 ?_;symm;refine ZOL (emod_nonneg _ ⋯) λx=>?_
 symm;refine ZEH (ZC8 ⋯) ?_;symm;refine ZEH (ZC8 ⋯) ?_;symm;refine ZEH (ZC8 (by decide)) ?_;symm;refine⟨λ_=>?_,λ_=>?_⟩
 .symm
  exact q _ (by simp) (λn hn=>getElem?_append_left hn) ⟨_,_,_,Zk⟩
 .symm
  exact q _ (by simp) (λn hn=>getElem?_append_left hn) ⟨_,_,_,Zk⟩
theorem ZSF{m:Int}(hb:Bx g b)(hm : 2<=m/\m<=8)(q:∀ts g',2<=ts.length->(ts.length:Int)<=m->(∀c∈ts,ZAs c)->Dr b g g'->P (.dat (ZZ ts)) g'):EvP (ZC4 [.ref b,.dat (.int m)] g) P:=by
 have hbl:=hb.lt;exfalso;symm;refine ZAt (j:=0) (g1:=[]) ?_;symm;refine Zx ((Dr.refl hb).app (c:=.pl [])).bx ⋯ ⋯ λd1 g2 l1 u1 D1=>?_
 have D12:=((Dr.refl hb).app (c:=.pl [])).trans D1;have hg2:=D1.len;rw[Xa,length_singleton] at hg2;have c2:g2[g.length]? = some (.pl []):=by rw[D1.kp _ (by rw[Xa,length_singleton];omega) ⋯];exact Zk
 symm;refine⟨⋯,?_⟩;refine ZBZ (λi sd gx=>∃ts hs pc,Dr b g gx/\g.length<gx.length/\gx[g.length]? = some (.pl ((ts:List (Int×Int)).map ZP))/\ts.length=i/\(∀c∈ts,ZAs c)/\sd=[some (.ref b),some (.dat (.int m)),some (.ref g.length),hs,pc]) ⟨[],none,none,D12,⋯,c2,rfl,(λc hc=>by cases hc),rfl⟩ ?_ ?_
 .rintro i x sd gx hx ⟨ts,hs,pc,D3,l3,c3,rfl,hts,rfl⟩
  refine⟨_,rfl,?_⟩;symm;refine Zx D3.bx (by decide) (by decide) λd3 g4 l3 u3 D4=>?_
  symm;refine Zx D4.bx (by decide) (by decide) λd4 g5 l4 u4 D5=>?_
  refine ZBO (xs:=[1,1,2,1+d3]) l4 u4 λp hp=>?_
  have hp4 : 1<=p/\p<=4:=by
   simp only[mem_cons,not_mem_nil,or_false] at hp;omega
  have D35:=D4.trans D5;have c5:g5[g.length]? = some (.pl (ts.map ZP)):=by rw[D35.kp _ ⋯ ⋯];exact c3
  symm;refine Zx D5.bx ⋯ ⋯ λst g6 l5 u5 D6=>?_
  have D36:=D35.trans D6;have c6:g6[g.length]? = some (.pl (ts.map ZP)):=by rw[D36.kp _ ⋯ ⋯];exact c3
  symm;refine⟨_,c6,?_,?_⟩
  .rw[Xm]
   have:=(List.getElem?_eq_some_iff.mp hx).1;rw[ZAl] at this
   omega
  have l6:=D36.len;refine⟨trivial,ts++[(p,st)],_,_,(D3.trans D36).put hbl (le_refl _),by rw[length_set];omega,?_,by rw[Xa];rfl,λc hc=>?_,rfl⟩
  .rw[ZAK ⋯,map_append]
   rfl
  .rcases List.mem_append.mp hc with hc|hc
   .exact hts c hc
   .rw[List.mem_singleton.mp hc]
    exact⟨hp4.1,hp4.2,l5,u5⟩
 .rintro sd gx ⟨ts,hs,pc,D3,l3,c3,hl,hts,rfl⟩
  rw[ZAl] at hl;symm;refine ZDo c3 ?_;symm;exact q ts gx ⋯ ⋯ hts D3
theorem ZQi(hd:d=.none\/∃s∈ZB7,d=.str s)(q:∀cl:List Str,cl.Sublist ZB7->(d=.none->cl=ZB7)->P (.dat (clD cl)) g):EvP (ZCc [.dat d] g) P:=by
 have hok:ok0 d=true:=by
  rcases hd with rfl|⟨s,hs,rfl⟩
  .decide +kernel
  .exact ok7 s hs
 exfalso;symm;refine⟨by decide,?_⟩;refine ZDW PyData.str (λs=>!(PyData.str s).eqv d) .str ZB7 rfl trivial (λs hs=>⟨_,rfl,?_⟩) ?_
 .symm
  refine ZWG (by rw[ok7 s hs,hok];rfl) ?_;symm;refine⟨rfl,rfl,λ_=>?_⟩;symm;exact⟨rfl,rfl⟩
 symm;refine q _ List.filter_sublist λe=>?_
 subst e;rfl
theorem ZKm(hb:Bx g b)(q:∀r g',RuOk r->r.cl=ZB7->Dr b g g'->P (.dat (ruD r)) g'):EvP (ZBW [.ref b] g) P:=by
 exfalso;symm;refine Zx hb (by decide) (by decide) λd1 g1 l1 u1 D1=>?_
 refine ZBO (xs:=[0,1,2,3]) l1 u1 λo ho=>?_
 symm;refine Zx D1.bx (by decide) (by decide) λd2 g2 l2 u2 D2=>?_
 symm;refine Zx D2.bx (by decide) (by decide) λd3 g3 l3 u3 D3=>?_
 refine ZBO (xs:=[1,2,3,1+d2]) l3 u3 λw hw=>?_
 symm;refine Zx D3.bx (by decide) (by decide) λd4 g4 l4 u4 D4=>?_
 symm;refine Zx D4.bx (by decide) (by decide) λd5 g5 l5 u5 D5=>?_
 refine ZBO (xs:=[0,1,2,d4]) l5 u5 λt ht=>?_
 symm;refine Zx D5.bx (by decide) (by decide) λd6 g6 l6 u6 D6=>?_
 symm;refine Zx D6.bx (by decide) (by decide) λd7 g7 l7 u7 D7=>?_
 refine ZBO (xs:=[0,1,2,d6]) l7 u7 λc hc=>?_
 symm;refine ZQi (.inl rfl) λcl _ e=>?_
 have e:=e rfl;subst e;simp only[mem_cons,not_mem_nil,or_false] at ho hw ht hc;symm;exact q ⟨o,w,t,c,ZB7⟩ _ ⟨⟨by show 0<=o;omega,by show o<=3;omega⟩,⟨by show 1<=w;omega,by show w<=9;omega⟩,⟨by show 0<=t;omega,by show t<=9;omega⟩,⟨by show 0<=c;omega,by show c<=8;omega⟩,by show ZB7.length<=7;decide⟩ rfl (D1.trans (D2.trans (D3.trans (D4.trans (D5.trans (D6.trans D7))))))
structure RisN (ks:List Int) (m:Int):Prop where
 up:ks.Pairwise (· < ·)
 lo:∀k∈ks,0<=k
 hi:∀k∈ks,k<m
theorem RisN.nil{m:Int}:RisN [] m:=⟨.nil,(λk hk=>by cases hk),λk hk=>by cases hk⟩
theorem RisN.more{m n:Int}(h:RisN ks m)(hn:m<=n):RisN ks n:=⟨h.up,h.lo,λk hk=>by have:=h.hi k hk;omega⟩
theorem RisN.snoc{m:Int}(h:RisN ks m)(hm : 0<=m):RisN (ks++[m]) (m+1):=⟨by
 rw[List.pairwise_append];exact⟨h.up,List.pairwise_singleton _ _,λa ha c hc=>by rw[List.mem_singleton.mp hc];exact h.hi a ha⟩,λk hk=>by
 rcases List.mem_append.mp hk with hk|hk
 .exact h.lo k hk
 .rw[List.mem_singleton.mp hk];exact hm,λk hk=>by
 rcases List.mem_append.mp hk with hk|hk
 .have:=h.hi k hk;omega
 .rw[List.mem_singleton.mp hk];omega⟩
theorem RisN.rng:∀n:Nat,RisN ((List.range n).map λj:Nat=>(j:Int)) n
 |0=>.nil
 |n+1=>by
  rw[range_succ,map_append];have:=(RisN.rng n).snoc ⋯;exact this.more ⋯
theorem RisN.len_go:∀(ks:List Int) (lo:Int) (m:Int),ks.Pairwise (· < ·)->(∀k∈ks,lo<=k/\k<m)->lo<=m->(ks.length:Int)<=m-lo
 |[],lo,m,_,_,h=>by show(0:Int)<=_;omega
 |a::r,lo,m,hp,hk,h=>by
  have ha:=hk a (Xs ..);rw[List.pairwise_cons] at hp;have:=RisN.len_go r (a+1) m hp.2 (λk hk2=>⟨by have:=hp.1 k hk2;omega,(hk k (Xo _ hk2)).2⟩) ⋯;rw[Xc];omega
theorem RisN.len{m:Int}(h:RisN ks m)(hm : 0<=m):(ks.length:Int)<=m:=by
 have:=RisN.len_go ks 0 m h.up (λk hk=>⟨h.lo k hk,h.hi k hk⟩) hm;omega
theorem ZSh{kvs:List (Key×W)}{k:Key}{x:W}:(ZEj kvs k x).length<=kvs.length+1:=by
 unfold ZEj
 split
 .rw[Xm];omega
 .rw[Xa];exact le_refl _
theorem ZHX:∀{ms kvs:List (Key×W)},(ZAU kvs ms).length<=kvs.length+ms.length
 |[],kvs=>le_refl _
 |p::r,kvs=>by
  have h1:=ZHX (ms:=r) (kvs:=ZEj kvs p.1 p.2);have h2:=ZSh (kvs:=kvs) (k:=p.1) (x:=p.2);show(ZAU (ZEj kvs p.1 p.2) r).length<=_;rw[Xc];omega
theorem ZKu:(ZAU [] (ns.map λn=>((Sum.inl n:Key),W.dat (.bool true)))).length<=ns.length:=by
 have:=ZHX (ms:=ns.map λn=>((Sum.inl n:Key),W.dat (.bool true))) (kvs:=[]);rw[Xm,length_nil] at this
 omega
theorem ZKG:∀{ns:List Int},ZG2 (ns.map λn=>.tuple [.int n,.bool true])=some (ns.map λn=>(Sum.inl n,.dat (.bool true)))
 |[]=>rfl
 |n::r=>by
  rw[map_cons,ZG2,ZKG];rfl
theorem ZGP:∀{ns:List Int} {kvs:List (Key×W)} {ms:List Int},kvs.map (·.1)=ms.map Sum.inl->ms.Nodup->(∀k∈ms,k∈ms)->∃js:List Int,(ZAU kvs (ns.map λn=>(Sum.inl n,W.dat (.bool true)))).map (·.1)=js.map Sum.inl/\js.Nodup/\∀k∈js,k∈ms\/k∈ns
 |[],kvs,ms,e,nd,_=>⟨ms,e,nd,λk h=>.inl h⟩
 |n::r,kvs,ms,e,nd,_=>by
  have hp:∃ms':List Int,(ZEj kvs (Sum.inl n) (W.dat (.bool true))).map (·.1)=ms'.map Sum.inl/\ms'.Nodup/\∀k∈ms',k∈ms\/k=n:=by
   unfold ZEj
   split
   .refine⟨ms,?_,nd,λk h=>.inl h⟩
    rw[<-e,map_map];apply map_congr_left;intro p hp;show(if p.1=Sum.inl n then (p.1,W.dat (.bool true)) else p).1=p.1
    split <;> rfl
   .rename_i h
    refine⟨ms++[n],by rw[map_append,map_append,e];rfl,?_,λk hk=>?_⟩
    .rw[nodup_append]
     refine⟨nd,by simp,λa ha c hc z=>h ?_⟩;rw[List.mem_singleton.mp hc] at z;subst z;have:(Sum.inl a:Key)∈kvs.map (·.1):=by rw[e];exact List.mem_map.mpr ⟨a,ha,rfl⟩
     obtain⟨p,hp,e2⟩:=List.mem_map.mp this
     exact List.any_eq_true.mpr ⟨p,hp,Xe e2⟩
    .rcases List.mem_append.mp hk with hk|hk
     .exact .inl hk
     .exact .inr (List.mem_singleton.mp hk)
  obtain⟨ms',e1,n1,h1⟩:=hp;obtain⟨js,e2,n2,h2⟩:=ZGP (ns:=r) e1 n1 λ_ h=>h
  refine⟨js,e2,n2,λk hk=>?_⟩;rcases h2 k hk with h|h
  .rcases h1 k h with h|h
   .exact .inl h
   .exact .inr (by rw[h];exact Xs ..)
  .exact .inr (Xo _ h)
theorem ZKn:∀{kvs:List (Key×W)} {ns:List Int},kvs.map (·.1)=ns.map Sum.inl->ZB0 kvs=some ns
 |[],[],_=>rfl
 |[],_::_,e=>by cases e
 |_::_,[],e=>by cases e
 |(k,v)::r,n::ns,e=>by
  rw[map_cons,map_cons] at e;injection e with e1 e2
  have e1:k=Sum.inl n:=e1;subst e1;rw[ZB0,ZKn e2];rfl
theorem ZNx{ns:List Int}(nd:ns.Nodup){m:Int}(h:∀k∈ns,0<=k/\k<m):RisN (ZDD ns) m:=by
 have pm:(ZDD ns).Perm ns:=mergeSort_perm _ _;have pw:(ZDD ns).Pairwise (· <= ·):=by
  refine List.Pairwise.imp (λ{a b} h=>Xd h) (List.pairwise_mergeSort (le:=λa b:Int=>decide (a<=b)) (λa b c h1 h2=>?_) (λa b=>?_) ns)
  .exact Xe (Int.le_trans (Xd h1) (Xd h2))
  .rw[Bool.or_eq_true,decide_eq_true_iff,decide_eq_true_iff]
   exact Int.le_total a b
 have nd2:(ZDD ns).Nodup:=pm.nodup_iff.mpr nd;exact⟨(List.pairwise_and_iff.mpr ⟨pw,nd2⟩).imp λz=>⋯,λk hk=>(h k (pm.mem_iff.mp hk)).1,λk hk=>(h k (pm.mem_iff.mp hk)).2⟩
theorem ZTH{m:Int}(hb:Bx g b)(hm : 0<m/\m<=60)(q:∀lo g',RisN lo m->Dr b g g'->P (.dat (ZI lo)) g'):EvP (ZDE [.ref b,.dat (.int m)] g) P:=by
 exfalso;symm;refine Zx hb (by decide) (by decide) λd1 g1 l1 u1 D1=>?_
 symm;refine⟨λ_=>?_,λz1=>?_⟩
 .symm
  exact q [] _ .nil D1
 symm;refine⟨λ_=>?_,λz2=>?_⟩
 .symm
  refine Zx D1.bx ⋯ ⋯ λd2 g2 l2 u2 D2=>?_
  symm;refine⟨⋯,?_⟩;symm;have e:PyData.tuple (ZDx d2.toNat 0)=ZI ((List.range d2.toNat).map λk:Nat=>(k:Int)):=by
   rw[ZCb];unfold ZI;rw[map_map];rfl
  rw[e];exact q _ _ ((RisN.rng d2.toNat).more ⋯) (D1.trans D2)
 have z1:d1≠0:=λz=>by rw[z] at z1;cases z1
 have z2:d1≠1:=λz=>by rw[z] at z2;cases z2
 symm;refine ZAt (j:=0) (g1:=[]) ?_;symm;refine ZBO (xs:=[3,6,30]) ⋯ (by show d1-2<3;omega) λk hk=>?_
 have hk : 0<k/\k<=30:=by
  simp only[mem_cons,not_mem_nil,or_false] at hk;omega
 symm;refine Zx D1.bx ⋯ ⋯ λd3 g3 l3 u3 D3=>?_
 symm;refine⟨⋯,by rw[ZAl];omega,?_⟩;refine ZPK (λgx=>Dr b g gx) (λi acc=>∃l:List Int,acc=(l.map λn=>PyData.tuple [.int n,.bool true])/\l.length=i/\∀k∈l,0<=k/\k<m) (D1.trans D3) ⟨[],rfl,rfl,λk hk=>by cases hk⟩ ?_ ?_
 .rintro i x gx acc hx Dx ⟨l,rfl,rfl,hl⟩
  refine⟨_,rfl,true,gx,rfl,λ_=>?_,(λz=>by cases z)⟩;symm;refine Zx Dx.bx ⋯ ⋯ λd4 g4 l4 u4 D4=>?_
  symm;refine⟨trivial,Dx.trans D4,l++[d4],by rw[map_append];rfl,by rw[Xa];rfl,λk hk=>?_⟩;rcases List.mem_append.mp hk with hk|hk
  .exact hl k hk
  .rw[List.mem_singleton.mp hk]
   exact⟨l4,u4⟩
 .rintro acc gx Dx ⟨l,rfl,hll,hl⟩
  rw[ZAl] at hll;obtain⟨js,e1,n1,h1⟩:=ZGP (ns:=l) (kvs:=[]) (ms:=[]) rfl List.nodup_nil λ_ h=>h
  have hjl:js.length<=l.length:=by
   have:=ZKu (ns:=l);have e2:=congrArg List.length e1;rw[Xm,Xm] at e2;omega
  symm;refine ZGe (x:=.ref gx.length) (g:=gx++[.dk (ZAU [] (l.map λn=>(Sum.inl n,W.dat (.bool true))))]) ?_ ?_
  .show(ZG2 (l.map λn=>PyData.tuple [.int n,.bool true])).bind _=_
   rw[ZKG];show(if (l.map λn=>PyData.tuple [.int n,.bool true]).length<=1000 then _ else _)=_;rw[Xp (by rw[Xm];omega)]
  symm;refine ZGe (x:=.dat (.list ((ZDD js).map .int))) (g:=gx++[.dk (ZAU [] (l.map λn=>(Sum.inl n,W.dat (.bool true))))]) ?_ ?_
  .show(match (gx++[Cell.dk (ZAU [] (l.map λn=>(Sum.inl n,W.dat (.bool true))))])[gx.length]? with|some (.dk kvs)=>(ZB0 kvs).bind λns=>if ns.length<64 then some (W.dat (.list ((ZDD ns).map .int)),gx++[Cell.dk (ZAU [] (l.map λn=>(Sum.inl n,W.dat (.bool true))))]) else none|_=>none)=_
   rw[Zk];show(ZB0 _).bind _=_;rw[ZKn e1];show(if js.length<64 then _ else _)=_;rw[Xp ⋯]
  symm;refine q (ZDD js) _ (ZNx n1 λk hk=>?_) Dx.app;rcases h1 k hk with h|h
  .cases h
  .exact hl k h
structure HsN (hs:List Hs) (u:Int) (ks:List Int):Prop where
 pr:RisN ks hs.length
 pu:∀k∈ks,(hs.getD k.toNat H0).1=u
structure DoOk (hs:List Hs) (lo fa le co:List Int):Prop where
 plo:RisN lo 60
 pfa:HsN hs 1 fa
 ple:HsN hs 1 le
 pco:HsN hs 0 co
 pap:∀k∈fa,k∉le
def doD(lo fa le co:List Int):PyData:=.tuple [ZI lo,ZI fa,ZI le,ZI co]
structure DoI (hs:List Hs) (i:Nat) (fa le co:List Int):Prop where
 ifa:RisN fa i
 ile:RisN le i
 ico:RisN co i
 fu:∀k∈fa,(hs.getD k.toNat H0).1=1
 lu:∀k∈le,(hs.getD k.toNat H0).1=1
 cu:∀k∈co,(hs.getD k.toNat H0).1=0
 ap:∀k∈fa,k∉le
theorem ZIr{ks:List Int}{a k:Int}{p:Int->Prop}(h:∀k∈ks,p k)(ha:p a):∀k∈ks++[a],p k:=λk hk=>by
 rcases List.mem_append.mp hk with hk|hk
 .exact h k hk
 .rw[List.mem_singleton.mp hk];exact ha
theorem DoI.f(h:DoI hs i fa le co)(hu:(hs.getD i H0).1=1):DoI hs (i+1) (fa++[(i:Int)]) le co:=⟨h.ifa.snoc ⋯,h.ile.more ⋯,h.ico.more ⋯,ZIr (k:=0) h.fu (by rw[toNat_natCast];exact hu),h.lu,h.cu,ZIr (k:=0) h.ap λz=>by have:=h.ile.hi _ z;omega⟩
theorem DoI.l(h:DoI hs i fa le co)(hu:(hs.getD i H0).1=1):DoI hs (i+1) fa (le++[(i:Int)]) co:=⟨h.ifa.more ⋯,h.ile.snoc ⋯,h.ico.more ⋯,h.fu,ZIr (k:=0) h.lu (by rw[toNat_natCast];exact hu),h.cu,λk hk z=>by
 rcases List.mem_append.mp z with z|z
 .exact h.ap k hk z
 .rw[List.mem_singleton.mp z] at hk
  have:=h.ifa.hi _ hk;omega⟩
theorem DoI.c(h:DoI hs i fa le co)(hu:(hs.getD i H0).1=0):DoI hs (i+1) fa le (co++[(i:Int)]):=⟨h.ifa.more ⋯,h.ile.more ⋯,h.ico.snoc ⋯,h.fu,h.lu,ZIr (k:=0) h.cu (by rw[toNat_natCast];exact hu),h.ap⟩
theorem DoI.n(h:DoI hs i fa le co):DoI hs (i+1) fa le co:=⟨h.ifa.more ⋯,h.ile.more ⋯,h.ico.more ⋯,h.fu,h.lu,h.cu,h.ap⟩
theorem ZIa(h:RisN ks i)(hi:i<1000):(ks.map PyData.int).length<1000:=by
 rw[Xm];have:=h.len ⋯;omega
noncomputable def uH(ups:List Int):List Hs:=ups.map λu=>(u,[],[],[])
theorem ZML:((uH ups).getD i H0).1=ups.getD i 0:=by
 unfold uH;rw[Xq,Xq,getElem?_map];cases ups[i]? <;> rfl
theorem ZIf:(hs.getD i H0).1=(ZAX hs).getD i 0:=by
 unfold ZAX;rw[Xq,Xq,getElem?_map];cases hs[i]? <;> rfl
theorem DoOk.of(h:DoOk (uH ups) lo fa le co)(e:ZAX hs=ups):DoOk hs lo fa le co:=by
 have hl:(uH ups).length=hs.length:=by rw[<-e];unfold uH ZAX;rw[Xm,Xm]
 have k:∀i,(hs.getD i H0).1=((uH ups).getD i H0).1:=λi=>by rw[ZML,ZIf,e]
 exact⟨h.plo,⟨by rw[<-hl];exact h.pfa.pr,λx hx=>by rw[k];exact h.pfa.pu x hx⟩,⟨by rw[<-hl];exact h.ple.pr,λx hx=>by rw[k];exact h.ple.pu x hx⟩,⟨by rw[<-hl];exact h.pco.pr,λx hx=>by rw[k];exact h.pco.pu x hx⟩,h.pap⟩
noncomputable def ZAp(v:Int):List Int->List Int->List Int
 |[],u=>u
 |k::r,u=>ZAp v r (u.set k.toNat v)
theorem ZAP{v:Int}:∀{ks u:List Int},(ZAp v ks u).length=u.length
 |[],u=>rfl
 |k::r,u=>by rw[ZAp,ZAP,length_set]
theorem ZDP{v:Int}:∀{ks u:List Int} {i:Nat},i<u.length->(∀k∈ks,0<=k)->(ZAp v ks u).getD i 0=if (i:Int)∈ks then v else u.getD i 0
 |[],u,i,h,_=>by simp[ZAp]
 |k::r,u,i,h,h0=>by
  have hk:=h0 k (Xs ..);rw[ZAp,ZDP (by rw[length_set];exact h) λx hx=>h0 x (Xo _ hx),ZK]
  by_cases e:(i:Int)=k
  .rw[Xp (by omega:k.toNat=i/\i<u.length),Xp (show(i:Int)∈k::r by rw[e];exact Xs ..)]
   split <;> rfl
  .rw[Xn (by omega : ¬(k.toNat=i/\i<u.length))]
   by_cases z:(i:Int)∈r
   .rw[Xp z,Xp (Xo _ z)]
   .rw[Xn z,Xn (λq=>(List.mem_cons.mp q).elim e z)]
def ZG7(fa le co ups:List Int):List Int:=ZAp 1 co (ZAp 0 (fa++le) ups)
structure Dr2 (b u:Nat) (g g':G):Prop where
 bx:Bx g' b
 len:g.length<=g'.length
 kp:∀n,n<g.length->n≠b->n≠u->g'[n]? = g[n]?
theorem ZPd(h:Dr b g g'):Dr2 b u g g':=⟨h.bx,h.len,λn h1 h2 _=>h.kp n h1 h2⟩
theorem Dr2.trans{b u:Nat}{g g1 g2:G}(h:Dr2 b u g g1)(k:Dr2 b u g1 g2):Dr2 b u g g2:=⟨k.bx,le_trans h.len k.len,λn h1 hn hu=>(k.kp n (lt_of_lt_of_le h1 h.len) hn hu).trans (h.kp n h1 hn hu)⟩
theorem Dr2.set{b u:Nat}{g gx:G}{c:Cell}(h:Dr2 b u g gx)(hub:u≠b):Dr2 b u g (gx.set u c):=⟨by
 obtain⟨x,y,z,e⟩:=h.bx;exact⟨x,y,z,by rw[getElem?_set_ne hub];exact e⟩,by rw[length_set];exact h.len,λn h1 h2 h3=>by rw[getElem?_set_ne (Ne.symm h3)];exact h.kp n h1 h2 h3⟩
theorem ZFh(h:i<ns.length):atI (ns.map PyData.int) (i:Int)=some (.int (ns.getD i 0)):=ZFs (by rw[getElem?_map,Xq,getElem?_eq_getElem h];rfl)
theorem ZT3{n:Nat}{k:Int}(h0 : 0<=k)(h1:k<n):ixN n k=some k.toNat:=by
 unfold ixN;rw[Xp h0,Xp ⋯]
theorem ZKP:(ns.map PyData.int).set i (.int v)=(ns.set i v).map PyData.int:=by rw[map_set]
theorem ZMs{src:Option Nat}{ks:List Int}{sd:Sd}{P:Out->Prop}{dx:DE}{pt:Pat}(hub:u≠b)(hg:g[u]? = some (.pl (ups.map .int)))(hb:Bx g b)(hks:∀k∈ks,0<=k/\k<ups.length)(hsrc:src=none\/∃n,src=some n/\n≠u/\n≠b/\g[n]? = some (.pl (ks.map .int)))(hpt:pt=.nm i)(hdx:dx=dI v)(hi:i≠1)(h1:sd.getD 1 none=some (.ref u))(hil:i<sd.length)
  (q:∀g' sd',Dr2 b u g g'->g'[u]? = some (.pl ((ZAp v ks ups).map .int))->(∀j,j≠i->sd'.getD j none=sd.getD j none)->sd'.length=sd.length->P (.nx sd' g')):EvS (ZAA src (ks.map .int) pt (ZGK (ZB 1) (ZB i) dx) (ks.map .int) sd g) P:=by
 subst hpt hdx;have go:∀(r:List Int) (us:List Int) (gx:G) (sx:Sd),(∀k∈r,0<=k/\k<us.length)->Dr2 b u g gx->gx[u]? = some (.pl (us.map .int))->(∀j,j≠i->sx.getD j none=sd.getD j none)->sx.length=sd.length->(∀g' sd',Dr2 b u g g'->g'[u]? = some (.pl ((ZAp v r us).map .int))->(∀j,j≠i->sd'.getD j none=sd.getD j none)->sd'.length=sd.length->P (.nx sd' g'))->EvS (ZAA src (ks.map .int) (.nm i) (ZGK (ZB 1) (ZB i) (dI v)) (r.map .int) sx gx) P:=by
  intro r
  induction r with
  |nil=>intro us gx sx _ D c hs hsl qq;exact ZB6 (qq gx sx D c hs hsl)
  |cons k r ih =>
   intro us gx sx hk D c hs hsl qq;have hk0:=hk k (Xs ..);rw[map_cons];have e1:(sx.set i (some (W.dat (.int k)))).getD 1 none=some (.ref u):=by
    rw[ZK,Xn ⋯,hs 1 ⋯,h1]
   have e2:(sx.set i (some (W.dat (.int k)))).getD i none=some (.dat (.int k)):=by
    rw[ZK,Xp ⟨rfl,⋯⟩]
   refine ZBG (sd1:=sx.set i (some (.dat (.int k)))) rfl ?_;refine ZTb (x_c ⟨_,rfl,ZNH e1 ⟨_,rfl,ZNH e2 ⟨_,rfl,_,c,k.toNat,ZT3 hk0.1 (by rw[Xm];exact hk0.2),?_⟩⟩⟩);have D2:=D.set (c:=.pl ((us.map PyData.int).set k.toNat (.int v))) hub;have hlu:u<gx.length:=(List.getElem?_eq_some_iff.mp c).1;refine .nx ?_ ?_
   .rcases hsrc with rfl|⟨n,rfl,hn,hnb,hs2⟩
    .trivial
    .show(gx.set u _)[n]? = some (.pl (ks.map .int))
     have hnl:=(List.getElem?_eq_some_iff.mp hs2).1;rw[getElem?_set_ne (Ne.symm hn),D.kp n hnl hnb hn];exact hs2
   .refine ih (us.set k.toNat v) _ _ (λx hx=>by rw[length_set];exact hk x (Xo _ hx)) D2 ?_ (λj hj=>?_) (by rw[length_set];exact hsl) λg' sd' h1 h2 h3 h4=>qq g' sd' h1 h2 h3 h4
    .rw[ZAK hlu,ZKP]
    .rw[ZK,Xn ⋯,hs j hj]
 exact go ks ups g sd hks ⟨hb,le_refl _,λ_ _ _ _=>rfl⟩ hg (λ_ _=>rfl) rfl q
theorem ZVO{n:Nat}(hn:g[n]? = some (.pl (ns.map .int)))(q:P (.dat (.int ns.sum)) g):EvP (f1 ZVn [.ref n] g) P:=by
 refine ZGe ?_ q;show(lk g n).bind _=_;rw[ZDl hn];show(ZA7 (ns.map .int)).map _=_;rw[ZKx];rfl
theorem ZRX{n:Nat}{xs:Qd}(hn:g[n]? = some (.pl xs))(hm:g[m]? = some (.pl ys))(h:xs.length+ys.length<=1000)(q:P (.dat (.list (xs++ys))) g):EvP (Zz (.ref n) (.ref m) g) P:=by
 refine ZGe ?_ q;show(lk g n).bind _=_;rw[ZDl hn];show(lk g m).bind _=_;rw[ZDl hm];exact Xp h
theorem ZUa{n:Nat}{P:List PyData->Option Nat->G->Prop}(hn:g[n]? = some (.pl xs))(q:P xs (some n) g):EvI (ZNF (.ref n) g) P:=by
 refine i_of (xs:=xs) (src:=some n) (g:=g) ?_ q;show(lk g n).map _=_;rw[ZDl hn];rfl
theorem ZMR:∀{ups:List Int} {i:Nat} {v:Int},i<ups.length->(ups.set i v).sum=ups.sum-ups.getD i 0+v
 |[],i,v,h=>absurd h (not_lt_zero _)
 |u::r,0,v,h=>by
  rw[List.set_cons_zero,sum_cons,sum_cons,List.getD_cons_zero];omega
 |u::r,i+1,v,h=>by
  rw[List.set_cons_succ,sum_cons,sum_cons,List.getD_cons_succ,ZMR (Nat.lt_of_succ_lt_succ h)];omega
theorem ZD0{v w:Int}:∀{ks ups:List Int},ks.Nodup->(∀k∈ks,(0<=k/\k<ups.length)/\ups.getD k.toNat 0=w)->(ZAp v ks ups).sum=ups.sum+(v-w)*ks.length
 |[],ups,_,_=>by simp[ZAp]
 |k::r,ups,nd,h=>by
  have hk:=h k (Xs ..);have nd:=List.nodup_cons.mp nd;rw[ZAp,ZD0 (w:=w) nd.2 λx hx=>?_,ZMR ⋯,hk.2,Xc,Int.natCast_add,mul_add]
  .show _=_+(_+(v-w)*1)
   omega
  .have hx2:=h x (Xo _ hx)
   refine⟨by rw[length_set];exact hx2.1,?_⟩;rw[ZK,Xn (λz=>?_)]
   .exact hx2.2
   .have:x=k:=⋯
    subst this
    exact nd.1 hx
theorem ZK3{m:Int}(h:RisN ks m):ks.Nodup:=h.up.imp λz=>⋯
theorem ZOH{m:Int}{ups:List Int}(hb:Bx g b)(hub:u≠b)(hu:g[u]? = some (.pl (ups.map .int)))(hl:ups.length<=8)(hl0 : 0<ups.length)(h01:∀x∈ups,x=0\/x=1)(hm : 0<m/\m<=1000)
  (q:∀lo fa le co g',DoOk (uH ups) lo fa le co->(1<=ups.sum->(fa.length:Int)+le.length+1<=ups.sum)->Dr2 b u g g'->g'[u]? = some (.pl ((ZG7 fa le co ups).map .int))->P (.dat (doD lo fa le co)) g'):EvP (ZB2 [.ref b,.ref u,.dat (.int m)] g) P:=by
 have hlb:=hb.lt;have hlu:u<g.length:=(List.getElem?_eq_some_iff.mp hu).1;have huL:(uH ups).length=ups.length:=by unfold uH;rw[Xm]
 exfalso;symm;have L1:List.length (g++[Cell.pl []])=g.length+1:=by simp
 have _L:List.length (g++[Cell.pl []]++[Cell.pl []])=g.length+1+1:=by simp
 have L3:List.length (g++[Cell.pl []]++[Cell.pl []]++[Cell.pl []])=g.length+1+1+1:=by simp
 rw[L3,_L,L1]
 generalize hg4:g++[Cell.pl []]++[Cell.pl []]++[Cell.pl []]++[Cell.rl [W.ref g.length,.ref (g.length+1),.ref (g.length+1+1)]]=g4
 have D4:Dr b g g4:=by
  rw[<-hg4];exact((((Dr.refl hb).app).app).app).app
 have l4:g4.length=g.length+4:=by rw[<-hg4];simp
 have a0:g4[g.length]? = some (.pl []):=by rw[<-hg4];simp
 have a1:g4[g.length+1]? = some (.pl []):=by rw[<-hg4];simp
 have a2:g4[g.length+1+1]? = some (.pl []):=by rw[<-hg4,getElem?_append_left (by rw[L3];omega),<-_L];exact Zk
 have a3:g4[g.length+1+1+1]? = some (.rl [W.ref g.length,.ref (g.length+1),.ref (g.length+1+1)]):=by rw[<-hg4,<-L3];exact Zk
 have u4:g4[u]? = some (.pl (ups.map .int)):=by rw[D4.kp u hlu hub];exact hu
 refine ZVO u4 ?_;symm;refine ZAt (j:=0) (g1:=[]) ?_;symm;refine ZK5 u4 ?_;rw[Xm];symm;refine⟨⋯,?_⟩;refine ZBZ (λi sd gx=>∃fa le co z5 z6,Dr b g gx/\g.length+4<=gx.length/\gx[g.length]? = some (.pl (fa.map .int))/\gx[g.length+1]? = some (.pl (le.map .int))/\gx[g.length+1+1]? = some (.pl (co.map .int))/\gx[g.length+1+1+1]? = some (.rl [W.ref g.length,.ref (g.length+1),.ref (g.length+1+1)])/\DoI (uH ups) i fa le co/\(1<=ups.sum->1<=ups.sum-fa.length-le.length)/\sd=[some (.ref b),some (.ref u),some (.dat (.int m)),some (.ref (g.length+1+1+1)),some (.dat (.int (ups.sum-fa.length-le.length))),z5,z6,none]) ?_ ?_ ?_
 .refine⟨[],[],[],none,none,D4,⋯,a0,a1,a2,a3,⟨.nil,.nil,.nil,(λk hk=>by cases hk),(λk hk=>by cases hk),(λk hk=>by cases hk),(λk hk=>by cases hk)⟩,λh=>by simpa using h,?_⟩
  show _=[some (W.ref b),some (.ref u),some (.dat (.int m)),some (.ref (g.length+1+1+1)),some (.dat (.int (ups.sum-((0:Nat):Int)-((0:Nat):Int)))),none,none,none];rw[show ups.sum-((0:Nat):Int)-((0:Nat):Int)=ups.sum by omega];rfl
 .rintro i x sd gx hx ⟨fa,le,co,z5,z6,K1,L1,F1,E1,C1,M1,I1,S1,rfl⟩
  rw[ZCb,getElem?_map] at hx;obtain⟨j,hj,rfl⟩:=mp hx;obtain⟨hj1,hj2⟩:=List.getElem?_eq_some_iff.mp hj;rw[getElem_range] at hj2;subst hj2;rw[length_range] at hj1;have hi:i<ups.length:=⋯
  refine⟨_,rfl,?_⟩;symm;refine Zx K1.bx ⋯ ⋯ λw g2 l2 u2 D2=>?_
  have K2:=K1.trans D2;have kp2:∀n,n<gx.length->n≠b->g2[n]? = gx[n]?:=D2.kp;have _L':g.length+4<=g2.length:=by have:=D2.len;omega
  have F2:g2[g.length]? = some (.pl (fa.map .int)):=by rw[kp2 _ ⋯ ⋯];exact F1
  have E2:g2[g.length+1]? = some (.pl (le.map .int)):=by rw[kp2 _ ⋯ ⋯];exact E1
  have C2:g2[g.length+1+1]? = some (.pl (co.map .int)):=by rw[kp2 _ ⋯ ⋯];exact C1
  have M2:g2[g.length+1+1+1]? = some (.rl [W.ref g.length,.ref (g.length+1),.ref (g.length+1+1)]):=by rw[kp2 _ ⋯ ⋯];exact M1
  have U2:g2[u]? = some (.pl (ups.map .int)):=by rw[K2.kp u hlu hub];exact hu
  symm;refine ZBd U2 (ZFh hi) ?_;symm;rw[Ze];refine⟨λhu1=>?_,λhu1=>bF ?_⟩
  .have hu1:ups.getD i 0=1:=Xd hu1
   have hh:((uH ups).getD i H0).1=1:=by rw[ZML];exact hu1
   symm;refine ⟨λ hw=>?_,λ hw=>bF (by
    symm;refine ZBd U2 (ZFh hi) ?_;symm;rw[Ze,hu1];refine bF (bF ?_);symm;exact⟨trivial,fa,le,co,_,_,K2,_L',F2,E2,C2,M2,I1.n,S1,rfl⟩)⟩
   have hw:w<2:=Xd hw;symm;refine⟨λht=>?_,λht=>by
    symm;refine ZBd U2 (ZFh hi) ?_;symm;rw[Ze,hu1];refine bF (bF ?_);symm;exact⟨trivial,fa,le,co,_,_,K2,_L',F2,E2,C2,M2,I1.n,S1,rfl⟩⟩
   have ht : 1<ups.sum-fa.length-le.length:=Xd ht;symm;rcases(show w=0\/w=1 by omega) with rfl|rfl
   .refine ZCh M2 (d:=.ref g.length) rfl ?_
    refine⟨_,rfl,ZEg F2,?_⟩;symm;refine⟨_,F2,ZIa I1.ifa ⋯,?_⟩;symm;refine⟨trivial,fa++[(i:Int)],le,co,some (.dat (.int (i:Int))),some (.dat (.int 0)),K2.put hlb (le_refl _),by rw[length_set];exact _L',?_,?_,?_,?_,I1.f hh,λz=>?_,?_⟩
    .rw[ZAK ⋯,map_append];rfl
    .rw[getElem?_set_ne ⋯];exact E2
    .rw[getElem?_set_ne ⋯];exact C2
    .rw[getElem?_set_ne ⋯];exact M2
    .rw[Xa,length_singleton];omega
    .rw[Xa,length_singleton,show ups.sum-((fa.length+1:Nat):Int)-(le.length:Int)=ups.sum-fa.length-le.length-1 by omega];rfl
   .refine ZCh M2 (d:=.ref (g.length+1)) rfl ?_
    refine⟨_,rfl,ZEg E2,?_⟩;symm;refine⟨_,E2,ZIa I1.ile ⋯,?_⟩;symm;refine⟨trivial,fa,le++[(i:Int)],co,some (.dat (.int (i:Int))),some (.dat (.int 1)),K2.put hlb ⋯,by rw[length_set];exact _L',?_,?_,?_,?_,I1.l hh,λz=>?_,?_⟩
    .rw[getElem?_set_ne ⋯];exact F2
    .rw[ZAK ⋯,map_append];rfl
    .rw[getElem?_set_ne ⋯];exact C2
    .rw[getElem?_set_ne ⋯];exact M2
    .rw[Xa,length_singleton];omega
    .rw[Xa,length_singleton,show ups.sum-(fa.length:Int)-((le.length+1:Nat):Int)=ups.sum-fa.length-le.length-1 by omega];rfl
  .have hu1:ups.getD i 0≠1:=Xg hu1
   have hu0:ups.getD i 0=0:=by
    have:=h01 _ (ZFB (d:=0) hi);omega
   have hh:((uH ups).getD i H0).1=0:=by rw[ZML];exact hu0
   symm;refine ZBd U2 (ZFh hi) ?_;symm;rw[Ze,hu0];refine bT ?_;symm;refine⟨λhw=>?_,λhw=>?_⟩
   .symm
    refine ZCh M2 (d:=.ref (g.length+1+1)) rfl ?_;refine⟨_,rfl,ZEg C2,?_⟩;symm;refine⟨_,C2,ZIa I1.ico ⋯,?_⟩;refine⟨trivial,fa,le,co++[(i:Int)],_,_,K2.put hlb ⋯,by rw[length_set];exact _L',?_,?_,?_,?_,I1.c hh,S1,rfl⟩
    .rw[getElem?_set_ne ⋯];exact F2
    .rw[getElem?_set_ne ⋯];exact E2
    .rw[ZAK ⋯,map_append];rfl
    .rw[getElem?_set_ne ⋯];exact M2
   .symm
    exact⟨trivial,fa,le,co,_,_,K2,_L',F2,E2,C2,M2,I1.n,S1,rfl⟩
 .rintro sd gx ⟨fa,le,co,z5,z6,K1,L1,F1,E1,C1,M1,I1,S1,rfl⟩
  rw[ZAl,show((ups.length:Int)).toNat=ups.length from toNat_natCast _] at I1;have U1:gx[u]? = some (.pl (ups.map .int)):=by rw[K1.kp u hlu hub];exact hu
  have hfl:=I1.ifa.len ⋯;have hll:=I1.ile.len ⋯;have hk:∀k∈fa++le,0<=k/\k<ups.length:=λk hk=>by
   rcases List.mem_append.mp hk with h|h
   .exact⟨I1.ifa.lo k h,I1.ifa.hi k h⟩
   .exact⟨I1.ile.lo k h,I1.ile.hi k h⟩
  symm;refine ZCh M1 (d:=.ref g.length) rfl ?_;symm;refine ZCh M1 (d:=.ref (g.length+1)) rfl ?_;refine ZRX F1 E1 (by rw[Xm,Xm];omega) ?_;rw[<-map_append];symm;refine ZMs (b:=b) (i:=5) hub U1 K1.bx hk (.inl rfl) rfl rfl (by decide) rfl (by show 5<8;decide) λg2 sd2 D2 U2 hsd hsl=>?_
  have K2:Dr2 b u g g2:=(ZPd K1).trans D2;obtain⟨s0,s1,s2,s3,s4,s5,s6,s7,rfl⟩:∃s0 s1 s2 s3 s4 s5 s6 s7,sd2=[s0,s1,s2,s3,s4,s5,s6,s7]:=by
   match sd2,hsl with
   |[s0,s1,s2,s3,s4,s5,s6,s7],_=>exact⟨_,_,_,_,_,_,_,_,rfl⟩
  have e0:s0=some (.ref b):=hsd 0 (by decide);have e1:s1=some (.ref u):=hsd 1 (by decide);have e3:s3=some (.ref (g.length+1+1+1)):=hsd 3 (by decide);subst e0 e1 e3;have F2:g2[g.length]? = some (.pl (fa.map .int)):=by rw[D2.kp _ ⋯ ⋯ ⋯];exact F1
  have E2:g2[g.length+1]? = some (.pl (le.map .int)):=by rw[D2.kp _ ⋯ ⋯ ⋯];exact E1
  have C2:g2[g.length+1+1]? = some (.pl (co.map .int)):=by rw[D2.kp _ ⋯ ⋯ ⋯];exact C1
  have M2:g2[g.length+1+1+1]? = some (.rl [W.ref g.length,.ref (g.length+1),.ref (g.length+1+1)]):=by rw[D2.kp _ ⋯ ⋯ ⋯];exact M1
  symm;refine ZCh M2 (d:=.ref (g.length+1+1)) rfl ?_;refine ZUa C2 ?_;refine ZMs (b:=b) (i:=5) hub U2 D2.bx (λk hk=>⟨I1.ico.lo k hk,by rw[ZAP];exact I1.ico.hi k hk⟩) (.inr ⟨_,rfl,⋯,⋯,C2⟩) rfl rfl (by decide) rfl (by show 5<8;decide) λg3 sd3 D3 U3 hsd3 hsl3=>?_
  have K3:Dr2 b u g g3:=K2.trans D3;have l2:=D2.len;have l3:=D3.len;obtain⟨s0,s1,s2,s3,s4,s5,s6,s7,rfl⟩:∃s0 s1 s2 s3 s4 s5 s6 s7,sd3=[s0,s1,s2,s3,s4,s5,s6,s7]:=by
   match sd3,hsl3 with
   |[s0,s1,s2,s3,s4,s5,s6,s7],_=>exact⟨_,_,_,_,_,_,_,_,rfl⟩
  have e0:s0=some (.ref b):=hsd3 0 (by decide);have e1:s1=some (.ref u):=hsd3 1 (by decide);have e3:s3=some (.ref (g.length+1+1+1)):=hsd3 3 (by decide);subst e0 e1 e3;symm;refine ZK5 U3 ?_;rw[Xm,ZAP,ZAP];symm;refine ZTH D3.bx ⋯ λlo g4 hlo D4=>?_
  have F4:g4[g.length]? = some (.pl (fa.map .int)):=by rw[D4.kp _ ⋯ ⋯,D3.kp _ ⋯ ⋯ ⋯];exact F2
  have E4:g4[g.length+1]? = some (.pl (le.map .int)):=by rw[D4.kp _ ⋯ ⋯,D3.kp _ ⋯ ⋯ ⋯];exact E2
  have C4:g4[g.length+1+1]? = some (.pl (co.map .int)):=by rw[D4.kp _ ⋯ ⋯,D3.kp _ ⋯ ⋯ ⋯];exact C2
  have M4:g4[g.length+1+1+1]? = some (.rl [W.ref g.length,.ref (g.length+1),.ref (g.length+1+1)]):=by rw[D4.kp _ ⋯ ⋯,D3.kp _ ⋯ ⋯ ⋯];exact M2
  symm;refine ZCh M4 (d:=.ref g.length) rfl ?_;symm;refine ZDo F4 ?_;symm;refine ZCh M4 (d:=.ref (g.length+1)) rfl ?_;symm;refine ZDo E4 ?_;symm;refine ZCh M4 (d:=.ref (g.length+1+1)) rfl ?_;symm;refine ZDo C4 ?_;symm;exact q lo fa le co _ ⟨hlo.more ⋯,⟨by rw[huL];exact I1.ifa,I1.fu⟩,⟨by rw[huL];exact I1.ile,I1.lu⟩,⟨by rw[huL];exact I1.ico,I1.cu⟩,I1.ap⟩ (λz=>by have:=S1 z;omega) (K3.trans (ZPd D4)) (by rw[D4.kp u ⋯ hub];exact U3)
theorem ZSb(hi:i<ds.length):ZBT ds none (some (i:Int))++[d]++ZBT ds (some ((i:Int)+1)) none=ds.set i d:=by
 have e1:ZBT ds none (some (i:Int))=ds.take i:=by
  have h1:HT.sIx ds.length ds.length (some (i:Int))=i:=by
   show(if (i:Int)<0 then ((i:Int)+(ds.length:Int)).toNat else min (i:Int).toNat ds.length)=i;rw[Xn ⋯];omega
  have h2:HT.sIx ds.length 0 none=0:=rfl;unfold ZBT;rw[h1,h2,drop_zero,Nat.sub_zero]
 have e2:ZBT ds (some ((i:Int)+1)) none=ds.drop (i+1):=by
  have h1:HT.sIx ds.length 0 (some ((i:Int)+1))=i+1:=by
   show(if (i:Int)+1<0 then ((i:Int)+1+(ds.length:Int)).toNat else min ((i:Int)+1).toNat ds.length)=i+1;rw[Xn ⋯];omega
  have h2:HT.sIx ds.length ds.length none=ds.length:=rfl;unfold ZBT;rw[h1,h2,take_of_length_le (by rw[length_drop];omega)]
 rw[e1,e2,List.set_eq_take_append_cons_drop,Xp hi,append_assoc];rfl
theorem ZMe(lo hi:Option Int):(ZBT ds lo hi).length<=ds.length:=by
 unfold ZBT;rw[length_take,length_drop];omega
theorem Zw(hi:i<ds.length)(hl:ds.length<=400)(q:P (.dat (.tuple (ds.set i d))) g):EvP (ZAb [.dat (.tuple ds),.dat (.int (i:Int)),.dat d] g) P:=by
 exfalso;symm;have h1:=ZMe (ds:=ds) none (some (i:Int));have h2:=ZMe (ds:=ds) (some ((i:Int)+1)) none;refine ZLF (show _+1<=1000 by omega) ?_;symm;refine ZLF (by rw[Xa];show _+1+_<=1000;omega) ?_;symm;have e:=ZSb (d:=d) hi;rw[show ZBT ds none (some (i:Int))++(λds=>d::ds) []++ZBT ds (some ((i:Int)+1)) none=ds.set i d from e];exact q
theorem ZGL{n:Int}(hi:i<ts.length)(hc : 0<(ts.getD i (0,0)).1/\(ts.getD i (0,0)).1<2 ^ 60)(q:P (.dat (.int (ZAE (ts.getD i (0,0)) n))) g):EvP (ZCm [.dat (ZZ ts),.dat (.int (i:Int)),.dat (.int n)] g) P:=by
 exfalso;symm;refine ZAd (Zj (a:=(0,0)) hi) ?_;symm;unfold ZAE at q;refine⟨λh=>?_,λh=>?_⟩
 .rw[Xp (Xd h)] at q
  symm;exact q
 .rw[Xn (Xg h)] at q
  symm;refine ZTU hc.1 ⋯ ?_;symm;exact q
theorem ZC9{s:Str}:((ss.map PyData.str).any λy=>y.eqv (.str s))=ZS ss s:=by
 unfold ZS inV
 induction ss with
 |nil=>rfl
 |cons a r ih =>
  rw[map_cons,any_cons,ih,map_cons,any_cons];rfl
theorem ZCz(h:ss.Sublist ZB7):PyData.canLayAll0 (ss.map .str)=true:=by
 have h2:∀s∈ss,ok0 (.str s)=true:=λs hs=>ok7 s (h.mem hs)
 clear h
 induction ss with
 |nil=>rfl
 |cons a r ih =>
  have h3:=h2 a (Xs ..);unfold ok0 at h3;rw[Bool.and_eq_true] at h3;show(PyData.canLay0 (.str a) && PyData.canLayAll0 (r.map .str))=true;rw[h3.1,ih λs hs=>h2 s (Xo _ hs)];rfl
theorem ZAZ{c c':Cell}:(g++[c]).set g.length c'=g++[c']:=by
 rw[List.set_append_right _ _ (le_refl _),sub_self];rfl
theorem ZUr{n y:Int}(hcl:r.cl.Sublist ZB7)(hi:i<ts.length)(h8:ts.length<=8)(hck:∀c∈ts,ZAs c)(q:P (.ref g.length) (g++[.pl ((ZAg r.cl i y (ZAE (ts.getD i (0,0)) n % ((ts.length:Nat):Int))).map .int)])):EvP (ZCa [.dat (ruD r),.dat (ZZ ts),.dat (.int n),.dat (.int (i:Int)),.dat (.int y)] g) P:=by
 have hc:=hck _ (ZFB (d:=(0,0)) hi);exfalso;symm;refine ZFE (by rw[ZCz hcl];decide +kernel) ?_;rw[ZC9]
 generalize hfar:ZAE (ts.getD i (0,0)) n % ((ts.length:Nat):Int)=far at *
 symm;refine⟨λho=>?_,λho=>?_⟩
 .symm
  refine⟨_,Zk,by show(1:Nat)<1000;decide,?_⟩;rw[ZAZ];symm;refine ZGL hi ⟨by have:=hc.1;omega,by have:=hc.2.1;omega⟩ ?_;symm;rw[Xm];refine ZDk ⋯ ?_;rw[hfar];symm;refine ZFE (by rw[ZCz hcl];decide +kernel) ?_;rw[ZC9];symm;refine⟨λha=>?_,λha=>?_⟩
  .symm
   rw[Ze];refine⟨λhn=>?_,λhn=>?_⟩
   .have hn : ¬far=(i:Int):=by simpa using hn
    symm;refine⟨_,Zk,by show(2:Nat)<1000;decide,?_⟩;rw[ZAZ];symm;rw[show ZAg r.cl i y far=[y,(i:Int)]++[far] by unfold ZAg;rw[Xp ho,Xp ⟨ha,hn⟩]] at q;exact q
   .have hn:far=(i:Int):=by simpa using hn
    symm;rw[show ZAg r.cl i y far=[y,(i:Int)] by unfold ZAg;rw[Xp ho,Xn (λz=>z.2 hn)];rfl] at q;exact q
  .rw[show ZAg r.cl i y far=[y,(i:Int)] by unfold ZAg;rw[Xp ho,Xn (λz=>by rw[ha] at z;cases z.1)];rfl] at q
   symm;refine bF ?_;symm;exact q
 .skip
  symm;refine ZGL hi ⟨by have:=hc.1;omega,by have:=hc.2.1;omega⟩ ?_;symm;rw[Xm];refine ZDk ⋯ ?_;rw[hfar];symm;refine ZFE (by rw[ZCz hcl];decide +kernel) ?_;rw[ZC9];symm;refine⟨λha=>?_,λha=>?_⟩
  .symm
   rw[Ze];refine⟨λhn=>?_,λhn=>?_⟩
   .have hn : ¬far=(i:Int):=by simpa using hn
    symm;refine⟨_,Zk,by show(1:Nat)<1000;decide,?_⟩;rw[ZAZ];symm;rw[show ZAg r.cl i y far=[y]++[far] by unfold ZAg;rw[Xn (by rw[ho];exact Xf),Xp ⟨ha,hn⟩]] at q;exact q
   .have hn:far=(i:Int):=by simpa using hn
    symm;rw[show ZAg r.cl i y far=[y] by unfold ZAg;rw[Xn (by rw[ho];exact Xf),Xn (λz=>z.2 hn)];rfl] at q;exact q
  .rw[show ZAg r.cl i y far=[y] by unfold ZAg;rw[Xn (by rw[ho];exact Xf),Xn (λz=>by rw[ha] at z;cases z.1)];rfl] at q
   symm;refine bF ?_;symm;exact q
theorem y_inR{x:PyData}{n:Nat}(hn:g[n]? = some (.pl ys))(h:(ok0 x && PyData.canLayAll0 ys)=true)(q:P (.dat (.bool (ys.any λy=>y.eqv x))) g):EvP (ZDK (.dat x) (.ref n) g) P:=by
 refine⟨_,_,?_,q⟩;show((lk g n).bind λys=>if (ok0 x && PyData.canLayAll0 ys)=true then some (W.dat (.bool (ys.any λy=>y.eqv x)),g) else none)=_;rw[ZDl hn];exact Xp h
theorem ZUC{x:PyData}{n:Nat}(hn:g[n]? = some (.pl ys))(h:(ok0 x && PyData.canLayAll0 ys)=true)(q:P (.dat (.bool (!ys.any λy=>y.eqv x))) g):EvP (ZCj (.dat x) (.ref n) g) P:=by
 refine⟨_,_,?_,q⟩;show((lk g n).bind λys=>if (ok0 x && PyData.canLayAll0 ys)=true then some (W.dat (.bool !(ys.any λy=>y.eqv x)),g) else none)=_;rw[ZDl hn];exact Xp h
theorem ZJl{α:Type}{enc : α->PyData}{d : α}:∀(L:List α) (k:Nat),ZBn k (L.map enc)=(List.range L.length).map λj:Nat=>PyData.tuple [.int ((k+j:Nat):Int),enc (L.getD j d)]
 |[],_=>rfl
 |a::L,k=>by
  rw[map_cons,ZBn,ZJl L (k+1),Xc,List.range_succ_eq_map,map_cons,map_map]
  congr 1
  refine map_congr_left λj _=>?_
  show PyData.tuple [.int ((k+1+j:Nat):Int),enc (L.getD j d)]=.tuple [.int ((k+(j+1):Nat):Int),enc ((a::L).getD (j+1) d)];rw[show k+1+j=k+(j+1) by omega];rfl
theorem ZP3{enc:α->PyData}(d : α)(L:List α):ZBn 0 (L.map enc)=(List.range L.length).map λj:Nat=>PyData.tuple [.int (j:Int),enc (L.getD j d)]:=by
 rw[ZJl (d:=d)];refine map_congr_left λj _=>?_
 rw[zero_add]
theorem ZUO{ks:Qi}(hn:ks.Nodup)(hl:ks.length<=6)(q:P (.dat (.list ((ZBw ks).map ZP))) g):EvP (f1 ZPu [.dat (.list (ks.map ZP))] g) P:=by
 refine ZGe ?_ q;show ZPu (.dat (.list (ks.map ZP))) g=_;unfold ZPu;show(match ZA7 (ks.map ZP) with|some ns=>_|none=>_)=_;have hp:∀ks:List (Int×Int),_L.pairsOf (ks.map ZP)=some ks:=by
  intro ks
  induction ks with
  |nil=>rfl
  |cons k ks ih=>rw[map_cons,_L.pairsOf,ih];rfl
 cases ks with
 |nil=>simp[ZA7,ZDD,ZBw,List.mergeSort_nil]
 |cons k ks =>
  show((_L.pairsOf ((k::ks).map ZP)).bind _)=_;rw[hp];exact Xp ⟨hn,hl⟩
theorem ZJ0{c:Int}(h : 0<=c):ZBT ds none (some c)=ds.take c.toNat:=by
 have h1:HT.sIx ds.length ds.length (some c)=min c.toNat ds.length:=by
  show(if c<0 then (c+(ds.length:Int)).toNat else min c.toNat ds.length)=_;rw[Xn ⋯]
 have h2:HT.sIx ds.length 0 none=0:=rfl;unfold ZBT;rw[h1,h2,drop_zero,Nat.sub_zero]
 by_cases z:c.toNat<=ds.length
 .rw[Nat.min_eq_left z]
 .rw[take_of_length_le ⋯,take_of_length_le ⋯]
theorem ZR3{told:List Int}{x:Int}(h0 : 0<=r.c)(h8:told.length<=8)(h6:(Z6 told r.t x due).length<=6){dn:Nat}(hd:g[dn]? = some (.pl (due.map .int)))(q:P (.dat (.list ((ZAw r told x due).map .int))) g):EvP (ZB4 [.dat (ruD r),.dat (ZI told),.dat (.int x),.ref dn] g) P:=by
 exfalso;symm;refine⟨by rw[ZCF,Xm];omega,?_⟩;refine ZDW (λj:Nat=>PyData.tuple [.int (j:Int),.int (told.getD j 0)]) (λj:Nat=>decide (told.getD j 0<r.t) && (!decide ((j:Int)=x) && !due.contains (j:Int))) (λj:Nat=>PyData.tuple [.int (told.getD j 0),.int (j:Int)]) (List.range told.length) (ZP3 0 told) trivial (λj hj=>?_) ?_
 .refine⟨_,rfl,?_⟩
  symm;refine⟨λh1=>?_,λh1=>⟨by rw[h1];rfl,rfl,λz=>by rw[h1] at z;cases z⟩⟩;symm;rw[Ze];refine⟨λh2=>?_,λh2=>⟨by rw[h1,h2];rfl,rfl,λz=>by rw[h1,h2] at z;cases z⟩⟩;symm;refine ZUC hd (by rw[ZBy];rfl) ?_;rw[_L.any_ints];symm;refine⟨by rw[h1,h2];rfl,rfl,λ_=>?_⟩;symm;exact⟨rfl,rfl⟩
 have hfr:((List.range told.length).filter (λj:Nat=>decide (told.getD j 0<r.t) && (!decide ((j:Int)=x) && !due.contains (j:Int)))).map (λj:Nat=>PyData.tuple [.int (told.getD j 0),.int (j:Int)])=(Z6 told r.t x due).map ZP:=by
  unfold Z6 ZDC;rw[map_map];rfl
 rw[hfr];symm;refine ZUO (ZEJ ..) h6 ?_;symm;rw[ZJ0 h0,<-List.map_take];have hsl:(ZBw (Z6 told r.t x due)).length<=6:=by
  unfold ZBw;rw[(mergeSort_perm _ _).length_eq];exact h6
 refine⟨by rw[Xm,length_take];omega,?_⟩;refine ZAi ZP (λp:Int×Int=>PyData.int p.2) _ rfl trivial (λp _=>⟨_,rfl,?_⟩) ?_
 .symm
  exact⟨rfl,rfl⟩
 have e:((ZBw (Z6 told r.t x due)).take r.c.toNat).map (λp:Int×Int=>PyData.int p.2)=(ZAw r told x due).map .int:=by
  unfold ZAw;rw[map_map];rfl
 rw[e];symm;exact q
theorem ZNl{told:List Int}{x k:Int}(h:k∈ZAw r told x due) : 0<=k/\k.toNat<told.length:=by
 unfold ZAw at h;obtain⟨p,hp,rfl⟩:=List.mem_map.mp h;exact ZNQ ((mergeSort_perm _ _).mem_iff.mp (List.mem_of_mem_take hp))
theorem ZLP{h:Hs}(hcl:r.cl.Sublist ZB7)(h0 : 0<=r.c)(hi:i<ts.length)(hj:j<ts.length)(hne:j≠i)(h8:ts.length<=8)(hck:∀c∈ts,ZAs c)(hh:hs[i]? = some h)(hbl:h.2.1.length=ts.length)(htl:h.2.2.1.length=ts.length)
  (q:∀far news,far=ZAE (ts.getD i (0,0)) tn % ((ts.length:Nat):Int)->news=ZAw r h.2.2.1 i (ZAg r.cl i j far)->∀g',Ex g g'->P (.dat (.tuple [ZIY (ZAO h.2.1 (ZAg r.cl i j far) news ts.length),ZI (Z9 h.2.2.1 news)])) g'):EvP (ZDp [.dat (ruD r),.dat (ZZ ts),.dat (Zm tn hs),.dat (.int (i:Int)),.dat (.int (j:Int))] g) P:=by
 obtain⟨up,book,told,timers⟩:=h;exfalso;symm;refine ZAd (ZIj hh) ?_;symm;refine ZUr hcl hi h8 hck ?_;symm;have q:=q _ _ rfl rfl _ (Ex.refl.app (c:=.pl ((ZAg r.cl (i:Int) (j:Int) (ZAE (ts.getD i (0,0)) tn % ((ts.length:Nat):Int))).map .int)));have hd:(g++[Cell.pl ((ZAg r.cl (i:Int) (j:Int) (ZAE (ts.getD i (0,0)) tn % ((ts.length:Nat):Int))).map .int)])[g.length]? = some (.pl ((ZAg r.cl (i:Int) (j:Int) (ZAE (ts.getD i (0,0)) tn % ((ts.length:Nat):Int))).map .int)):=Zk
 generalize hgg:g++[Cell.pl ((ZAg r.cl (i:Int) (j:Int) (ZAE (ts.getD i (0,0)) tn % ((ts.length:Nat):Int))).map .int)]=gg at *
 clear hgg
 generalize hfar:ZAE (ts.getD i (0,0)) tn % ((ts.length:Nat):Int)=far at *
 have htl:told.length=ts.length:=htl;have hbl:book.length=ts.length:=hbl;have h6:(Z6 told r.t i (ZAg r.cl i j far)).length<=6:=by
  have:=ZOO (told:=told) (most:=r.t) (x:=i) (y:=j) (due:=ZAg r.cl i j far) (i:=i) (j:=j) rfl rfl (by rw[htl];exact hi) (by rw[htl];exact hj) hne (by unfold ZAg;exact mem_append_left _ (Xs ..));omega
 refine ZR3 h0 ⋯ h6 hd ?_;have hmem:∀k∈ZAw r told i (ZAg r.cl i j far),0<=k/\k.toNat<told.length:=λk=>ZNl
 generalize ZAw r told i (ZAg r.cl i j far)=news at *
 generalize ZAg r.cl i j far=due at *
 symm;refine⟨by rw[ZCF,Xm];omega,?_⟩;refine ZDW (λk:Nat=>PyData.tuple [.int (k:Int),ZP (book.getD k (0,0))]) (λk:Nat=>due.contains (k:Int) || news.contains (k:Int)) (λk:Nat=>ZMU (k,book.getD k (0,0))) (List.range book.length) (ZP3 (0,0) book) trivial (λk hk=>?_) ?_
 .refine⟨_,rfl,?_⟩
  symm;refine y_inR hd (by rw[ZBy];rfl) ?_;rw[_L.any_ints];symm;refine⟨λh1=>⟨by rw[h1];rfl,rfl,λ_=>?_⟩,λh1=>?_⟩
  .symm
   exact⟨rfl,rfl⟩
  symm;refine y_inL (by rw[ZBy];rfl) ?_;rw[_L.any_ints];symm;refine⟨by rw[h1];rfl,rfl,λ_=>?_⟩;symm;exact⟨rfl,rfl⟩
 have hnt:((List.range book.length).filter (λk:Nat=>due.contains (k:Int) || news.contains (k:Int))).map (λk:Nat=>ZMU (k,book.getD k (0,0)))=(ZAO book due news ts.length).map ZMU:=by
  unfold ZAO;rw[map_map,hbl];rfl
 rw[hnt];symm;refine ZBZ (λn sd gx=>gx=gg/\∃z,sd=[some (.dat (ruD r)),some (.dat (ZZ ts)),some (.dat (Zm tn hs)),some (.dat (.int (i:Int))),some (.dat (.int (j:Int))),some (.dat (.int tn)),some (.dat (.tuple (hs.map Zl))),some (.dat (.int up)),some (.dat (ZZ book)),some (.dat (ZI (Z9 told (news.take n)))),some (.dat (ZI timers)),some (.ref g.length),some (.dat (.list (news.map .int))),some (.dat (ZIY (ZAO book due news ts.length))),z]) ⟨rfl,_,rfl⟩ ?_ ?_
 .rintro n x sd gx hx ⟨rfl,z,rfl⟩
  rw[getElem?_map] at hx;obtain⟨k,hk,rfl⟩:=mp hx;obtain⟨k0,k1⟩:=hmem k (mem_of_getElem? hk);obtain⟨m,rfl⟩:∃m:Nat,k=(m:Int):=⟨k.toNat,⋯⟩;have hm:m<(Z9 told (news.take n)).length:=by rw[ZBb];omega
  refine⟨_,rfl,?_⟩;symm;refine ZAd (Zj (a:=(0:Int)) hm) ?_;symm;refine Zw (by rw[Xm];exact hm) (by rw[Xm,ZBb];omega) ?_;symm;refine⟨trivial,rfl,some (.dat (.int (m:Int))),?_⟩;have e:(((Z9 told (news.take n)).map PyData.int).set m (.int ((Z9 told (news.take n)).getD m 0+1)))=(Z9 told (news.take (n+1))).map .int:=by
   rw[take_add_one,hk];show _=(Z9 told (news.take n++[(m:Int)])).map PyData.int;rw[ZKr,map_set];rfl
  rw[e];rfl
 .rintro sd gx ⟨rfl,z,rfl⟩
  rw[Xm,take_length];symm;exact q
theorem ZJb{a b:Int×Int}(q:P (.dat (.bool (gtW a b))) g):EvP (ZFd [.dat (ZP a),.dat (ZP b)] g) P:=by
 exfalso;symm;exact q
theorem ZM6{s:Str}(hcl:cl.Sublist ZB7)(hs:ok0 (.str s)=true)(q:P (.dat (.bool (ZS cl s))) g):EvP (ZDK (.dat (.str s)) (.dat (clD cl)) g) P:=by
 refine ZFE (by rw[ZCz hcl,hs];rfl) ?_;rw[ZC9];exact q
theorem ZUc{s:Str}(hcl:cl.Sublist ZB7)(hs:ok0 (.str s)=true)(q:P (.dat (.bool (!ZS cl s))) g):EvP (ZCj (.dat (.str s)) (.dat (clD cl)) g) P:=by
 refine ZPJ (by rw[ZCz hcl,hs];rfl) ?_;rw[ZC9];exact q
theorem ZPL{old:Int×Int}(hcl:r.cl.Sublist ZB7)(q:P (.dat (.bool (ZCl r.cl old w))) g):EvP (ZC6 [.dat (ruD r),.dat (ZP old),.dat (ZP w)] g) P:=by
 exfalso;unfold ZCl at q;symm;refine ZM6 hcl (by decide +kernel) ?_;symm;refine⟨λh=>?_,λh=>?_⟩
 .rw[Xp h] at q
  symm;refine ZJb ?_;symm;exact q
 .rw[Xn (by rw[h];exact Xf)] at q
  symm;have e:=ZPg w old;have e':(!(ZP w).eqv (ZP old)) = !decide (w=old):=by rw[e]
  rw[<-e'] at q;exact q
theorem ZLw{h:Hs}{y n:Nat}(hcl:r.cl.Sublist ZB7)(hl:HL n h)(hy:y<n)(hn:n<=8)(q:P (.dat (Zl (ZCv r.cl h y w))) g):EvP (ZDT [.dat (ruD r),.dat (Zl h),.dat (.int (y:Int)),.dat (ZP w)] g) P:=by
 obtain⟨up,bk,td,tm⟩:=h;have hbl:bk.length=n:=hl.bl;have htl:td.length=n:=hl.tl;show EvP (ZDT [.dat (ruD r),.dat (.tuple [.int up,ZZ bk,ZI td,ZI tm]),.dat (.int (y:Int)),.dat (ZP w)] g) P;exfalso;unfold ZCv at q;have q:P (.dat (Zl (if up=1/\ZS r.cl "refute" = true/\gtW w (bk.getD y (0,0))=true then (up,bk.set y (w.1+1,0),td.set y 0,tm) else (up,bk,td,tm)))) g:=q;symm;rw[Ze];refine⟨λh1=>?_,λh1=>?_⟩
 .have h1:up=1:=Xd h1
  symm;refine ZM6 hcl (by decide +kernel) ?_;symm;refine⟨λh2=>?_,λh2=>?_⟩
  .symm
   refine ZAd (Zj (a:=(0,0)) ⋯) ?_;symm;refine ZJb ?_;symm;refine⟨λh3=>?_,λh3=>?_⟩
   .rw[Xp ⟨h1,h2,h3⟩] at q
    symm;refine Zw (by rw[Xm];omega) (by rw[Xm];omega) ?_;symm;refine Zw (by rw[Xm];omega) (by rw[Xm];omega) ?_;symm;have e1:(bk.map ZP).set y (.tuple [.int (w.1+1),.int 0])=(bk.set y (w.1+1,0)).map ZP:=by rw[map_set];rfl
    have e2:(td.map PyData.int).set y (.int 0)=(td.set y 0).map .int:=by rw[map_set]
    rw[show(λds=>PyData.int (w.1+1)::ds) ((λds=>PyData.int 0::ds) [])=[PyData.int (w.1+1),PyData.int 0] from rfl,e1,e2];exact q
   .rw[Xn (λz=>by rw[h3] at z;cases z.2.2)] at q
    symm;exact q
  .rw[Xn (λz=>by rw[h2] at z;cases z.2.1)] at q
   symm;refine bF ?_;symm;exact q
 .rw[Xn (λz=>Xg h1 z.1)] at q
  symm;refine bF ?_;symm;exact q
theorem ZQ9{h:Hs}{o n:Nat}(hcl:r.cl.Sublist ZB7)(hl:HL n h)(hy:o<n)(hn:n<=8)(q:P (.dat (Zl (ZCu r.cl h o w))) g):EvP (ZFn [.dat (ruD r),.dat (Zl h),.dat (.int (o:Int)),.dat (ZP w)] g) P:=by
 obtain⟨up,bk,td,tm⟩:=h;have hbl:bk.length=n:=hl.bl;have htl:td.length=n:=hl.tl;have hml:tm.length=n:=hl.ml;show EvP (ZFn [.dat (ruD r),.dat (.tuple [.int up,ZZ bk,ZI td,ZI tm]),.dat (.int (o:Int)),.dat (ZP w)] g) P;exfalso;unfold ZCu at q;have q:P (.dat (Zl (if ZCl r.cl (bk.getD o (0,0)) w=true then (up,bk.set o w,td.set o 0,if w.2=1 then tm else tm.set o 0) else (up,bk,td,tm)))) g:=q;symm;refine ZAd (Zj (a:=(0,0)) ⋯) ?_;symm;refine ZPL hcl ?_;symm;have e1:(bk.map ZP).set o (ZP w)=(bk.set o w).map ZP:=by rw[map_set]
 have e2:(td.map PyData.int).set o (.int 0)=(td.set o 0).map .int:=by rw[map_set]
 have e3:(tm.map PyData.int).set o (.int 0)=(tm.set o 0).map .int:=by rw[map_set]
 refine⟨λh1=>?_,λh1=>?_⟩
 .rw[Bool.not_eq_true'] at h1
  rw[Xn (by rw[h1];exact Xf)] at q;symm;exact q
 .rw[Bool.not_eq_false'] at h1
  rw[Xp h1] at q;symm;rw[Ze];refine⟨λh2=>?_,λh2=>?_⟩
  .have h2 : ¬w.2=1:=by simpa using h2
   rw[Xn h2] at q;symm;refine Zw (by rw[Xm];omega) (by rw[Xm];omega) ?_;symm;refine Zw (by rw[Xm];omega) (by rw[Xm];omega) ?_;symm;refine Zw (by rw[Xm];omega) (by rw[Xm];omega) ?_;symm;rw[e1,e2,e3];exact q
  .have h2:w.2=1:=by simpa using h2
   rw[Xp h2] at q;symm;refine Zw (by rw[Xm];omega) (by rw[Xm];omega) ?_;symm;refine Zw (by rw[Xm];omega) (by rw[Xm];omega) ?_;symm;rw[e1,e2];exact q
theorem ZQx{h:Hs}{y n:Nat}{ns:List (Nat×(Int×Int))}(hcl:r.cl.Sublist ZB7)(hl:HL n h)(hy:y<n)(hn:n<=8)(hns:∀x∈ns,x.1<n)(q:P (.dat (Zl (ZW r.cl y h ns))) g):EvP (ZJD [.dat (ruD r),.dat (Zl h),.dat (.int (y:Int)),.dat (ZIY ns)] g) P:=by
 exfalso;symm;refine ZBZ (λi sd gx=>gx=g/\∃z4 z5,sd=[some (.dat (ruD r)),some (.dat (Zl (ZW r.cl y h (ns.take i)))),some (.dat (.int (y:Int))),some (.dat (ZIY ns)),z4,z5]) ⟨rfl,_,_,rfl⟩ ?_ ?_
 .rintro i x sd gx hx ⟨rfl,z4,z5,rfl⟩
  rw[getElem?_map] at hx;obtain⟨k,hk,rfl⟩:=mp hx;have hkn:=hns k (mem_of_getElem? hk);have hL:=ZF5 (cl:=r.cl) (y:=y) (ns:=ns.take i) hl;have e:=ZJ4 (cl:=r.cl) (y:=y) (h:=h) hk;refine⟨_,rfl,?_⟩;symm;rw[Ze];refine⟨λh1=>?_,λh1=>?_⟩
  .have h1:k.1=y:=by have:=Xd h1;omega
   symm;refine ZLw hcl hL hy hn ?_;symm;refine⟨trivial,rfl,some (.dat (.int (k.1:Int))),some (.dat (ZP k.2)),?_⟩;rw[e];unfold ZY;rw[Xp h1];rfl
  .have h1 : ¬k.1=y:=by have:=Xg h1;omega
   symm;refine ZQ9 hcl hL hkn hn ?_;symm;refine⟨trivial,rfl,some (.dat (.int (k.1:Int))),some (.dat (ZP k.2)),?_⟩;rw[e];unfold ZY;rw[Xn h1];rfl
 .rintro sd gx ⟨rfl,z4,z5,rfl⟩
  rw[Xm,take_length];symm;exact q
theorem ZIt{h:Hs}(hi:i<hs.length)(hn:hs.length<=8)(q:P (.dat (Zm tn (hs.set i h))) g):EvP (ZAJ [.dat (Zm tn hs),.dat (.int (i:Int)),.dat (Zl h)] g) P:=by
 exfalso;symm;refine Zw (by rw[Xm];omega) (by rw[Xm];omega) ?_;symm;rw[<-map_set];exact q
structure EnOk (e:En):Prop where
 cl:e.r.cl.Sublist ZB7
 ru:RuOk e.r
 n2 : 2<=e.ts.length
 n8:e.ts.length<=8
 ck:∀c∈e.ts,ZAs c
theorem ZN9{book:Qi}{due news:List Int}{m:Nat}:∀x∈ZAO book due news m,x.1<m:=λx hx=>by
 unfold ZAO at hx;obtain⟨j,hj,rfl⟩:=List.mem_map.mp hx;exact List.mem_range.mp (List.mem_filter.mp hj).1
theorem ZNm{y:Nat}(ok:EnOk e)(w:HsL e.ts.length hs)(hx:x<e.ts.length)(hy:y<e.ts.length)(hne:y≠x)
  (q:∀g',Ex g g'->P (.dat (.tuple [Zm e.tn (Zn e x y hs),if (hs.getD y H0).1=0 then .none else Zm e.tn (Zp e x y hs)])) g'):EvP (ZGJ [.dat (ruD e.r),.dat (ZZ e.ts),.dat (Zm e.tn hs),.dat (.int (x:Int)),.dat (.int (y:Int))] g) P:=by
 have hxl:x<hs.length:=by rw[w.len];exact hx
 have hyl:y<hs.length:=by rw[w.len];exact hy
 have wx:=w.get hx;have wy:=w.get hy;have h8:=ok.n8;have ex:hs[x]? = some (hs.getD x H0):=by rw[Xq,getElem?_eq_getElem hxl];rfl
 exfalso;symm;refine ZLP (h:=hs.getD x H0) ok.cl ok.ru.c.1 hx hy hne h8 ok.ck ex wx.bl wx.tl λfar news hfar hnews g' E=>?_
 have q:=q g' E;unfold Zp Zn at q;rw[show ZBS e (hs.getD x H0) x y=news by unfold ZBS ZAf;rw[hnews,hfar],show ZAf e x y=ZAg e.r.cl x y far by unfold ZAf;rw[hfar]] at q;have wl:=w.len
 generalize hs.getD x H0=h0 at *
 obtain⟨up,bk,td,tm⟩:=h0;symm;refine ZAd (ZIj ex) ?_;symm;refine Zw (by rw[Xm];exact hxl) (by rw[Xm];omega) ?_;symm;have e1:(hs.map Zl).set x (.tuple [.int up,ZZ bk,ZI (Z9 td news),ZI tm])=(hs.set x (up,bk,Z9 td news,tm)).map Zl:=by rw[map_set];rfl
 rw[show(λds=>PyData.int up::ds) ((λds=>ZZ bk::ds) ((λds=>ZI (Z9 td news)::ds) ((λds=>ZI tm::ds) [])))=[PyData.int up,ZZ bk,ZI (Z9 td news),ZI tm] from rfl,e1];have wm:HsL e.ts.length (hs.set x (up,bk,Z9 td news,tm)):=w.set ⟨wx.up,wx.bl,by show(Z9 td news).length=_;rw[ZBb];exact wx.tl,wx.ml⟩;symm;refine ZAd (Zj (a:=H0) hyl) ?_;symm;rw[Ze];refine⟨λh1=>?_,λh1=>?_⟩
 .rw[Xp (Xd h1)] at q
  symm;exact q
 .rw[Xn (Xg h1)] at q
  symm;refine ZAd (Zj (a:=H0) hyl) ?_;symm;refine ZQx ok.cl wy hy h8 ZN9 ?_;symm;refine ZIt (hs:=hs.set x (up,bk,Z9 td news,tm)) (by rw[length_set];exact hyl) (by rw[length_set];omega) ?_;symm;exact q
structure RdAt (n m:Nat) (e:En) (R:Rw) (g:G):Prop where
 ob:g[n]? = some (.ob ZF [.dat (ruD e.r),.dat (ZZ e.ts),.dat (Zm e.tn R.hs),.dat (ZI e.lo),.ref m])
 le:g[m]? = some (.pl (R.le.map ltD))
 ne:n≠m
structure Fr (n m:Nat) (g g':G):Prop where
 len:g.length<=g'.length
 kp:∀k,k<g.length->k≠n->k≠m->g'[k]? = g[k]?
theorem Fr.refl{n:Nat}:Fr n m g g:=⟨le_refl _,λ_ _ _ _=>rfl⟩
theorem Fr.trans{n m:Nat}{g g1 g2:G}(h:Fr n m g g1)(k:Fr n m g1 g2):Fr n m g g2:=⟨le_trans h.len k.len,λi h1 h2 h3=>(k.kp i (lt_of_lt_of_le h1 h.len) h2 h3).trans (h.kp i h1 h2 h3)⟩
theorem Fr.ex{n:Nat}(h:Ex g g'):Fr n m g g':=⟨h.len,λk h1 _ _=>h.kp k h1⟩
theorem Fr.setn{n:Nat}{c:Cell}:Fr n m g (g.set n c):=⟨by rw[length_set];exact le_refl _,λk _ h2 _=>getElem?_set_ne (Ne.symm h2)⟩
theorem Fr.setm{n:Nat}{c:Cell}:Fr n m g (g.set m c):=⟨by rw[length_set];exact le_refl _,λk _ _ h3=>getElem?_set_ne (Ne.symm h3)⟩
theorem ZB8{n:Nat}{c:Cell}(h:g[n]? = some c):n<g.length:=(List.getElem?_eq_some_iff.mp h).1
theorem RdAt.ex{n:Nat}(h:RdAt n m e R g)(x:Ex g g'):RdAt n m e R g':=⟨by rw[x.kp _ (ZB8 h.ob)];exact h.ob,by rw[x.kp _ (ZB8 h.le)];exact h.le,h.ne⟩
theorem RdAt.st{n:Nat}(h:RdAt n m e R g):RdAt n m e ⟨hs,R.le⟩ (g.set n (.ob ZF [.dat (ruD e.r),.dat (ZZ e.ts),.dat (Zm e.tn hs),.dat (ZI e.lo),.ref m])):=⟨ZAK (ZB8 h.ob),by rw[getElem?_set_ne h.ne];exact h.le,h.ne⟩
theorem RdAt.lt{n:Nat}{L:List Lt}(h:RdAt n m e R g):RdAt n m e ⟨R.hs,L⟩ (g.set m (.pl (L.map ltD))):=⟨by rw[getElem?_set_ne (Ne.symm h.ne)];exact h.ob,ZAK (ZB8 h.le),h.ne⟩
theorem ZMf{n:Nat}{y:Nat}(ok:EnOk e)(w:HsL e.ts.length R.hs)(hx:x<e.ts.length)(hy:y<e.ts.length)(hne:x≠y)(hl:R.le.length<1000)(ra:RdAt n m e R g)
  (q:∀g',RdAt n m e (ZH e x y R).2 g'->Fr n m g g'->P (.dat (.bool (ZH e x y R).1)) g'):EvP (ZAL [.ref n,.dat (.int (x:Int)),.dat (.int (y:Int))] g) P:=by
 have ob:=ra.ob;have le:=ra.le;exfalso;symm;refine ZK5 le ?_;symm;refine ZFE (by rw[ZBy];rfl) ?_;rw[_L.any_ints,Xm];symm;refine⟨_,le,by rw[Xm];exact hl,?_⟩;rw[show R.le.map ltD++[PyData.tuple ((λds=>PyData.int (x:Int)::ds) ((λds=>PyData.int (y:Int)::ds) ((λds=>PyData.bool (e.lo.contains (R.le.length:Int))::ds) [])))]=(R.le++[((x:Int),(y:Int),e.lo.contains (R.le.length:Int))]).map ltD by rw[map_append];rfl];have r1:=ra.lt (L:=R.le++[((x:Int),(y:Int),e.lo.contains (R.le.length:Int))]);have f1:Fr n m g (g.set m (.pl ((R.le++[((x:Int),(y:Int),e.lo.contains (R.le.length:Int))]).map ltD))):=.setm
 generalize g.set m (.pl ((R.le++[((x:Int),(y:Int),e.lo.contains (R.le.length:Int))]).map ltD))=g1 at *
 have ob1:=r1.ob;symm;refine ZNm ok w hx hy (Ne.symm hne) λg2 E=>?_
 have r2:=r1.ex E;have f2:=f1.trans (.ex E);have ob2:=r2.ob;unfold ZH at q;cases hb:e.lo.contains (R.le.length:Int) with
 |true =>
  rw[Xp hb] at q;rw[hb] at r2 ob2;symm;refine⟨λ_=>⟨λ_=>?_,(λz=>by cases z)⟩,(λz=>by cases z)⟩;symm;exact q _ (r2.st (hs:=Zn e x y R.hs)) (f2.trans .setn)
 |false =>
  rw[Xn (by rw[hb];exact Xf)] at q;rw[hb] at r2 ob2
  by_cases hu:(R.hs.getD y H0).1=0
  .rw[Xp hu] at q
   rw[Xp hu];symm;refine bF ?_;symm;refine bT ?_;symm;exact q _ (r2.st (hs:=Zn e x y R.hs)) (f2.trans .setn)
  .rw[Xn hu] at q
   rw[Xn hu];symm;refine bF ?_;symm;refine bF ?_;symm;exact q _ (r2.st (hs:=Zp e x y R.hs)) (f2.trans .setn)
theorem ZF6{b:Qi}{h:Nat}(hl:h<b.length)(q:P (.dat (.bool (abF b h))) g):EvP (ZBm [.dat (ZZ b),.dat (.int (h:Int))] g) P:=by
 exfalso;symm;refine ZAd (Zj (a:=(0,0)) hl) ?_;symm;exact q
theorem ZLs{b:Qi}{y:Nat}(ho : 0<=e.r.o)(h2 : 2<=b.length)(h8:b.length<=8)(q:P (.dat (.list ((ZFy e b x y).map λh:Nat=>PyData.int (h:Int)))) g):EvP (ZE2 [.dat (ruD e.r),.dat (ZZ b),.dat (.int (x:Int)),.dat (.int (y:Int))] g) P:=by
 exfalso;symm;rw[Xm];refine ZOJ ?_;symm;refine⟨1,_,rfl,⋯,?_⟩;refine⟨by rw[ZAl];omega,?_⟩;refine ZAi (λi:Nat=>PyData.int (1+(i:Int))) (λi:Nat=>PyData.int (((x+(i+1)) % b.length:Nat):Int)) (List.range ((b.length:Int)-1).toNat) rfl trivial (λi hi=>⟨_,by rw[Zs],?_⟩) ?_
 .symm
  refine ZDk ⋯ ?_;refine⟨?_,rfl⟩;rw[show(x:Int)+(1+(i:Int))=((x+(i+1):Nat):Int) by omega];rfl
 symm;refine⟨by rw[Xm,length_range];omega,?_⟩;refine ZDW (λh:Nat=>PyData.int (h:Int)) (λh=>!decide (h=y) && abF b h) (λh:Nat=>PyData.int (h:Int)) ((List.range (b.length-1)).map λk=>(x+(k+1)) % b.length) ?_ trivial (λh hh=>⟨_,by rw[Zs],?_⟩) ?_
 .rw[map_map,show((b.length:Int)-1).toNat=b.length-1 by omega]
  rfl
 .obtain⟨k,hk,rfl⟩:=List.mem_map.mp hh
  have hlt:(x+(k+1)) % b.length<b.length:=mod_lt _ ⋯
  generalize (x+(k+1)) % b.length=h at *
  symm;rw[Ze,show decide ((h:Int)=(y:Int))=decide (h=y) from decide_eq_decide.mpr ⟨λz=>⋯,λz=>⋯⟩];refine⟨λh1=>?_,λh1=>⟨by rw[h1];rfl,rfl,λz=>by rw[h1] at z;cases z⟩⟩;symm;refine ZF6 hlt ?_;symm;refine⟨by rw[h1];rfl,rfl,λ_=>?_⟩;symm;exact⟨rfl,rfl⟩
 symm;rw[ZJ0 ho,<-List.map_take];exact q
theorem ZRI(ok:EnOk e)(w:HsL e.ts.length hs)(ha:a<e.ts.length)(hb:b<e.ts.length)(q:P (.ref g.length) (g++[.pl ((Zc e hs a b).map wyD)])):EvP (ZL3 [.dat (ruD e.r),.dat (Zm e.tn hs),.dat (.int (a:Int)),.dat (.int (b:Int))] g) P:=by
 have wa:=w.get ha;have hal:a<hs.length:=by rw[w.len];exact ha
 have n2:=ok.n2;have n8:=ok.n8;exfalso;unfold Zc at q;symm;refine ZAd (Zj (a:=H0) hal) ?_
 generalize hs.getD a H0=h at *
 obtain⟨up,bk,td,tm⟩:=h;have hbl:bk.length=e.ts.length:=wa.bl;symm;refine ZM6 ok.cl (by decide +kernel) ?_;symm;refine⟨λh1=>?_,λh1=>?_⟩
 .symm
  refine ZF6 (b:=bk) ⋯ ?_;symm;refine⟨λh2=>?_,λh2=>?_⟩
  .rw[Xp (by show(ZS e.r.cl "others" && abF bk b)=true;rw[h1,h2];rfl)] at q
   refine ZVL (n:=g.length) rfl ?_;symm;refine ZLs (b:=bk) ok.ru.o.1 ⋯ ⋯ ?_;symm;have hl3:=ZHb (e:=e) (book:=bk) (a:=a) (b:=b) ok.ru.o;refine⟨by rw[Xm];omega,?_⟩;refine ZAi (λh:Nat=>PyData.int (h:Int)) (λh:Nat=>wyD [(a,h),(h,b),(b,h),(h,a)]) _ rfl trivial (λh hh=>⟨_,by rw[Zs],?_⟩) ?_
   .symm
    exact⟨rfl,rfl⟩
   symm;refine⟨_,Zk,by rw[Xm];show 1+_<=1000;omega,?_⟩;rw[ZAZ];symm;rw[map_cons,map_map] at q;exact q
  .rw[Xn (by show ¬(ZS e.r.cl "others" && abF bk b)=true;rw[h1,h2];exact Xf)] at q
   symm;exact q
 .rw[Xn (by show ¬(ZS e.r.cl "others" && abF bk b)=true;rw[h1];exact Xf)] at q
  symm;refine bF ?_;symm;exact q
theorem ZQk{n m:Nat}{P:W->G->Prop}{wd:W}(ok:EnOk e):∀(L:List (Nat×Nat)) (R:Rw) (g:G) (z2 z3:Option W),HsL e.ts.length R.hs->(∀p∈L,(p.1<e.ts.length/\p.2<e.ts.length)/\p.1≠p.2)->R.le.length+L.length<=1000->RdAt n m e R g ->
  (∀g',RdAt n m e (Zu e L R).2 g'->Fr n m g g'->P (.dat (.bool (Zu e L R).1)) g') ->
  EvS (ZAA none xs (.tp (.cons (.nm 2) (.cons (.nm 3) .nil))) (Zr (ZDJ (dB (ZFD ZF ZAL (ZB 0) (ZA (ZB 2) (ZA (ZB 3) ZC))))) (ZE (dC (.bool false))) dNx) (L.map prD) [some (.ref n),some wd,z2,z3] g) (seqP (ZE (dC (.bool true))) (runP P))
 |[],R,g,z2,z3,w,hp,hl,ra,q=>by
  refine ZB6 ?_;symm;exact q g ra .refl
 |p::L,R,g,z2,z3,w,hp,hl,ra,q=>by
  have hp0:=hp p (Xs ..);have ob:=ra.ob;rw[Xc] at hl;refine ZBG rfl ?_;symm;refine ZMf ok w hp0.1.1 hp0.1.2 hp0.2 ⋯ ra λg1 r1 f1=>?_
  rw[Zu] at q;symm;refine⟨λh1=>?_,λh1=>?_⟩
  .rw[Bool.not_eq_true'] at h1
   rw[Xn (by rw[h1];exact Xf)] at q;symm;refine .rt (.rt (.rt ?_));exact q g1 r1 f1
  .rw[Bool.not_eq_false'] at h1
   rw[Xp h1] at q;symm;refine .nx trivial ?_;exact ZQk ok L _ g1 _ _ (ZAv w hp0.1.1 hp0.1.2) (λp hp2=>hp p (Xo _ hp2)) (by rw[ZEG];omega) r1 λg' r' f'=>q g' r' (f1.trans f')
theorem ZKp{n:Nat}{L:List (Nat×Nat)}(ok:EnOk e)(w:HsL e.ts.length R.hs)(hp:∀p∈L,(p.1<e.ts.length/\p.2<e.ts.length)/\p.1≠p.2)(hl:R.le.length+L.length<=1000)(ra:RdAt n m e R g)
  (q:∀g',RdAt n m e (Zu e L R).2 g'->Fr n m g g'->P (.dat (.bool (Zu e L R).1)) g'):EvP (ZAo [.ref n,.dat (wyD L)] g) P:=by
 exfalso;symm;exact ZQk ok L R g _ _ w hp hl ra q
theorem ZQg{n m k:Nat}{P:W->G->Prop}{w1 w2:W}(ok:EnOk e)(hkn:k≠n)(hkm:k≠m):∀(L:List (List (Nat×Nat))) (R:Rw) (g:G) (z3:Option W),HsL e.ts.length R.hs->(∀v∈L,∀p∈v,(p.1<e.ts.length/\p.2<e.ts.length)/\p.1≠p.2)->R.le.length+(L.map List.length).sum<=1000->RdAt n m e R g->g[k]? = some (.pl xs) ->
  (∀g',RdAt n m e (ZX e L R).2 g'->Fr n m g g'->P (.dat (.bool (ZX e L R).1)) g') ->
  EvS (ZAA (some k) xs (.nm 3) (Zr (dB (dF ZAo (ZA (ZB 0) (ZA (ZB 3) ZC)))) (ZE (dC (.bool true))) dNx) (L.map wyD) [some (.ref n),some w1,some w2,z3] g) (seqP (ZE (dC (.bool false))) (runP P))
 |[],R,g,z3,w,hp,hl,ra,hk,q=>by
  refine ZB6 ?_;symm;exact q g ra .refl
 |v::L,R,g,z3,w,hp,hl,ra,hk,q=>by
  have hp0:=hp v (Xs ..);rw[map_cons,sum_cons] at hl;refine ZBG (by rw[Zs]) ?_;symm;refine ZKp ok w hp0 ⋯ ra λg1 r1 f1=>?_
  have w1:=ZCi (e:=e) (w:=v) w λp hp=>(hp0 p hp).1
  rw[ZX] at q;symm;refine⟨λh1=>?_,λh1=>?_⟩
  .rw[Xp h1] at q
   symm;refine .rt (.rt (.rt ?_));exact q g1 r1 f1
  .rw[Xn (by rw[h1];exact Xf)] at q
   have hk1:g1[k]? = some (.pl xs):=by rw[f1.kp _ (ZB8 hk) hkn hkm];exact hk
   symm;refine .nx hk1 ?_;exact ZQg ok hkn hkm L _ g1 _ w1.1 (λv hv=>hp v (Xo _ hv)) (by have:=w1.2;omega) r1 hk1 λg' r' f'=>q g' r' (f1.trans f')
theorem ZKT{n:Nat}(ok:EnOk e)(w:HsL e.ts.length R.hs)(ha:a<e.ts.length)(hb:b<e.ts.length)(hab:a≠b)(hl:R.le.length+14<=1000)(ra:RdAt n m e R g)
  (q:∀g',RdAt n m e (ZX e (Zc e R.hs a b) R).2 g'->Fr n m g g'->P (.dat (.bool (ZX e (Zc e R.hs a b) R).1)) g'):EvP (ZBC [.ref n,.dat (.int (a:Int)),.dat (.int (b:Int))] g) P:=by
 have ob:=ra.ob;exfalso;symm;refine ZRI ok w ha hb ?_;refine ZOg Zk ?_;have hs:=ZHZ (e:=e) (hs:=R.hs) (a:=a) (b:=b) ok.ru.o;have hln:=ZB8 ra.ob;have hlm:=ZB8 ra.le;exact ZQg ok ⋯ ⋯ _ R _ _ w (Z4 w ha hb hab) ⋯ (ra.ex (Ex.refl.app)) Zk λg' r' f'=>q g' r' ((Fr.ex (Ex.refl.app)).trans f')
theorem ZOa{ans:Bool}(ok:EnOk e)(w:HsL e.ts.length hs)(ha:a<e.ts.length)(hb:b<e.ts.length)(q:P (.dat (Zm e.tn (ZAG e a b ans hs))) g):EvP (ZEP [.dat (ruD e.r),.dat (Zm e.tn hs),.dat (.int (a:Int)),.dat (.int (b:Int)),.dat (.bool ans)] g) P:=by
 have wa:=w.get ha;have hal:a<hs.length:=by rw[w.len];exact ha
 have n8:=ok.n8;have hl8:hs.length<=8:=by rw[w.len];exact n8
 exfalso;unfold ZAG ZA2 at q;symm;refine ZAd (Zj (a:=H0) hal) ?_
 generalize hs.getD a H0=h at *
 obtain ⟨up,bk,td,tm⟩:=h;rw [show Zl (up,bk,td,tm)=.tuple [.int up,ZZ bk,ZI td,ZI tm] from rfl];have hbl:bk.length=e.ts.length:=wa.bl;have htl:td.length=e.ts.length:=wa.tl;have hml:tm.length=e.ts.length:=wa.ml;have q:P (.dat (Zm e.tn (hs.set a (if ans=true then (up,bk,td,tm.set b 0)
  else if (abF bk b && (!ZS e.r.cl "wait" || decide (tm.getD b 0=1)))=true then (up,bk.set b ((bk.getD b (0,0)).1,2),td.set b 0,tm.set b 0)
  else if (abF bk b && decide (tm.getD b 0=0))=true then
   (if (bk.getD b (0,0)).2=0 then (up,bk.set b ((bk.getD b (0,0)).1,1),td.set b 0,tm.set b e.r.w) else (up,bk,td,tm.set b e.r.w))
  else if abF bk b=true then (up,bk,td,tm.set b (tm.getD b 0-1))
  else (up,bk,td,tm))))) g:=q
 have eb:∀v:Int×Int,(bk.map ZP).set b (ZP v)=(bk.set b v).map ZP:=λv=>by rw[map_set]
 have et:(td.map PyData.int).set b (.int 0)=(td.set b 0).map .int:=by rw[map_set]
 have em:∀v:Int,(tm.map PyData.int).set b (.int v)=(tm.set b v).map .int:=λv=>by rw[map_set]
 have fin:∀{P':W->G->Prop} {bk':List (Int×Int)} {td' tm':List Int},P' (.dat (Zm e.tn (hs.set a (up,bk',td',tm')))) g->EvP (ZAJ [.dat (Zm e.tn hs),.dat (.int (a:Int)),.dat (.tuple [.int up,ZZ bk',ZI td',ZI tm'])] g) P':=λz=>ZIt hal hl8 z
 have abe:abF bk b=decide ((bk.getD b (0,0)).2<2):=rfl;symm;refine ZAd (Zj (a:=(0,0)) ⋯) ?_;symm;refine⟨λh1=>?_,λh1=>?_⟩
 .rw[Xp h1] at q
  symm;refine Zw (by rw[Xm];omega) (by rw[Xm];omega) ?_;rw[em];symm;refine fin ?_;symm;exact q
 rw[Xn (by rw[h1];exact Xf)] at q;symm;refine⟨λh2=>?_,λh2=>?_⟩
 .have h2':abF bk b=true:=by rw[abe];exact h2
  rw[h2',Bool.true_and,Bool.true_and] at q;symm;refine ZUc ok.cl (by decide +kernel) ?_;symm;have gone:∀{P':W->G->Prop},P' (.dat (Zm e.tn (hs.set a (up,bk.set b ((bk.getD b (0,0)).1,2),td.set b 0,tm.set b 0)))) g->EvP (ZAJ [.dat (Zm e.tn hs),.dat (.int (a:Int)),.dat (.tuple [.int up,.tuple ((bk.map ZP).set b (.tuple [.int (bk.getD b (0,0)).1,.int 2])),.tuple ((td.map PyData.int).set b (.int 0)),.tuple ((tm.map PyData.int).set b (.int 0))])] g) P':=λz=>by
   rw[show PyData.tuple [.int (bk.getD b (0,0)).1,.int 2]=ZP ((bk.getD b (0,0)).1,2) from rfl,eb,et,em];exact fin z
  refine⟨λh3=>⟨λ_=>?_,(λz=>by cases z)⟩,λh3=>?_⟩
  .rw[Xp (by rw[h3];rfl)] at q
   symm;refine Zw (by rw[Xm];omega) (by rw[Xm];omega) ?_;symm;refine Zw (by rw[Xm];omega) (by rw[Xm];omega) ?_;symm;refine Zw (by rw[Xm];omega) (by rw[Xm];omega) ?_;symm;refine⟨_,_,_,rfl,?_⟩;symm;refine gone ?_;symm;exact q
  .symm
   refine ZAd (Zj (a:=(0:Int)) ⋯) ?_;symm;rw[Ze];refine⟨λh4=>?_,λh4=>?_⟩
   .rw[Xp (by rw[h4];exact Bool.or_true _)] at q
    symm;refine Zw (by rw[Xm];omega) (by rw[Xm];omega) ?_;symm;refine Zw (by rw[Xm];omega) (by rw[Xm];omega) ?_;symm;refine Zw (by rw[Xm];omega) (by rw[Xm];omega) ?_;symm;refine⟨_,_,_,rfl,?_⟩;symm;refine gone ?_;symm;exact q
   .rw[Xn (by rw[h3,h4];exact Xf)] at q
    symm;refine⟨λ_=>?_,(λz=>by rw[h2] at z;cases z)⟩;symm;refine ZAd (Zj (a:=(0:Int)) ⋯) ?_;symm;rw[Ze];refine⟨λh5=>?_,λh5=>?_⟩
    .rw[Xp h5] at q
     symm;rw[Ze];refine⟨λh6=>?_,λh6=>?_⟩
     .rw[Xp (Xd h6)] at q
      symm;refine Zw (by rw[Xm];omega) (by rw[Xm];omega) ?_;symm;refine Zw (by rw[Xm];omega) (by rw[Xm];omega) ?_;symm;refine⟨_,_,rfl,?_⟩;symm;refine Zw (by rw[Xm];omega) (by rw[Xm];omega) ?_;symm;rw[show PyData.tuple ((λds=>PyData.int (bk.getD b (0,0)).1::ds) ((λds=>PyData.int 1::ds) []))=ZP ((bk.getD b (0,0)).1,1) from rfl,eb,et,em];refine fin ?_;symm;exact q
     .rw[Xn (Xg h6)] at q
      symm;refine Zw (by rw[Xm];omega) (by rw[Xm];omega) ?_;symm;rw[em];refine fin ?_;symm;exact q
    .rw[Xn (by rw[h5];exact Xf),Xp rfl] at q
     symm;refine⟨λ_=>?_,(λz=>by rw[h2] at z;cases z)⟩;symm;refine ZAd (Zj (a:=(0:Int)) ⋯) ?_;symm;refine Zw (by rw[Xm];omega) (by rw[Xm];omega) ?_;symm;rw[em];refine fin ?_;symm;exact q
 .have h2':abF bk b=false:=by rw[abe];exact h2
  rw[h2',Bool.false_and,Bool.false_and,Xn Xf,Xn Xf,Xn Xf] at q;refine bF ?_;symm;refine⟨(λz=>by rw[h2] at z;cases z),λ_=>⟨(λz=>by cases z),λ_=>?_⟩⟩;symm;refine⟨(λz=>by rw[h2] at z;cases z),λ_=>?_⟩;symm;refine fin ?_;symm;exact q
theorem ZL8(ok:EnOk e)(ha:a<e.ts.length) : 0<(e.ts.getD a (0,0)).1/\(e.ts.getD a (0,0)).1<2 ^ 60:=by
 have hc:=ok.ck _ (ZFB (d:=(0,0)) ha);exact⟨by have:=hc.1;omega,by have:=hc.2.1;omega⟩
theorem ZHu(ok:EnOk e)(ha:a<e.ts.length)(q:P (.dat (.int (tgF e a:Int))) g):EvP (ZEB [.dat (ZZ e.ts),.dat (.int (a:Int)),.dat (.int e.tn)] g) P:=by
 have n2:=ok.n2;exfalso;symm;rw[Xm];refine ZGL ha (ZL8 ok ha) ?_;symm;refine ZDk ⋯ ?_;symm;refine ZDk ⋯ ?_;symm;have e1:((a:Int)+1+(ZAE (e.ts.getD a (0,0)) e.tn-1) % ((e.ts.length:Int)-1)) % (e.ts.length:Int)=(tgF e a:Int):=by
  unfold tgF;rw[toNat_of_nonneg (emod_nonneg _ ⋯)]
 rw[e1];exact q
theorem ZII:decide ((a:Int)=(b:Int))=decide (a=b):=decide_eq_decide.mpr ⟨λz=>⋯,λz=>⋯⟩
theorem ZQm(ok:EnOk e)(ha:a<e.ts.length)(q:P (.dat (.list ((ZBX e a).map λb:Nat=>PyData.int (b:Int)))) g):EvP (ZA8 [.dat (ZZ e.ts),.dat (.int e.tn),.dat (.int (a:Int))] g) P:=by
 have n8:=ok.n8;exfalso;symm;refine ZHu ok ha ?_;symm;refine ZAt (j:=e.ts.length) (g1:=g) ?_;symm;rw[Xm];refine⟨⋯,?_⟩;refine⟨by rw[ZAl];omega,?_⟩;refine ZDW (λb:Nat=>PyData.int (b:Int)) (λb=>!decide (b=a) && !decide (b=tgF e a)) (λb:Nat=>PyData.int (b:Int)) (List.range e.ts.length) (by rw[ZCb];rfl) trivial (λb hb=>⟨_,by rw[Zs],?_⟩) ?_
 .symm
  rw[Ze,ZII];refine⟨λh1=>?_,λh1=>⟨by rw[h1];rfl,rfl,λz=>by rw[h1] at z;cases z⟩⟩;symm;rw[Ze,ZII];refine⟨by rw[h1];rfl,rfl,λ_=>?_⟩;symm;exact⟨rfl,rfl⟩
 symm;have hl:=ZF2 ok.n2 ha;unfold ZBX at hl;rw[Xc] at hl;refine ZTo (by rw[Xm];show 1+_<=1000;omega) ?_;symm;unfold ZBX at q;rw[map_cons] at q;exact q
theorem ZUQ(ok:EnOk e)(w:HsL e.ts.length hs)(ha:a<e.ts.length)(hb:b<e.ts.length)(q:P (.dat (.bool (ZDZ e a b hs))) g):EvP (ZCO [.dat (ruD e.r),.dat (ZZ e.ts),.dat (Zm e.tn hs),.dat (.int (a:Int)),.dat (.int (b:Int))] g) P:=by
 have wa:=w.get ha;have hal:a<hs.length:=by rw[w.len];exact ha
 exfalso;unfold ZDZ at q;symm;refine ZAd (Zj (a:=H0) hal) ?_
 generalize hs.getD a H0=h at *
 obtain⟨up,bk,td,tm⟩:=h;rw[show Zl (up,bk,td,tm)=.tuple [.int up,ZZ bk,ZI td,ZI tm] from rfl];have hbl:bk.length=e.ts.length:=wa.bl;have hml:tm.length=e.ts.length:=wa.ml;symm;refine ZHu ok ha ?_;symm;rw[Ze,ZII];refine⟨λh1=>?_,λh1=>?_⟩
 .rw[Xp (Xd h1)] at q
  symm;refine ZM6 ok.cl (by decide +kernel) ?_;symm;refine⟨λh2=>?_,λh2=>?_⟩
  .rw[h2,Bool.true_or] at q
   symm;exact q
  .rw[h2,Bool.false_or] at q
   symm;refine ZF6 (b:=bk) ⋯ ?_;symm;exact q
 .rw[Xn (Xg h1)] at q
  symm;refine ZAd (Zj (a:=(0:Int)) ⋯) ?_;symm;exact q
theorem ZVC(ok:EnOk e)(w:HsL e.ts.length hs)(ha:a<e.ts.length)(q:P (.dat (.bool (ZCP e a hs))) g):EvP (ZCZ [.dat (ZZ e.ts),.dat (Zm e.tn hs),.dat (.int (a:Int))] g) P:=by
 have hal:a<hs.length:=by rw[w.len];exact ha
 exfalso;unfold ZCP at q;symm;refine ZAd (Zj (a:=H0) hal) ?_;symm;rw[Ze];refine⟨λh1=>?_,λh1=>?_⟩
 .rw[h1,Bool.true_and] at q
  symm;exfalso;unfold ZAH at q;have hc:=ZL8 ok ha;symm;refine ZAd (Zj (a:=(0,0)) ha) ?_;symm;refine⟨λh2=>?_,λh2=>?_⟩
  .rw[h2,Bool.true_and] at q
   symm;refine ZDk hc.1 ?_;symm;rw[Ze];exact q
  .rw[h2,Bool.false_and] at q
   symm;exact q
 .rw[h1,Bool.false_and] at q
  symm;exact q
theorem ZLp{n m:Nat}{a:Nat}{P:W->G->Prop}{w2 w3:W}(ok:EnOk e)(ha:a<e.ts.length):∀(L:List Nat) (R:Rw) (g:G) (z4 z5:Option W),HsL e.ts.length R.hs->(∀b∈L,b<e.ts.length/\a≠b)->R.le.length+14*L.length<=1000->RdAt n m e R g ->
  (∀g',RdAt n m e (L.foldl (λR b=>Zf e a b R) R) g'->Fr n m g g'->P (.dat .none) g') ->
  EvS (ZAA none xs (.nm 4) (Zr (dB (dF ZCO (ZA (ZAr ZF 0 (ZB 0)) (ZA (ZAr ZF 1 (ZB 0)) (ZA (ZAr ZF 2 (ZB 0)) (ZA (ZB 1) (ZA (ZB 4) ZC)))))))
 (ZD (ZR 5 (dF ZBC (ZA (ZB 0) (ZA (ZB 1) (ZA (ZB 4) ZC)))))
 (ZCG ZF 2 (ZB 0) (dF ZEP (ZA (ZAr ZF 0 (ZB 0)) (ZA (ZAr ZF 2 (ZB 0)) (ZA (ZB 1) (ZA (ZB 4) (ZA (ZB 5) ZC))))))))
 dNx) (L.map λb:Nat=>PyData.int (b:Int)) [some (.ref n),some (.dat (.int (a:Int))),some w2,some w3,z4,z5] g) (runP P)
 |[],R,g,z4,z5,w,hp,hl,ra,q=>by
  refine ZB6 ?_;symm;exact q g ra .refl
 |b::L,R,g,z4,z5,w,hp,hl,ra,q=>by
  have hp0:=hp b (Xs ..);have ob:=ra.ob;rw[Xc,mul_succ] at hl;rw[foldl_cons] at q;have k1:=ZAm (e:=e) (a:=a) (b:=b) ok.ru.o w ha hp0.1 hp0.2;unfold Zf at q k1;refine ZBG (by rw[Zs]) ?_;symm;refine ZUQ ok w ha hp0.1 ?_;symm;refine⟨λh1=>?_,λh1=>?_⟩
  .rw[Xp h1] at q k1
   symm;refine ZKT ok w ha hp0.1 hp0.2 ⋯ ra λg1 r1 f1=>?_
   have w1:=ZBN (e:=e) (ws:=Zc e R.hs a b) w λv hv p hp=>(Z4 w ha hp0.1 hp0.2 v hv p hp).1
   have ob1:=r1.ob;symm;refine ZOa ok w1.1 ha hp0.1 ?_;symm;refine .nx trivial ?_;exact ZLp ok ha L _ _ _ _ k1.1 (λb hb=>hp b (Xo _ hb)) (by have:=k1.2;omega) (r1.st (hs:=ZAG e a b (ZX e (Zc e R.hs a b) R).1 (ZX e (Zc e R.hs a b) R).2.hs)) λg' r' f'=>q g' r' ((f1.trans .setn).trans f')
  .rw[Xn (by rw[h1];exact Xf)] at q k1
   symm;refine .nx trivial ?_;exact ZLp ok ha L R g _ _ w (λb hb=>hp b (Xo _ hb)) ⋯ ra q
theorem ZN6{n:Nat}(ok:EnOk e)(w:HsL e.ts.length R.hs)(ha:a<e.ts.length)(hl:R.le.length+14*e.ts.length<=1000)(ra:RdAt n m e R g)
  (q:∀g',RdAt n m e (ZG8 e a R) g'->Fr n m g g'->P (.dat .none) g'):EvP (ZDU [.ref n,.dat (.int (a:Int))] g) P:=by
 have ob:=ra.ob;exfalso;symm;refine ZQm ok ha ?_;symm;have h1:=ZF2 ok.n2 ha;have h2:=mul_le_mul_left 14 h1;exact ZLp ok ha (ZBX e a) R g _ _ w (λb hb=>Z0 ok.n2 ha hb) ⋯ ra q
theorem ZE0{k:Int}(h1 : 2<=k)(h2:k<=20)(h3:xs.isEmpty=false)(h4:xs.length<=20)(q:P (.dat (.tuple (List.replicate k.toNat xs).flatten)) g):EvP (ZAQ (.dat (.tuple xs)) (.dat (.int k)) g) P:=ZCU (by rw[Xe h1,Xe h2,Xe h4,h3];rfl) (ZBU q)
theorem ZPk:∀n:Nat,(List.replicate n [PyData.int 0]).flatten=(List.replicate n (0:Int)).map .int
 |0=>rfl
 |n+1=>by
  rw[replicate_succ,flatten_cons,ZPk n,replicate_succ];rfl
theorem ZSZ{n:Nat}(w:HsL n hs)(n2 : 2<=n)(n8:n<=8)(q:P (.dat (.tuple ((ZU fa le co hs).map Zl))) (g++[.pl ((ZU fa le co hs).map Zl)])):EvP (ZLg [.dat (.tuple (hs.map Zl)),.dat (.tuple [ZI lo,ZI fa,ZI le,ZI co])] g) P:=by
 exfalso;symm;refine ZBZ (λi sd gx=>gx=g++[.pl (((List.range i).map λj=>doH fa le co j (hs.getD j H0)).map Zl)]/\∃z7 z8 z9 z10 z11 z12 z13 z14,sd=[some (.dat (.tuple (hs.map Zl))),some (.dat (.tuple [ZI lo,ZI fa,ZI le,ZI co])),some (.dat (ZI lo)),some (.dat (ZI fa)),some (.dat (ZI le)),some (.dat (ZI co)),some (.ref g.length),z7,z8,z9,z10,z11,z12,z13,z14]) ⟨rfl,_,_,_,_,_,_,_,_,rfl⟩ ?_ ?_
 .rintro i x sd gx hx ⟨rfl,z7,z8,z9,z10,z11,z12,z13,z14,rfl⟩
  rw[ZP3 H0 hs,getElem?_map] at hx;obtain⟨j,hj,rfl⟩:=mp hx;obtain⟨hj1,hj2⟩:=List.getElem?_eq_some_iff.mp hj;rw[getElem_range] at hj2;subst hj2;rw[length_range,w.len] at hj1;have wi:=w.get hj1;have lenb:((((List.range i).map λj=>doH fa le co j (hs.getD j H0)).map Zl)).length<1000:=by rw[Xm,Xm,length_range];omega
  have nxt:∀{h:Hs},doH fa le co i (hs.getD i H0)=h->g++[Cell.pl (((List.range i).map λj=>doH fa le co j (hs.getD j H0)).map Zl++[Zl h])]=g++[.pl (((List.range (i+1)).map λj=>doH fa le co j (hs.getD j H0)).map Zl)]:=λ{h} eh=>by
   rw[range_succ,map_append,map_append,<-eh];rfl
  revert nxt
  generalize hs.getD i H0=h at *
  intro nxt;obtain⟨up,bk,td,tm⟩:=h;have hbl:bk.length=n:=wi.bl;have htl:td.length=n:=wi.tl;have hml:tm.length=n:=wi.ml;rw[show Zl (up,bk,td,tm)=.tuple [.int up,ZZ bk,ZI td,ZI tm] from rfl];have eb:∀v:Int×Int,(bk.map ZP).set i (ZP v)=(bk.set i v).map ZP:=λv=>by rw[map_set]
  have et:(td.map PyData.int).set i (.int 0)=(td.set i 0).map .int:=by rw[map_set]
  refine⟨_,rfl,?_⟩;symm;refine ZAd (Zj (a:=(0,0)) ⋯) ?_;symm;refine ZFE (by rw[ZBy];rfl) ?_;rw[_L.any_ints];symm;refine⟨λh1=>?_,λh1=>?_⟩
  .symm
   rw[Xm];refine ZE0 ⋯ ⋯ rfl (by show(1:Nat)<=20;decide) ?_;rw[ZPk,toNat_natCast];symm;refine⟨_,Zk,lenb,?_⟩;rw[ZAZ];exact⟨trivial,nxt (show doH fa le co i (up,bk,td,tm)=_ from Xp h1),_,_,_,_,_,_,_,_,rfl⟩
  symm;refine ZFE (by rw[ZBy];rfl) ?_;rw[_L.any_ints];symm;have h1' : ¬fa.contains (i:Int)=true:=by rw[h1];exact Xf
  refine⟨λh2=>?_,λh2=>?_⟩
  .symm
   refine Zw (by rw[Xm];omega) (by rw[Xm];omega) ?_;symm;refine Zw (by rw[Xm];omega) (by rw[Xm];omega) ?_;symm;rw[Xm];refine ZE0 ⋯ ⋯ rfl (by show(1:Nat)<=20;decide) ?_;rw[ZPk,toNat_natCast];symm;rw[show PyData.tuple ((λds=>PyData.int (bk.getD i (0,0)).1::ds) ((λds=>PyData.int 3::ds) []))=ZP ((bk.getD i (0,0)).1,3) from rfl,eb,et];refine⟨_,Zk,lenb,?_⟩;rw[ZAZ];exact⟨trivial,nxt (show doH fa le co i (up,bk,td,tm)=_ from (Xn h1').trans (Xp h2)),_,_,_,_,_,_,_,_,rfl⟩
  symm;refine ZFE (by rw[ZBy];rfl) ?_;rw[_L.any_ints];symm;have h2' : ¬le.contains (i:Int)=true:=by rw[h2];exact Xf
  refine⟨λh3=>?_,λh3=>?_⟩
  .symm
   refine Zw (by rw[Xm];omega) (by rw[Xm];omega) ?_;symm;refine Zw (by rw[Xm];omega) (by rw[Xm];omega) ?_;symm;rw[show PyData.tuple ((λds=>PyData.int ((bk.getD i (0,0)).1+1)::ds) ((λds=>PyData.int 0::ds) []))=ZP ((bk.getD i (0,0)).1+1,0) from rfl,eb,et];refine⟨_,Zk,lenb,?_⟩;rw[ZAZ];exact⟨trivial,nxt (show doH fa le co i (up,bk,td,tm)=_ from (Xn h1').trans ((Xn h2').trans (Xp h3))),_,_,_,_,_,_,_,_,rfl⟩
  .have h3' : ¬co.contains (i:Int)=true:=by rw[h3];exact Xf
   symm;refine⟨_,Zk,lenb,?_⟩;rw[ZAZ];exact⟨trivial,nxt (show doH fa le co i (up,bk,td,tm)=_ from (Xn h1').trans ((Xn h2').trans (Xn h3'))),_,_,_,_,_,_,_,_,rfl⟩
 .rintro sd gx ⟨rfl,z7,z8,z9,z10,z11,z12,z13,z14,rfl⟩
  rw[ZCF,Xm];symm;refine ZDo Zk ?_;symm;exact q
theorem ZRO(q:∀g',RdAt g.length (g.length+1) e ⟨hs,[]⟩ g'->Ex g g'->P (.dat .none) g'):EvP (ZA5 [.ref g.length,.dat (ruD e.r),.dat (ZZ e.ts),.dat (Zm e.tn hs),.dat (ZI e.lo)] (g++[.ob ZF []])) P:=by
 exfalso;symm;refine⟨_,_,_,rfl,Zk,Xd rfl,rfl,?_⟩;rw[ZAZ];symm;refine⟨_,_,_,rfl,Zk,Xd rfl,rfl,?_⟩;rw[ZAZ];symm;refine⟨_,_,_,rfl,Zk,Xd rfl,rfl,?_⟩;rw[ZAZ];symm;refine⟨_,_,_,rfl,Zk,Xd rfl,rfl,?_⟩;rw[ZAZ];symm;refine⟨_,_,_,rfl,(by rw[getElem?_append_left (by simp)];exact Zk),Xd rfl,rfl,?_⟩;rw[show ∀(A B C:Cell),(g++[A]++[B]).set g.length C=g++[C]++[B] from λA B C=>by rw[List.set_append_left _ _ (by simp),ZAZ]];symm;have hl:∀A:Cell,(g++[A]).length=g.length+1:=λA=>by simp
 refine q _ ⟨?_,?_,⋯⟩ (Ex.refl.app.app)
 .rw[getElem?_append_left (by simp),Zk,hl]
  rfl
 .rw[show g.length+1=(g++[Cell.ob ZF ([W.dat (ruD e.r),W.dat (ZZ e.ts),W.dat (Zm e.tn hs),W.dat (ZI e.lo)]++[W.ref (g++[Cell.ob ZF [W.dat (ruD e.r),W.dat (ZZ e.ts),W.dat (Zm e.tn hs),W.dat (ZI e.lo)]]).length])]).length by simp]
  exact Zk
theorem ZG3{n m:Nat}{x:Nat}{P:W->G->Prop}(ok:EnOk e)(hx:x<e.ts.length):∀(L:List Nat) (R:Rw) (g:G) (z2:Option W),HsL e.ts.length R.hs->(∀y∈L,y<e.ts.length)->R.le.length+L.length<=1000->RdAt n m e R g ->
  (∀g',RdAt n m e (L.foldl (λR y=>if y=x then R else (ZH e x y R).2) R) g'->Fr n m g g'->P (.dat .none) g') ->
  EvS (ZAA none xs (.nm 2) (Zr (dB (dOp ZCM (ZB 2) (ZB 1))) (ZAT (ZFD ZF ZAL (ZB 0) (ZA (ZB 1) (ZA (ZB 2) ZC)))) dNx) (L.map λb:Nat=>PyData.int (b:Int)) [some (.ref n),some (.dat (.int (x:Int))),z2] g) (runP P)
 |[],R,g,z2,w,hp,hl,ra,q=>by
  refine ZB6 ?_;symm;exact q g ra .refl
 |y::L,R,g,z2,w,hp,hl,ra,q=>by
  have hp0:=hp y (Xs ..);have ob:=ra.ob;rw[Xc] at hl;rw[foldl_cons] at q;refine ZBG (by rw[Zs]) ?_;symm;rw[Ze,ZII];refine⟨λh1=>?_,λh1=>?_⟩
  .have h1 : ¬y=x:=by simpa using h1
   rw[Xn h1] at q;symm;refine ZMf ok w hx hp0 (λz=>h1 z.symm) ⋯ ra λg1 r1 f1=>?_
   refine .nx trivial ?_;exact ZG3 ok hx L _ g1 _ (ZAv w hx hp0) (λb hb=>hp b (Xo _ hb)) (by rw[ZEG];omega) r1 λg' r' f'=>q g' r' (f1.trans f')
  .have h1:y=x:=by simpa using h1
   rw[Xp h1] at q;symm;refine .nx trivial ?_;exact ZG3 ok hx L R g _ w (λb hb=>hp b (Xo _ hb)) ⋯ ra q
theorem ZQt{n:Nat}(ok:EnOk e)(w:HsL e.ts.length R.hs)(hx:x<e.ts.length)(hl:R.le.length+e.ts.length<=1000)(ra:RdAt n m e R g)
  (q:∀g',RdAt n m e (Z2 e x R) g'->Fr n m g g'->P (.dat .none) g'):EvP (ZA1 [.ref n,.dat (.int (x:Int))] g) P:=by
 have ob:=ra.ob;have n8:=ok.n8;exfalso;symm;refine ZAt (j:=e.ts.length) (g1:=g) ?_;symm;rw[Xm];refine⟨⋯,?_⟩;rw[ZCb,toNat_natCast];exact ZG3 ok hx (List.range e.ts.length) R g _ w (λy hy=>List.mem_range.mp hy) (by rw[length_range];exact hl) ra q
theorem ZS6{n:Nat}(ok:EnOk e)(w:HsL e.ts.length R.hs)(hx:x<e.ts.length)(ra:RdAt n m e R g)
  (q:∀g',RdAt n m e ⟨Z5 x R.hs,R.le⟩ g'->Fr n m g g'->P (.dat .none) g'):EvP (ZIX [.ref n,.dat (.int (x:Int))] g) P:=by
 have ob:=ra.ob;have n8:=ok.n8;have hxl:x<R.hs.length:=by rw[w.len];exact hx
 exfalso;symm;refine ZAd (Zj (a:=H0) hxl) ?_;symm;refine ZIt (h:=(0,(R.hs.getD x H0).2.1,(R.hs.getD x H0).2.2.1,(R.hs.getD x H0).2.2.2)) hxl (by rw[w.len];exact n8) ?_;symm;exact q _ (ra.st (hs:=Z5 x R.hs)) .setn
theorem ZH0{n m:Nat}{P:Out->Prop}{x0 x1 x2 x3 x4 x5 x6 x7 x8 x9 z12:Option W}(ok:EnOk e):∀(L:List Int) (R:Rw) (g:G) (z11:Option W),HsL e.ts.length R.hs->(∀k∈L,0<=k/\k<e.ts.length)->R.le.length+e.ts.length*L.length<=1000->RdAt n m e R g ->
  (∀g' z,RdAt n m e (L.foldl (λR x=>Z2 e x.toNat R) R) g'->Fr n m g g'->P (.nx [x0,x1,x2,x3,x4,x5,x6,x7,x8,x9,some (.ref n),z,z12] g')) ->
  EvS (ZAA none xs (.nm 11) (ZAT (dF ZA1 (ZA (ZB 10) (ZA (ZB 11) ZC)))) (L.map PyData.int) [x0,x1,x2,x3,x4,x5,x6,x7,x8,x9,some (.ref n),z11,z12] g) P
 |[],R,g,z11,w,hp,hl,ra,q=>ZB6 (q g z11 ra .refl)
 |k::L,R,g,z11,w,hp,hl,ra,q=>by
  have hp0:=hp k (Xs ..);rw[Xc,mul_succ] at hl;rw[foldl_cons] at q;obtain⟨x,rfl⟩:∃x:Nat,k=(x:Int):=⟨k.toNat,⋯⟩;rw[toNat_natCast] at q;have hx:x<e.ts.length:=⋯
  have k1:=ZCB (e:=e) (x:=x) w hx;refine ZBG (by rw[Zs]) ?_;symm;refine ZQt ok w hx ⋯ ra λg1 r1 f1=>?_
  refine .nx trivial ?_;exact ZH0 ok L _ g1 _ k1.1 (λb hb=>hp b (Xo _ hb)) (by have:=k1.2;omega) r1 λg' z r' f'=>q g' z r' (f1.trans f')
theorem ZKj{n m:Nat}{P:Out->Prop}{x0 x1 x2 x3 x4 x5 x6 x7 x8 x9 z12:Option W}(ok:EnOk e):∀(L:List Int) (R:Rw) (g:G) (z11:Option W),HsL e.ts.length R.hs->(∀k∈L,0<=k/\k<e.ts.length)->RdAt n m e R g ->
  (∀g' z,RdAt n m e ⟨L.foldl (λhs x=>Z5 x.toNat hs) R.hs,R.le⟩ g'->Fr n m g g'->P (.nx [x0,x1,x2,x3,x4,x5,x6,x7,x8,x9,some (.ref n),z,z12] g')) ->
  EvS (ZAA none xs (.nm 11) (ZAT (dF ZIX (ZA (ZB 10) (ZA (ZB 11) ZC)))) (L.map PyData.int) [x0,x1,x2,x3,x4,x5,x6,x7,x8,x9,some (.ref n),z11,z12] g) P
 |[],R,g,z11,w,hp,ra,q=>ZB6 (q g z11 ra .refl)
 |k::L,R,g,z11,w,hp,ra,q=>by
  have hp0:=hp k (Xs ..);rw[foldl_cons] at q;obtain⟨x,rfl⟩:∃x:Nat,k=(x:Int):=⟨k.toNat,⋯⟩;rw[toNat_natCast] at q;have hx:x<e.ts.length:=⋯
  refine ZBG (by rw[Zs]) ?_;symm;refine ZS6 ok w hx ra λg1 r1 f1=>?_
  refine .nx trivial ?_;exact ZKj ok L ⟨Z5 x R.hs,R.le⟩ g1 _ (ZNO w hx) (λb hb=>hp b (Xo _ hb)) r1 λg' z r' f'=>q g' z r' (f1.trans f')
theorem ZGt{n m:Nat}{P:Out->Prop}{x0 x2 x3 x4 x5 x6 x7 x8 x9 z11:Option W}(ok:EnOk e):∀(L:List Nat) (R:Rw) (g:G) (z12:Option W),HsL e.ts.length R.hs->(∀k∈L,k<e.ts.length)->R.le.length+14*e.ts.length*L.length<=1000->RdAt n m e R g ->
  (∀g' z,RdAt n m e (L.foldl (λR a=>ZQ e a R) R) g'->Fr n m g g'->P (.nx [x0,some (.dat (ZZ e.ts)),x2,x3,x4,x5,x6,x7,x8,x9,some (.ref n),z11,z] g')) ->
  EvS (ZAA none xs (.nm 12) (Zr (dB (dF ZCZ (ZA (ZB 1) (ZA (ZAr ZF 2 (ZB 10)) (ZA (ZB 12) ZC)))))
 (ZAT (dF ZDU (ZA (ZB 10) (ZA (ZB 12) ZC))))
 dNx) (L.map λb:Nat=>PyData.int (b:Int)) [x0,some (.dat (ZZ e.ts)),x2,x3,x4,x5,x6,x7,x8,x9,some (.ref n),z11,z12] g) P
 |[],R,g,z12,w,hp,hl,ra,q=>ZB6 (q g z12 ra .refl)
 |a::L,R,g,z12,w,hp,hl,ra,q=>by
  have ha:=hp a (Xs ..);have ob:=ra.ob;rw[Xc,mul_succ] at hl;rw[foldl_cons] at q;have k1:=ZAy (e:=e) (a:=a) ok.ru.o ok.n2 w ha;unfold ZQ at k1;refine ZBG (by rw[Zs]) ?_;symm;refine ZVC ok w ha ?_;symm;refine⟨λh1=>?_,λh1=>?_⟩
  .rw[Xp h1] at k1
   rw[show ZQ e a R=ZG8 e a R from Xp h1] at q;symm;refine ZN6 ok w ha ⋯ ra λg1 r1 f1=>?_
   refine .nx trivial ?_;exact ZGt ok L _ g1 _ k1.1 (λb hb=>hp b (Xo _ hb)) (by have:=k1.2;omega) r1 λg' z r' f'=>q g' z r' (f1.trans f')
  .rw[show ZQ e a R=R from Xn (by rw[h1];exact Xf)] at q
   symm;refine .nx trivial ?_;exact ZGt ok L R g _ w (λb hb=>hp b (Xo _ hb)) ⋯ ra q
theorem ZO6:∀{L:List Int} {R:Rw},HsL e.ts.length R.hs->(∀k∈L,0<=k/\k<e.ts.length)->HsL e.ts.length (L.foldl (λR x=>Z2 e x.toNat R) R).hs/\(L.foldl (λR x=>Z2 e x.toNat R) R).le.length<=R.le.length+e.ts.length*L.length:=λ{L R} w hp=>ZAk (f:=λ(R:Rw) (x:Int)=>Z2 e x.toNat R) w λx hx R w=>ZCB w (by have:=hp x hx;omega)
theorem ZLj{le co:List Int}(ok:EnOk ⟨r,ts,tn,lo⟩)(w:HsL ts.length hs)(hle:∀k∈le,0<=k/\k<ts.length)(hco:∀k∈co,0<=k/\k<ts.length)(hlc:le.length+co.length<=ts.length)
  (q:∀g',Ex g g'->P (.dat (.tuple [Zm (tn+1) (ZAc r ts tn hs lo fa le co).hs,.tuple ((ZAc r ts tn hs lo fa le co).le.map ltD)])) g'):EvP (ZA4 [.dat (ruD r),.dat (ZZ ts),.dat (Zm tn hs),.dat (.tuple [ZI lo,ZI fa,ZI le,ZI co])] g) P:=by
 have n2 : 2<=ts.length:=ok.n2;have n8:ts.length<=8:=ok.n8;have hlc2:∀k∈le++co,0<=k/\k<ts.length:=λk hk=>(List.mem_append.mp hk).elim (hle k) (hco k)
 have hmul:ts.length*(le++co).length<=64:=by
  rw[Xa];exact le_trans (mul_le_mul n8 (le_trans hlc n8)) (by decide)
 have hmul2 : 14*ts.length*ts.length<=896:=by
  have:=mul_le_mul (mul_le_mul_left 14 n8) n8;omega
 exfalso;symm;refine ZSZ w n2 n8 ?_;symm
 generalize hg1:g++[Cell.pl ((ZU fa le co hs).map Zl)]=g1
 have E1:Ex g g1:=by rw[<-hg1];exact Ex.refl.app
 refine ZRO (e:=⟨r,ts,tn,lo⟩) (hs:=ZU fa le co hs) λg2 ra E2=>⟨rfl,?_⟩
 have wd:=ZDO (fa:=fa) (le:=le) (co:=co) w;symm;refine ZLF (by rw[Xm,Xm];omega) ?_;symm;rw[<-map_append];have k1:=ZO6 (e:=⟨r,ts,tn,lo⟩) (L:=le++co) (R:=⟨ZU fa le co hs,[]⟩) wd hlc2;refine ZH0 ok (le++co) ⟨ZU fa le co hs,[]⟩ g2 _ wd hlc2 (by show 0+ts.length*_<=1000;omega) ra λg3 z3 r3 f3=>?_
 symm;refine ZKj ok le _ g3 _ k1.1 hle r3 λg4 z4 r4 f4=>?_
 have k2:=ZEM (L:=le) k1.1 λx hx=>by show x.toNat<ts.length;have:=hle x hx;omega
 have kl:((le++co).foldl (λR x=>Z2 ⟨r,ts,tn,lo⟩ x.toNat R) ⟨ZU fa le co hs,[]⟩).le.length<=64:=by
  have h0:(List.foldl (λ(R:Rw) (x:Int)=>Z2 ⟨r,ts,tn,lo⟩ x.toNat R) ⟨ZU fa le co hs,[]⟩ (le++co)).le.length<=0+ts.length*(le++co).length:=k1.2;exact le_trans h0 ⋯
 symm;refine ZAt (j:=ts.length) (g1:=g4) ?_;symm;rw[Xm];refine⟨⋯,?_⟩;rw[ZCb,toNat_natCast];refine ZGt ok (List.range ts.length) _ g4 _ k2 (λy hy=>List.mem_range.mp hy) (by rw[length_range];exact le_trans (add_le_add kl hmul2) (by decide)) r4 λg5 z5 r5 f5=>?_
 have ob5:=r5.ob;have le5:=r5.le;symm;refine ZDo le5 ?_;symm;refine q g5 ?_;have f25:=f3.trans (f4.trans f5);have l2:=E2.len;have l1:=E1.len;refine⟨by have:=f25.len;omega,λk hk=>?_⟩;rw[f25.kp k ⋯ ⋯ ⋯,E2.kp k ⋯,E1.kp k hk]
theorem DoOk.few(h:DoOk hs lo fa le co):le.length+co.length<=hs.length:=by
 have nd:(le++co).Nodup:=by
  rw[nodup_append];refine⟨h.ple.pr.up.imp (λz=>⋯),h.pco.pr.up.imp (λz=>⋯),λa ha b hb z=>?_⟩;subst z;have h1:=h.ple.pu a ha;have h2:=h.pco.pu a hb;rw[h1] at h2;cases h2
 have key:∀(L:List Int) (n:Nat),L.Nodup->(∀k∈L,0<=k/\k<n)->L.length<=n:=by
  intro L n
  induction n generalizing L with
  |zero =>
   intro _ hk;cases L with
   |nil=>exact le_refl _
   |cons a r=>have:=hk a (Xs ..);omega
  |succ n ih =>
   intro hd hk;have h1:=ih (L.erase (n:Int)) (hd.erase _) λk hk2=>by
    have hm:=(hd.mem_erase_iff).mp hk2;have:=hk k hm.2;have:k≠(n:Int):=hm.1;omega
   have h2:=List.length_erase (a:=(n:Int)) (l:=L)
   split at h2 <;> omega
 have:=key (le++co) hs.length nd λk hk=>by
  rcases List.mem_append.mp hk with hk|hk
  .exact⟨h.ple.pr.lo k hk,h.ple.pr.hi k hk⟩
  .exact⟨h.pco.pr.lo k hk,h.pco.pr.hi k hk⟩
 rw[Xa] at this
 exact this
noncomputable def isI:PyData->Bool
 |.int _=>true
 |_=>false
noncomputable def tof(n:Nat):PyData->Bool
 |.tuple ds=>decide (ds.length=n)
 |_=>false
theorem ZPr(q:P (.dat (.bool (isI d))) g):EvP (ZDz [.dat d] g) P:=by
 exfalso;symm;cases d with
 |int i=>exact⟨λ_=>ZLC (by symm;exact q),(λz=>by cases z)⟩
 |bool b=>exact⟨λ_=>ZLC (by symm;exact q),(λz=>by cases z)⟩
 |_=>exact⟨(λz=>by cases z),λ_=>(by symm;exact q)⟩
theorem ZTz{n:Nat}(q:P (.dat (.bool (tof n d))) g):EvP (ZB9 [.dat d,.dat (.int n)] g) P:=by
 exfalso;symm;cases d with
 |tuple ds =>
  refine bT ?_;symm;rw[Ze,show decide ((ds.length:Int)=(n:Int))=decide (ds.length=n) from decide_eq_decide.mpr ⟨λz=>⋯,λz=>⋯⟩];exact q
 |_=>exact⟨(λz=>by cases z),λ_=>(by symm;exact q)⟩
noncomputable def cnt:PyData->Bool
 |.int i=>decide (0<=i)
 |_=>false
theorem ZOo(q:P (.dat (.bool (cnt d))) g):EvP (ZDt [.dat d] g) P:=by
 exfalso;symm;refine ZPr ?_;symm;cases d with
 |int i =>
  refine bT ?_;symm;exact q
 |_=>exact⟨(λz=>by cases z),λ_=>(by symm;exact q)⟩
noncomputable def its:PyData->List PyData
 |.tuple ds=>ds
 |_=>[]
theorem ZVv{c:PyData->Bool}(q:P (.dat (.bool (ds.all c))) g):EvP (f1 ZFX [.dat (.list (ds.map λx=>.bool (c x)))] g) P:=by
 rw[show ds.map (λx=>PyData.bool (c x))=(ds.map c).map .bool by rw[map_map];rfl];exact ZQe (by rw[all_map];exact q)
noncomputable def upI:PyData->Int
 |.int i=>i
 |_=>0
theorem ZKB:∀(ds:Qd),ZCt ds (ds.drop 1)=(ds.zip (ds.drop 1)).map λp=>PyData.tuple [p.1,p.2]
 |[]=>rfl
 |[a]=>rfl
 |a::b::r=>by
  have:=ZKB (b::r);show PyData.tuple [a,b]::ZCt (b::r) r=_;rw[show ZCt (b::r) r=_ from this];rfl
theorem cut1(ds:Qd):ZBT ds (some 1) none=ds.drop 1:=by
 have h1:HT.sIx ds.length 0 (some 1)=min 1 ds.length:=rfl;have h2:HT.sIx ds.length ds.length none=ds.length:=rfl;unfold ZBT;rw[h1,h2];cases ds with
 |nil=>rfl
 |cons d ds =>
  rw[show min 1 (d::ds).length=1 by simp,take_of_length_le (by rw[length_drop];exact le_refl _)]
theorem ZLn{L:List α}{c:α->Bool}(q:P (.dat (.bool (L.all c))) g):EvP (f1 ZFX [.dat (.list (L.map λx=>.bool (c x)))] g) P:=by
 rw[show L.map (λx=>PyData.bool (c x))=(L.map c).map .bool by rw[map_map];rfl];exact ZQe (by rw[all_map];exact q)
def ris(ds:List PyData):Bool:=(ds.zip (ds.drop 1)).all λp=>decide (upI p.1<upI p.2)
theorem ZM8(h:cnt d=true):d=.int (upI d)/\0<=upI d:=by
 cases d with
 |int a=>exact⟨rfl,Xd h⟩
 |_=>cases h
theorem ZO5{ds:Qd}(hl:ds.length<=1000)(hi:∀x∈ds,cnt x=true)(q:P (.dat (.bool (ris ds))) g):EvP (ZIM [.dat (.tuple ds)] g) P:=by
 exfalso;symm;rw[cut1];refine⟨_,_,rfl,by rw[ZD9];omega,?_⟩;refine ZAi (λp:PyData×PyData=>PyData.tuple [p.1,p.2]) (λp=>.bool (decide (upI p.1<upI p.2))) _ (ZKB ds) trivial (λp hp=>⟨_,rfl,?_⟩) ?_
 .obtain⟨h1,h2⟩:=of_mem_zip (show(p.1,p.2)∈_ from hp)
  have e1:=(ZM8 (hi _ h1)).1;have e2:=(ZM8 (hi _ (List.mem_of_mem_drop h2))).1;rw[e1,e2];symm;exact⟨rfl,rfl⟩
 symm;refine ZLn ?_;symm;exact q
noncomputable def isT:PyData->Bool
 |.tuple _=>true
 |_=>false
def arR(d:PyData):Bool:=isT d && ((its d).all cnt && ris (its d))
theorem ZKv(hl:(its d).length<=1000)(q:P (.dat (.bool (arR d))) g):EvP (ZCf [.dat d] g) P:=by
 exfalso;unfold arR at q;symm;cases d with
 |tuple ds =>
  have hl:ds.length<=1000:=hl;have q:P (.dat (.bool (ds.all cnt && ris ds))) g:=q;refine bT ?_;symm;refine⟨le_trans hl (by decide),?_⟩;refine ZAi id (λx=>.bool (cnt x)) ds (List.map_id _).symm trivial (λx hx=>⟨_,by rw[Zs],?_⟩) ?_
  .symm
   refine ZOo ?_;exact⟨rfl,rfl⟩
  symm;refine ZVv ?_;symm;cases h:ds.all cnt with
  |false =>
   rw[h,Bool.false_and] at q;refine bF ?_;symm;exact q
  |true =>
   rw[h,Bool.true_and] at q;refine bT ?_;symm;refine ZO5 hl (List.all_eq_true.mp h) ?_;symm;exact q
 |_=>exact⟨(λz=>by cases z),λ_=>(by symm;exact q)⟩
theorem ZJh:∀(ks:List Int),ks.Pairwise (· < ·)->ris (ks.map .int)=true
 |[],_=>rfl
 |[a],_=>rfl
 |a::c::r,h=>by
  rw[List.pairwise_cons] at h;have ih:=ZJh (c::r) h.2;unfold ris at ih ⊢;show(decide (a<c) && _)=true;rw[Xe (h.1 c (Xs ..)),Bool.true_and];exact ih
theorem ZOi{ks:List Int}(h:∀k∈ks,0<=k):(ks.map PyData.int).all cnt=true:=by
 rw[all_eq_true];intro x hx;obtain⟨k,hk,rfl⟩:=List.mem_map.mp hx;exact Xe (h k hk)
theorem ZET{m:Int}(h:RisN ks m):arR (ZI ks)=true:=by
 show(true && ((ks.map PyData.int).all cnt && ris (ks.map .int)))=true;rw[ZOi h.lo,ZJh ks h.up];rfl
theorem ZQn{fa:List Int}(hl:fa.length<=1000)(h:∀k∈fa,k∉le)(q:P (.dat (.bool true)) g):EvP (ZCx [.dat (ZI fa),.dat (ZI le)] g) P:=by
 exfalso;symm;refine⟨by rw[Xm];omega,?_⟩;refine ZAi PyData.int (λk=>.bool (!le.contains k)) fa rfl trivial (λk hk=>⟨_,by rw[Zs],?_⟩) ?_
 .symm
  refine ZPJ (by rw[ZBy];rfl) ?_;rw[_L.any_ints];exact⟨rfl,rfl⟩
 symm;refine ZLn ?_;rw[List.all_eq_true.mpr λk hk=>by simp[h k hk]];symm;exact q
theorem ZE5{u:Int}(hl:hs.length<=900)(h:HsN hs u ks)(q:P (.dat (.bool true)) g):EvP (ZAx [.dat (Zm tn hs),.dat (ZI ks),.dat (.int u)] g) P:=by
 exfalso;symm;refine⟨by rw[Xm];have:=h.pr.len ⋯;omega,?_⟩;refine ZAi PyData.int (λk=>.bool true) ks rfl trivial (λk hk=>⟨_,by rw[Zs],?_⟩) ?_
 .have h1:=h.pr.lo k hk
  have h2:=h.pr.hi k hk;have h3:=h.pu k hk;obtain⟨m,rfl⟩:∃m:Nat,k=(m:Int):=⟨k.toNat,⋯⟩;symm;rw[Xm,Xe h2];refine bT ?_;symm;refine ZAd (Zj (a:=H0) ⋯) ?_;symm;rw[toNat_natCast] at h3;rw[Ze,h3,Xe rfl];exact⟨rfl,rfl⟩
 symm;refine ZLn ?_;rw[List.all_eq_true.mpr λk hk=>rfl];symm;exact q
theorem ZQJ(hl:hs.length<=900)(h:DoOk hs lo fa le co)(q:P (.dat (.bool true)) g):EvP (ZB1 [.dat (Zm tn hs),.dat (doD lo fa le co)] g) P:=by
 have hll:∀{ks:List Int} {m:Int},0<=m->m<=900->RisN ks m->ks.length<=1000:=λh0 h1 h2=>by have:=h2.len h0;omega
 exfalso;symm;refine ZTz (n:=4) ?_;symm;refine bT ?_;symm;refine⟨by show(4:Nat)<=20000;decide,?_⟩;refine ZAi id (λx=>.bool (arR x)) [ZI lo,ZI fa,ZI le,ZI co] rfl trivial (λx hx=>⟨_,by rw[Zs],?_⟩) ?_
 .symm
  refine ZKv ?_ ⟨rfl,rfl⟩;simp only[mem_cons,not_mem_nil,or_false] at hx;have hb:∀ks:List Int,(its (ZI ks)).length=ks.length:=λks=>Xm ..
  rcases hx with rfl|rfl|rfl|rfl
  .show(its (ZI lo)).length<=1000;rw[hb];exact hll (m:=60) (by decide) (by decide) h.plo
  .show(its (ZI fa)).length<=1000;rw[hb];exact hll ⋯ ⋯ h.pfa.pr
  .show(its (ZI le)).length<=1000;rw[hb];exact hll ⋯ ⋯ h.ple.pr
  .show(its (ZI co)).length<=1000;rw[hb];exact hll ⋯ ⋯ h.pco.pr
 symm;rw[ZET h.plo,ZET h.pfa.pr,ZET h.ple.pr,ZET h.pco.pr];refine bF ?_;symm;refine ZQn (hll ⋯ ⋯ h.pfa.pr) h.pap ?_;symm;refine bF ?_;symm;refine ZE5 hl h.pfa ?_;symm;refine bT ?_;symm;refine ZE5 hl h.ple ?_;symm;refine bT ?_;symm;refine ZE5 hl h.pco ?_;symm;exact q
theorem ZHz{d:PyData}:∀n:Nat,(List.replicate n [d]).flatten=List.replicate n d
 |0=>rfl
 |n+1=>by
  rw[replicate_succ,flatten_cons,ZHz n,replicate_succ];rfl
theorem ZJk(n2 : 2<=ts.length)(n8:ts.length<=8)(q:P (.dat (Zm 0 (List.replicate ts.length (ZAN r.t ts.length)))) g):EvP (ZFk [.dat (ruD r),.dat (ZZ ts)] g) P:=by
 exfalso;symm;rw[Xm];refine ZE0 ⋯ ⋯ rfl (by show(1:Nat)<=20;decide) ?_;symm;refine ZE0 ⋯ ⋯ rfl (by show(1:Nat)<=20;decide) ?_;symm;refine ZE0 ⋯ ⋯ rfl (by show(1:Nat)<=20;decide) ?_;symm;refine ZE0 ⋯ ⋯ rfl (by show(1:Nat)<=20;decide) ?_;symm;rw[toNat_natCast];have e:Zm 0 (List.replicate ts.length (ZAN r.t ts.length))=.tuple [.int 0,.tuple (List.replicate ts.length (.tuple [.int 1,.tuple (List.replicate ts.length (ZP (0,0))),.tuple (List.replicate ts.length (.int r.t)),.tuple (List.replicate ts.length (.int 0))]))]:=by
  unfold Zm ZAN;rw[map_replicate];show PyData.tuple [.int 0,.tuple (List.replicate ts.length (PyData.tuple [.int 1,.tuple ((List.replicate ts.length ((0:Int),(0:Int))).map ZP),.tuple ((List.replicate ts.length r.t).map .int),.tuple ((List.replicate ts.length (0:Int)).map .int)]))]=_;rw[map_replicate,map_replicate,map_replicate]
 rw[e] at q;rw[ZHz,ZHz,ZHz,ZHz];exact q
def ZIA(r:Ru)(ts:List (Int×Int)):Sx->List Do4->Prop
 |_,[]=>True
 |s,d::ds=>DoOk s.2 d.1 d.2.1 d.2.2.1 d.2.2.2/\ZIA r ts (nxS r ts s d) ds
structure TnOk (r:Ru) (ts:List (Int×Int)):Prop where
 cl:r.cl.Sublist ZB7
 ru:RuOk r
 n2 : 2<=ts.length
 n8:ts.length<=8
 ck:∀c∈ts,ZAs c
theorem TnOk.en(t:TnOk r ts):EnOk ⟨r,ts,tn,lo⟩:=⟨t.cl,t.ru,t.n2,t.n8,t.ck⟩
theorem ZPq{d:Do4}(t:TnOk r ts)(w:HsL ts.length s.2)(h:DoOk s.2 d.1 d.2.1 d.2.2.1 d.2.2.2):HsL ts.length (nxS r ts s d).2/\(nxR r ts s d).le.length<=960:=by
 have hle:∀k∈d.2.2.1,0<=k/\k<ts.length:=λk hk=>⟨h.ple.pr.lo k hk,by have:=h.ple.pr.hi k hk;rw[w.len] at this;exact this⟩
 have hco:∀k∈d.2.2.2,0<=k/\k<ts.length:=λk hk=>⟨h.pco.pr.lo k hk,by have:=h.pco.pr.hi k hk;rw[w.len] at this;exact this⟩
 exact ZQ5 t.ru.o t.n2 t.n8 w hle hco (by have:=h.few;rw[w.len] at this;exact this)
theorem ZI9{d:Do4}(t:TnOk r ts)(w:HsL ts.length s.2)(h:DoOk s.2 d.1 d.2.1 d.2.2.1 d.2.2.2)(q:∀g',Ex g g'->P (.dat (tsX (nxS r ts s d,(nxR r ts s d).le))) g'):EvP (ZA4 [.dat (ruD r),.dat (ZZ ts),.dat (stX s),.dat (doX d)] g) P:=by
 have hle:∀k∈d.2.2.1,0<=k/\k<ts.length:=λk hk=>⟨h.ple.pr.lo k hk,by have:=h.ple.pr.hi k hk;rw[w.len] at this;exact this⟩
 have hco:∀k∈d.2.2.2,0<=k/\k<ts.length:=λk hk=>⟨h.pco.pr.lo k hk,by have:=h.pco.pr.hi k hk;rw[w.len] at this;exact this⟩
 exact ZLj t.en w hle hco (by have:=h.few;rw[w.len] at this;exact this) q
structure Fc (c:Nat) (g g':G):Prop where
 len:g.length<=g'.length
 kp:∀n,n<g.length->n≠c->g'[n]? = g[n]?
theorem Fc.refl{c:Nat}:Fc c g g:=⟨le_refl _,λ_ _ _=>rfl⟩
theorem Fc.trans{c:Nat}{g g1 g2:G}(h:Fc c g g1)(k:Fc c g1 g2):Fc c g g2:=⟨le_trans h.len k.len,λi h1 h2=>(k.kp i (lt_of_lt_of_le h1 h.len) h2).trans (h.kp i h1 h2)⟩
theorem Fc.ex{c:Nat}(h:Ex g g'):Fc c g g':=⟨h.len,λk h1 _=>h.kp k h1⟩
theorem Fc.set{c:Nat}{g:G}{x:Cell}:Fc c g (g.set c x):=⟨by rw[length_set];exact le_refl _,λk _ h2=>getElem?_set_ne (Ne.symm h2)⟩
theorem ZJn{c:Nat}{P:Out->Prop}{x3:Option W}(t:TnOk r ts):∀(ds:List Do4) (s:Sx) (g:G) (k:Nat) (acc:Qd) (z5 z6 z7:Option W),HsL ts.length s.2->ZIA r ts s ds->acc.length+ds.length<=1000->g[c]? = some (.pl acc) ->
  (∀g' z2 z5 z6 z7,Fc c g g'->g'[c]? = some (.pl (acc++(ZLM r ts s ds).map tsX))->P (.nx [some (.dat (ruD r)),some (.dat (ZZ ts)),z2,x3,some (.ref c),z5,z6,z7] g')) ->
  EvS (ZAA none xs (.tp (.cons (.nm 5) (.cons (.nm 6) .nil))) (ZD (Zr (ZDJ (dB (dF ZB1 (ZA (ZB 2) (ZA (ZB 6) ZC))))) ZVP dNx) (ZD (ZAB (.tp (.cons (.nm 2) (.cons (.nm 7) .nil))) (dF ZA4 (ZA (ZB 0) (ZA (ZB 1) (ZA (ZB 2) (ZA (ZB 6) ZC)))))) (ZAT (ZDy (ZB 4) (dF Zd (ZA (ZB 2) (ZA (ZB 7) ZC))))))) (ZBn k (ds.map doX)) [some (.dat (ruD r)),some (.dat (ZZ ts)),some (.dat (stX s)),x3,some (.ref c),z5,z6,z7] g) P
 |[],s,g,k,acc,z5,z6,z7,w,ho,hl,hc,q=>ZB6 (q g _ z5 z6 z7 .refl (by rw[ZLM,map_nil,append_nil];exact hc))
 |d::ds,s,g,k,acc,z5,z6,z7,w,ho,hl,hc,q=>by
  rw[Xc] at hl;have n8:=t.n8;have kk:=ZPq t w ho.1;rw[map_cons,ZBn];refine ZBG rfl ?_;symm;refine ZQJ (tn:=s.1) (by rw[w.len];omega) ho.1 ?_;symm;refine bF ?_;symm;refine ZI9 t w ho.1 λg1 E1=>?_
  have hc1:g1[c]? = some (.pl acc):=by rw[E1.kp _ (ZB8 hc)];exact hc
  symm;refine⟨_,hc1,⋯,?_⟩;refine .nx trivial ?_;refine ZJn t ds (nxS r ts s d) _ (k+1) (acc++[tsX (nxS r ts s d,(nxR r ts s d).le)]) _ _ _ kk.1 ho.2 (by rw[Xa];show acc.length+1+_<=1000;omega) (ZAK (ZB8 hc1)) λg' y2 y5 y6 y7 f h'=>?_
  refine q g' y2 y5 y6 y7 (((Fc.ex E1).trans .set).trans f) ?_;rw[h',ZLM,map_cons,append_assoc];rfl
theorem ZPn{ds:List Do4}(t:TnOk r ts)(w:HsL ts.length s.2)(ho:ZIA r ts s ds)(hl:ds.length<=1000)(q:∀g',Ex g g'->g'[g.length]? = some (.pl ((ZLM r ts s ds).map tsX))->P (.ref g.length) g'):EvP (ZIw [.dat (ruD r),.dat (ZZ ts),.dat (stX s),.dat (.tuple (ds.map doX))] g) P:=by
 exfalso;symm;refine ZJn t ds s _ 0 [] _ _ _ w ho (by show 0+_<=1000;omega) Zk λg' z2 z5 z6 z7 f h=>?_
 symm;refine q g' ⟨by have:=f.len;rw[Xa] at this;omega,λn hn=>?_⟩ h;rw[f.kp n (by rw[Xa];omega) ⋯,getElem?_append_left hn]
theorem ZMv{c e:Nat}{P:Out->Prop}{x3:Option W}(hce:e≠c):∀(ds:List Do4) (s:Sx) (g:G) (acc:Qd) (z5 z6:Option W),acc.length+ds.length<=1000->g[c]? = some (.pl acc)->g[e]? = some (.pl xs) ->
  (∀g' z5 z6,Fc c g g'->g'[c]? = some (.pl (acc++(ZOs r ts s ds).map ZQK))->P (.nx [some (.dat (ruD r)),some (.dat (ZZ ts)),some (.dat (stX (ZFV r ts s ds))),x3,some (.ref c),z5,z6] g')) ->
  EvS (ZAA (some e) xs (.tp (.cons (.nm 5) (.cons (.nm 6) .nil))) (ZD (ZR 2 (ZB 5)) (ZAT (ZDy (ZB 4) (ZB 6)))) ((ZLM r ts s ds).map tsX) [some (.dat (ruD r)),some (.dat (ZZ ts)),some (.dat (stX s)),x3,some (.ref c),z5,z6] g) P
 |[],s,g,acc,z5,z6,hl,hc,he,q=>ZB6 (q g z5 z6 .refl (by rw[ZOs,map_nil,append_nil];exact hc))
 |d::ds,s,g,acc,z5,z6,hl,hc,he,q=>by
  rw[Xc] at hl;rw[ZLM,map_cons];refine ZBG rfl ?_;symm;refine⟨_,hc,⋯,?_⟩;have he1:(g.set c (.pl (acc++[ZQK (nxR r ts s d).le])))[e]? = some (.pl xs):=by rw[getElem?_set_ne (Ne.symm hce)];exact he
  refine .nx he1 ?_;refine ZMv hce ds (nxS r ts s d) _ (acc++[ZQK (nxR r ts s d).le]) _ _ (by rw[Xa];show acc.length+1+_<=1000;omega) (ZAK (ZB8 hc)) he1 λg' y5 y6 f h'=>?_
  refine q g' y5 y6 (Fc.set.trans f) ?_;rw[h',ZOs,map_cons,append_assoc];rfl
theorem ZEk{ds:List Do4}(t:TnOk r ts)(w:HsL ts.length s.2)(ho:ZIA r ts s ds)(hl:ds.length<=1000)(q:∀g',Ex g g'->P (.dat (.tuple [stX (ZFV r ts s ds),.tuple ((ZOs r ts s ds).map ZQK)])) g'):EvP (ZEN [.dat (ruD r),.dat (ZZ ts),.dat (stX s),.dat (.tuple (ds.map doX))] g) P:=by
 exfalso;symm;refine ZPn t w ho hl λg1 E1 h1=>?_
 have hc:g1[g.length]? = some (.pl []):=by rw[E1.kp _ (by simp)];exact Zk
 have hne:(g++[Cell.pl []]).length≠g.length:=by simp
 refine ZOg h1 ?_;refine ZMv hne ds s g1 [] _ _ (by show 0+_<=1000;omega) hc h1 λg2 z5 z6 f h2=>?_
 symm;refine ZDo h2 ?_;symm;refine q g2 ⟨by have:=f.len;have:=E1.len;rw[Xa] at this;omega,λn hn=>?_⟩;have:=E1.len;rw[Xa] at this
 rw[f.kp n ⋯ ⋯,E1.kp n (by rw[Xa];omega),getElem?_append_left hn]
theorem ZSr{le co:List Int}(ho : 0<=r.o/\r.o<=3)(n2 : 2<=ts.length)(w:HsL ts.length hs)(hle:∀k∈le,0<=k/\k<ts.length)(hco:∀k∈co,0<=k/\k<ts.length)(ha:a<ts.length) :
  ((ZAc r ts tn hs lo fa le co).hs.getD a H0).1=if (a:Int)∈le then 0 else if (a:Int)∈fa then 0 else if (a:Int)∈co then 1 else (hs.getD a H0).1:=by
 have hx:∀x∈le++co,x.toNat<ts.length:=λx hx=>by
  rcases List.mem_append.mp hx with h|h
  .have:=hle x h;omega
  .have:=hco x h;omega
 have k1:=ZAk (f:=λ(R:Rw) (x:Int)=>Z2 ⟨r,ts,tn,lo⟩ x.toNat R) (n:=ts.length) (m:=ts.length) (L:=le++co) (R:=⟨ZU fa le co hs,[]⟩) (ZDO w) λx h R w=>ZCB (e:=⟨r,ts,tn,lo⟩) w (hx x h)
 have g1:=ZAa (e:=⟨r,ts,tn,lo⟩) (f:=λ(R:Rw) (x:Int)=>Z2 ⟨r,ts,tn,lo⟩ x.toNat R) (n:=ts.length) (L:=le++co) (R:=⟨ZU fa le co hs,[]⟩) (ZDO w) λx h R w=>⟨(ZCB (e:=⟨r,ts,tn,lo⟩) w (hx x h)).1,ZHY (e:=⟨r,ts,tn,lo⟩) w (hx x h)⟩
 have k2:=ZEM (L:=le) k1.1 λx h=>by have:=hle x h;omega
 have g2:=ZHg (e:=⟨r,ts,tn,lo⟩) (R:=⟨le.foldl (λhs x=>Z5 x.toNat hs) ((le++co).foldl (λ(R:Rw) (x:Int)=>Z2 ⟨r,ts,tn,lo⟩ x.toNat R) ⟨ZU fa le co hs,[]⟩).hs,((le++co).foldl (λ(R:Rw) (x:Int)=>Z2 ⟨r,ts,tn,lo⟩ x.toNat R) ⟨ZU fa le co hs,[]⟩).le⟩) ho n2 k2;have e2:=ZN g2.up a;refine e2.trans ?_;show((le.foldl (λhs x=>Z5 x.toNat hs) ((le++co).foldl (λ(R:Rw) (x:Int)=>Z2 ⟨r,ts,tn,lo⟩ x.toNat R) ⟨ZU fa le co hs,[]⟩).hs).getD a H0).1=_;rw[ZJj (by rw[k1.1.len];exact ha) λk hk=>(hle k hk).1]
 split
 .rfl
 .rename_i hl
  rw[ZN g1.up a];show((ZU fa le co hs).getD a H0).1=_;rw[ZNJ (by rw[w.len];exact ha)]
  split
  .rfl
  .rfl
theorem ZFq{n:Nat}(hr:RuOk r):AQ r n (List.replicate n (ZAN r.t n)):=⟨length_replicate,λi hi=>by
 have ht:=hr.t;have hw:=hr.w;rw[Xq,getElem?_replicate,Xp hi];refine⟨.inr rfl,length_replicate,λw hw=>?_,length_replicate,λk hk=>?_,length_replicate,λk hk=>?_,?_,.inl rfl⟩
 .rw[(List.mem_replicate.mp hw).2];decide
 .rw[(List.mem_replicate.mp hk).2];omega
 .rw[(List.mem_replicate.mp hk).2];omega
 .show(List.replicate n (0:Int)).getD i 0=0
  exact ZBf⟩
def ZEf:List Int->List Do4->Prop
 |_,[]=>True
 |ups,d::r=>DoOk (uH ups) d.1 d.2.1 d.2.2.1 d.2.2.2/\(1<=ups.sum->(d.2.1.length:Int)+d.2.2.1.length+1<=ups.sum)/\ZEf (ZG7 d.2.1 d.2.2.1 d.2.2.2 ups) r
def ZKM(ups:List Int)(ds:List Do4):List Int:=ds.foldl (λu d=>ZG7 d.2.1 d.2.2.1 d.2.2.2 u) ups
theorem ZEf.snoc:∀{ds:List Do4} {ups:List Int} {d:Do4},ZEf ups ds->DoOk (uH (ZKM ups ds)) d.1 d.2.1 d.2.2.1 d.2.2.2->(1<=(ZKM ups ds).sum->(d.2.1.length:Int)+d.2.2.1.length+1<=(ZKM ups ds).sum)->ZEf ups (ds++[d])
 |[],_,_,_,h,k=>⟨h,k,trivial⟩
 |x::ds,_,_,h,k,l=>⟨h.1,h.2.1,ZEf.snoc h.2.2 k l⟩
theorem ZPe{l l':List Int}(h:l.length=l'.length)(k:∀i,i<l.length->l.getD i 0=l'.getD i 0):l=l':=by
 refine ext_getElem h λi h1 h2=>?_
 have:=k i h1;rw[Xq,Xq,getElem?_eq_getElem h1,getElem?_eq_getElem h2] at this
 exact this
theorem ZKZ:(ZG7 fa le co ups).length=ups.length:=by
 unfold ZG7;rw[ZAP,ZAP]
theorem ZOq{v:Int}(hv:v=0\/v=1):∀{ks u:List Int},(∀x∈u,x=0\/x=1)->∀x∈ZAp v ks u,x=0\/x=1
 |[],u,h=>h
 |k::r,u,h=>ZOq hv (ks:=r) λx hx=>ZCQ (P:=λx=>x=0\/x=1) h hv x hx
theorem ZRd{fa le co ups:List Int}(h:∀x∈ups,x=0\/x=1):∀x∈ZG7 fa le co ups,x=0\/x=1:=ZOq (.inr rfl) (ZOq (.inl rfl) h)
theorem ZLo{d:Do4}(t:TnOk r ts)(w:HsL ts.length s.2)(h:DoOk s.2 d.1 d.2.1 d.2.2.1 d.2.2.2):ZAX (nxS r ts s d).2=ZG7 d.2.1 d.2.2.1 d.2.2.2 (ZAX s.2):=by
 have inn:∀{L:List Int} {u:Int},HsN s.2 u L->∀k∈L,0<=k/\k<(ts.length:Int):=λhh k hk=>⟨hh.pr.lo k hk,by have:=hh.pr.hi k hk;rw[w.len] at this;exact this⟩
 have wl:=(ZPq t w h).1.len;have ul:(ZAX s.2).length=ts.length:=by unfold ZAX;rw[Xm];exact w.len
 refine ZPe (by rw[ZKZ,ul];unfold ZAX;rw[Xm];exact wl) λi hi=>?_
 have hi:i<ts.length:=by unfold ZAX at hi;rw[Xm,wl] at hi;exact hi
 rw[<-ZIf];show((ZAc r ts s.1 s.2 d.1 d.2.1 d.2.2.1 d.2.2.2).hs.getD i H0).1=_;rw[ZSr t.ru.o t.n2 w (inn h.ple) (inn h.pco) hi];unfold ZG7;rw[ZDP (by rw[ZAP,ul];exact hi) λk hk=>(inn h.pco k hk).1,ZDP (by rw[ul];exact hi) λk hk=>(List.mem_append.mp hk).elim (λz=>(inn h.pfa k z).1) λz=>(inn h.ple k z).1,<-ZIf];have one:(i:Int)∈d.2.1\/(i:Int)∈d.2.2.1->(i:Int)∉d.2.2.2:=λz q=>by
  have h1:=h.pco.pu _ q;rcases z with z|z
  .rw[h.pfa.pu _ z] at h1;cases h1
  .rw[h.ple.pu _ z] at h1;cases h1
 by_cases c:(i:Int)∈d.2.2.2
 .rw[Xp c,Xp c,Xn λz=>one (.inr z) c,Xn λz=>one (.inl z) c]
 .rw[Xn c,Xn c]
  by_cases a:(i:Int)∈d.2.2.1
  .rw[Xp a,Xp (mem_append_right _ a)]
  .rw[Xn a]
   by_cases e:(i:Int)∈d.2.1
   .rw[Xp e,Xp (mem_append_left _ e)]
   .rw[Xn e,Xn λz=>(List.mem_append.mp z).elim e a]
theorem ZEf.ok(t:TnOk r ts):∀{ds:List Do4} {s:Sx},HsL ts.length s.2->ZEf (ZAX s.2) ds->ZIA r ts s ds/\ZAX (ZFV r ts s ds).2=ZKM (ZAX s.2) ds
 |[],_,_,_=>⟨trivial,rfl⟩
 |d::ds,s,w,h=>by
  have h1:=h.1.of rfl;have e:=ZLo t w h1;obtain⟨a,b⟩:=ZEf.ok t (ds:=ds) (ZPq t w h1).1 (by rw[e];exact h.2.2);refine⟨⟨h1,a⟩,?_⟩;rw[e] at b;exact b
theorem ZPI(h:DoOk (uH ups) lo fa le co)(k : 1<=ups.sum->(fa.length:Int)+le.length+1<=ups.sum)(hs : 1<=ups.sum) : 1<=(ZG7 fa le co ups).sum:=by
 have hl:(uH ups).length=ups.length:=by unfold uH;rw[Xm]
 have inn:∀{L:List Int} {u:Int},HsN (uH ups) u L->∀x∈L,(0<=x/\x<ups.length)/\ups.getD x.toNat 0=u:=λhh x hx=>⟨⟨hh.pr.lo x hx,by have:=hh.pr.hi x hx;rw[hl] at this;exact this⟩,by rw[<-ZML];exact hh.pu x hx⟩
 have nd:(fa++le).Nodup:=by
  rw[nodup_append];exact⟨ZK3 h.pfa.pr,ZK3 h.ple.pr,λa ha b hb z=>h.pap a ha (by rw[z];exact hb)⟩
 unfold ZG7;have e1:=ZD0 (v:=0) (w:=1) nd λx hx=>(List.mem_append.mp hx).elim (inn h.pfa x) (inn h.ple x)
 have e2:=ZD0 (v:=1) (w:=0) (ks:=co) (ups:=ZAp 0 (fa++le) ups) (ZK3 h.pco.pr) λx hx=>by
  have h1:=inn h.pco x hx;refine⟨by rw[ZAP];exact h1.1,?_⟩;rw[ZDP ⋯ λy hy=>(List.mem_append.mp hy).elim (λz=>(inn h.pfa y z).1.1) λz=>(inn h.ple y z).1.1,h1.2,show((x.toNat:Nat):Int)=x from toNat_of_nonneg h1.1.1]
  split <;> rfl
 rw[e2,e1,Xa];have:=k hs;omega
theorem ZG0:∀{ds:List Do4} {ups:List Int},(ZKM ups ds).length=ups.length
 |[],_=>rfl
 |d::ds,ups=>(ZG0 (ds:=ds)).trans ZKZ
theorem ZNG:∀{ds:List Do4} {ups:List Int},(∀x∈ups,x=0\/x=1)->∀x∈ZKM ups ds,x=0\/x=1
 |[],_,h=>h
 |d::ds,ups,h=>ZNG (ds:=ds) (ZRd h)
theorem ZT5{n:Nat}{m:Int}(hb:Bx g b)(hn : 2<=n/\n<=8)(hm : 0<=m/\m<=100)(q:∀ds g',ZEf (List.replicate n 1) ds->(ds.length:Int)<=m->Dr b g g'->P (.dat (.tuple (ds.map doX))) g'):EvP (ZDq [.ref b,.dat (.int (n:Int)),.dat (.int m)] g) P:=by
 have hbl:=hb.lt;exfalso;symm;refine ZT4 (by show(n:Int)<=1000/\-1000<=(n:Int)/\1<=1000;omega) (by rw[toNat_natCast,ZHz]) ?_;symm;have D1:Dr b g (g++[.pl (List.replicate n (.int 1))]):=(Dr.refl hb).app;refine Zx D1.bx (by decide) (by decide) λd2 g2 l2 u2 D2=>?_
 refine ZBO (xs:=[6,20,60]) l2 u2 λk hk=>?_
 have hk : 0<k/\k<=1000:=by
  simp only[mem_cons,not_mem_nil,or_false] at hk;omega
 symm;refine ZAt (j:=0) (g1:=[]) ?_;symm;refine Zx D2.bx ⋯ ⋯ λd3 g3 l3 u3 D3=>?_
 have D13:=D1.trans (D2.trans D3);have c3:g3[g.length]? = some (.pl ((List.replicate n (1:Int)).map .int)):=by
  rw[(D2.trans D3).kp _ (by rw[Xa,length_singleton];omega) ⋯,map_replicate];exact Zk
 have hl3:g.length<g3.length:=(List.getElem?_eq_some_iff.mp c3).1;symm;refine⟨⋯,by rw[ZAl];omega,?_⟩;refine ZTh (λi acc gx=>∃ds:List Do4,acc=ds.map doX/\ds.length=i/\ZEf (List.replicate n 1) ds/\Dr b g gx/\gx[g.length]? = some (.pl ((ZKM (List.replicate n 1) ds).map .int))) ⟨[],rfl,rfl,trivial,D13,c3⟩ ?_ ?_
 .rintro i x gx acc hx ⟨ds,rfl,rfl,ho,Dx,cx⟩
  refine⟨_,rfl,true,gx,rfl,λ_=>?_,(λz=>by cases z)⟩;symm;have hlx:g.length<gx.length:=(List.getElem?_eq_some_iff.mp cx).1;refine ZOH Dx.bx ⋯ cx (by rw[ZG0,length_replicate];omega) (by rw[ZG0,length_replicate];omega) (ZNG λx hx=>.inr (List.mem_replicate.mp hx).2) hk λlo fa le co g4 hdo hsum D4 c4=>?_
  refine⟨_,rfl,trivial,ds++[(lo,fa,le,co)],by rw[map_append];rfl,by rw[Xa];rfl,ho.snoc hdo hsum,⟨D4.bx,le_trans Dx.len D4.len,λk h1 h2=>(D4.kp k ⋯ h2 ⋯).trans (Dx.kp k h1 h2)⟩,?_⟩;unfold ZKM;rw[foldl_append];exact c4
 .rintro acc gx ⟨ds,rfl,hdl,ho,Dx,cx⟩
  rw[ZAl] at hdl;symm;exact q ds gx ho ⋯ Dx
theorem ZMH:∀n:Nat,(List.replicate n (1:Int)).sum=n
 |0=>rfl
 |n+1=>by rw[replicate_succ,sum_cons,ZMH n];omega
theorem ZHh{t:Int}{n:Nat}:ZAX (List.replicate n (ZAN t n))=List.replicate n 1:=by
 unfold ZAX;rw[map_replicate];rfl
structure StOk (r:Ru) (ts:List (Int×Int)) (s:Sx):Prop where
 q:AQ r ts.length s.2
 up : 1<=(ZAX s.2).sum
 tn : 0<=s.1
theorem ZK4(t:TnOk r ts):∀{ds:List Do4} {s:Sx},StOk r ts s->ZEf (ZAX s.2) ds->StOk r ts (ZFV r ts s ds)
 |[],_,h,_=>h
 |d::ds,s,h,k=>by
  have h1:=k.1.of (hs:=s.2) rfl;have w:=h.q.L;have e:=ZLo t w h1;have inn:∀{L:List Int} {u:Int},HsN s.2 u L->∀k∈L,0<=k/\k<(ts.length:Int):=λhh k hk=>⟨hh.pr.lo k hk,by have:=hh.pr.hi k hk;rw[w.len] at this;exact this⟩
  have tw:=t.ru.w;have tt:=t.ru.t;have tn:=h.tn;refine ZK4 t (ds:=ds) ⟨ZIu ⋯ ⋯ t.n2 h.q (inn h1.ple) (inn h1.pco),?_,?_⟩ (by rw[e];exact k.2.2)
  .rw[e]
   exact ZPI k.1 k.2.1 h.up
  .show 0<=s.1+1
   omega
theorem ZPl(t:TnOk r ts):StOk r ts (0,List.replicate ts.length (ZAN r.t ts.length)):=by
 have n2:=t.n2;refine⟨ZFq t.ru,?_,Int.le_refl _⟩;show 1<=(ZAX (List.replicate ts.length (ZAN r.t ts.length))).sum;rw[ZHh,ZMH];omega
inductive TIB:Nat->PyData->Prop
 |int {n:Nat} (i:Int):TIB (n+1) (.int i)
 |non {n:Nat}:TIB (n+1) .none
 |tup {n:Nat} (ds:List PyData):ds.length<=1000->(∀d∈ds,TIB n d)->TIB (n+1) (.tuple ds)
theorem ZJV:∀ds:List PyData,ZCt ds ds=ds.map λd=>PyData.tuple [d,d]
 |[]=>rfl
 |d::r=>by rw[ZCt,ZJV r];rfl
theorem ZMJ:∀(n:Nat) (d:PyData),TIB n d->∀{g:G} {P:W->G->Prop},P (.dat (.bool true)) g->EvP (Zv n [.dat d,.dat d] g) P:=by
 intro n
 induction n with
 |zero=>intro d h;cases h
 |succ n ih =>
  intro d h g P q;cases h with
  |non =>
   refine ZCd ?_;symm;refine bF ?_;symm;refine bT ?_;symm;exact q
  |int i =>
   refine ZCd ?_;symm;refine bF ?_;symm;refine bF ?_;symm;refine bF ?_;symm;refine bF ?_;symm;refine bT ?_;symm;rw[Ze,Xe rfl];exact q
  |tup ds hl hd =>
   refine ZCd ?_;symm;refine bT ?_;symm;refine bF ?_;symm;rw[Ze,Xe rfl];refine bF ?_;symm;refine⟨ds,ds,rfl,by rw[ZD9];omega,?_⟩;refine ZAi (λd=>PyData.tuple [d,d]) (λ_=>PyData.bool true) ds (ZJV ds) trivial (λd hd2=>⟨_,rfl,?_⟩) ?_
   .symm
    exact ih d (hd d hd2) ⟨rfl,rfl⟩
   symm;rw[show(ds.map λ_=>PyData.bool true)=(ds.map λ_=>true).map PyData.bool by rw[map_map];rfl];refine ZQe ?_;rw[show(ds.map λ_=>true).all id=true by rw[all_map,all_eq_true];exact λ_ _=>rfl];symm;exact q
theorem ZJ9{n:Nat}{L:List Int}(h:L.length<=1000):TIB (n+2) (ZI L):=.tup _ (by rw[Xm];exact h) λd hd=>by
 obtain⟨k,_,rfl⟩:=List.mem_map.mp hd;exact .int k
theorem ZEi{n:Nat}(w:HsL m s.2)(hm:m<=8):TIB (n+6) (stX s):=.tup _ (by show(2:Nat)<=1000;decide) λd hd=>by
 simp only[mem_cons,not_mem_nil,or_false] at hd;rcases hd with rfl|rfl
 .exact .int _
 refine .tup _ (by rw[Xm,w.len];omega) λd hd=>?_
 obtain⟨h,hh,rfl⟩:=List.mem_map.mp hd;have v:=w.all h hh;refine .tup _ (by show(4:Nat)<=1000;decide) λd hd=>?_
 simp only[mem_cons,not_mem_nil,or_false] at hd;rcases hd with rfl|rfl|rfl|rfl
 .exact .int _
 .refine .tup _ (by rw[Xm,v.bl];omega) λd hd=>?_
  obtain⟨x,_,rfl⟩:=List.mem_map.mp hd;refine .tup _ (by show(2:Nat)<=1000;decide) λd hd=>?_
  simp only[mem_cons,not_mem_nil,or_false] at hd;rcases hd with rfl|rfl <;> exact .int _
 .exact ZJ9 (by rw[v.tl];omega)
 .exact ZJ9 (by rw[v.ml];omega)
theorem ZRo(h:∀x∈xs,x.canLay0=true):PyData.canLayAll0 xs=true:=by
 induction xs with
 |nil=>rfl
 |cons x r ih =>
  show(x.canLay0 && PyData.canLayAll0 r)=true;rw[h x (Xs ..),ih λy hy=>h y (Xo _ hy)];rfl
theorem ZSM(h:∀x∈xs,x.depth<=k):PyData.depthAll xs<=k:=by
 induction xs with
 |nil=>exact zero_le _
 |cons x r ih =>
  rw[PyData.depthAll.eq_2];exact Nat.max_le.mpr ⟨h x (Xs ..),ih λy hy=>h y (Xo _ hy)⟩
theorem ZL4:∀{m:Nat} {t:PyData},TIB m t->t.canLay0=true/\t.depth<=m
 |0,_,h=>by cases h
 |m+1,_,.int i=>⟨rfl,zero_le _⟩
 |m+1,_,.non=>⟨rfl,zero_le _⟩
 |m+1,_,.tup ds _ h=>⟨ZRo λx hx=>(ZL4 (h x hx)).1,by rw[PyData.depth.eq_2];have:=ZSM (k:=m) λx hx=>(ZL4 (h x hx)).2;omega⟩
theorem ZQF{t:PyData}(h:TIB m t)(hm:m<=8):ok0 t=true:=by
 have h1:=ZL4 h;unfold ok0;rw[h1.1,Xe ⋯];rfl
theorem ZJm:∀(es ds:Qd),es.length=ds.length->PyData.eqvAll es ds=(ds.zip es).all λp=>p.2.eqv p.1
 |[],[],_=>rfl
 |e::es,d::ds,h=>by
  rw[PyData.eqvAll,List.zip_cons_cons,List.all_cons,ZJm es ds (Nat.succ.inj h)]
noncomputable def lsF(a b:Int):Int:=((a.toNat.lcm b.toNat:Nat):Int)
def Six(a:Int):Prop:=a=1\/a=2\/a=3\/a=4\/a=6\/a=12
theorem ZTa{a b:Int}(ha:Six a)(hb : 1<=b/\b<=4):ZBl [.dat (.int a),.dat (.int b)] g=some (.dat (.int (lsF a b)),g)/\Six (lsF a b)/\(∃k,lsF a b=a*k)/\∃k,lsF a b=b*k:=by
 have hb4:b=1\/b=2\/b=3\/b=4:=⋯
 unfold Six at ha ⊢;rcases ha with rfl|rfl|rfl|rfl|rfl|rfl <;> rcases hb4 with rfl|rfl|rfl|rfl <;> exact⟨by kernel_rfl,by decide,⟨_,(Int.mul_ediv_cancel' (by decide)).symm⟩,⟨_,(Int.mul_ediv_cancel' (by decide)).symm⟩⟩
def lsL(ts:List (Int×Int)):Int:=ts.foldl (λa c=>lsF a c.1) 1
def cyF(ts:List (Int×Int)):Int:=lsL ts*(ts.length:Int)*((ts.length:Int)-1)
theorem ZLO:∀(L:Qi) (a:Int),Six a->(∀c∈L,ZAs c)->Six (L.foldl (λa c=>lsF a c.1) a)/\(∃k,L.foldl (λa c=>lsF a c.1) a=a*k)/\∀c∈L,∃k,L.foldl (λa c=>lsF a c.1) a=c.1*k
 |[],a,h,_=>⟨h,⟨1,(mul_one a).symm⟩,λc hc=>by cases hc⟩
 |c::L,a,h,hc=>by
  have h0:=hc c (Xs ..);obtain⟨_,h1,⟨k1,e1⟩,⟨k2,e2⟩⟩:=ZTa (g:=[]) h ⟨h0.1,h0.2.1⟩;obtain⟨h2,⟨k3,e3⟩,h3⟩:=ZLO L (lsF a c.1) h1 λd hd=>hc d (Xo _ hd)
  rw[foldl_cons];refine⟨h2,⟨k1*k3,by rw[e3,e1,mul_assoc]⟩,λd hd=>?_⟩;rcases List.mem_cons.mp hd with rfl|hd
  .exact⟨k2*k3,by rw[e3,e2,mul_assoc]⟩
  .exact h3 d hd
theorem ZQ2(n2 : 2<=ts.length)(hc:∀c∈ts,ZAs c) : 0<cyF ts/\∀c∈ts,∃k,cyF ts=c.1*((ts.length:Int)*((ts.length:Int)-1)*k):=by
 obtain⟨h1,_,h3⟩:=ZLO ts 1 (.inl rfl) hc;refine⟨?_,λc hm=>?_⟩
 .have p1 : 0<lsL ts:=by unfold Six at h1;unfold lsL;omega
  exact mul_pos (mul_pos p1 ⋯) ⋯
 .obtain⟨k,e⟩:=h3 c hm
  refine⟨k,?_⟩;show lsL ts*_*_=_;unfold lsL;rw[e,mul_assoc,mul_assoc,mul_comm k]
theorem ZVI(n8:ts.length<=8)(hc:∀c∈ts,ZAs c)(q:P (.dat (.int (cyF ts))) g):EvP (ZIQ [.dat (ZZ ts)] g) P:=by
 exfalso;symm;refine ZBZ (λi sd gx=>gx=g/\Six (lsL (ts.take i))/\∃z3 z4,sd=[some (.dat (ZZ ts)),some (.dat (.int ((ts.map ZP).length:Int))),some (.dat (.int (lsL (ts.take i)))),z3,z4]) ⟨rfl,.inl rfl,_,_,rfl⟩ ?_ ?_
 .rintro i x sd gx hx ⟨rfl,h6,z3,z4,rfl⟩
  rw[getElem?_map] at hx;obtain⟨c,hcx,rfl⟩:=mp hx;have hm:c∈ts:=mem_of_getElem? hcx;have h0:=hc c hm;obtain⟨e1,h1,_,_⟩:=ZTa (g:=gx) h6 ⟨h0.1,h0.2.1⟩;have et:lsL (ts.take (i+1))=lsF (lsL (ts.take i)) c.1:=by
   unfold lsL;rw[take_add_one,hcx];show(ts.take i++[c]).foldl _ 1=_;rw[foldl_append];rfl
  refine⟨_,rfl,?_⟩;symm;refine ZGe e1 ?_;exact⟨trivial,rfl,by rw[et];exact h1,some (.dat (.int c.1)),some (.dat (.int c.2)),by rw[et];rfl⟩
 .rintro sd gx ⟨rfl,h6,z3,z4,rfl⟩
  rw[Xm,take_length] at h6;rw[Xm,take_length];have h6':=h6;unfold Six at h6';symm;refine ZEH (ZC8 ⋯) ?_;symm;refine ZEH (ZC8 ⋯) ?_;symm;exact q
def cyL(ts:List (Int×Int)):Nat:=(cyF ts).toNat
theorem ZKy(n2 : 2<=ts.length)(hc:∀c∈ts,ZAs c):(cyL ts:Int)=cyF ts:=toNat_of_nonneg (Int.le_of_lt (ZQ2 n2 hc).1)
theorem ZUe(n2 : 2<=ts.length)(n4:ts.length<=4)(hc:∀c∈ts,ZAs c) : 2<=cyL ts/\cyL ts<=144:=by
 obtain⟨h1,_,_⟩:=ZLO ts 1 (.inl rfl) hc;have h1:Six (lsL ts):=h1;have e:=ZKy n2 hc;unfold cyF at e;unfold Six at h1;have hn:ts.length=2\/ts.length=3\/ts.length=4:=⋯
 rcases hn with hn|hn|hn <;> rw[hn] at e <;> omega
theorem ZRn(n2 : 2<=ts.length)(hc:∀c∈ts,ZAs c):ZVW ts (cyL ts):=λc hm=>by
 obtain⟨k,e⟩:=(ZQ2 n2 hc).2 c hm;exact⟨k,by rw[ZKy n2 hc,e,mul_comm k]⟩
theorem ZGa:DoOk hs [] [] [] []:=⟨.nil,⟨.nil,λx hx=>by cases hx⟩,⟨.nil,λx hx=>by cases hx⟩,⟨.nil,λx hx=>by cases hx⟩,λx hx=>by cases hx⟩
theorem ZPf{d:Do4}(t:TnOk r ts)(w:AQ r ts.length s.2)(h0 : 0<=s.1)(h:DoOk s.2 d.1 d.2.1 d.2.2.1 d.2.2.2):AQ r ts.length (nxS r ts s d).2/\0<=(nxS r ts s d).1:=by
 have inn:∀{L:List Int} {u:Int},HsN s.2 u L->∀k∈L,0<=k/\k<(ts.length:Int):=λhh k hk=>⟨hh.pr.lo k hk,by have:=hh.pr.hi k hk;rw[w.len] at this;exact this⟩
 have tw:=t.ru.w;have tt:=t.ru.t;exact⟨ZIu ⋯ ⋯ t.n2 w (inn h.ple) (inn h.pco),by show 0<=s.1+1;omega⟩
def qS(r:Ru)(ts:List (Int×Int))(s:Sx):Nat->Sx
 |0=>s
 |n+1=>nxS r ts (qS r ts s n) ([],[],[],[])
theorem ZDb(t:TnOk r ts)(w:AQ r ts.length s.2)(h0 : 0<=s.1):∀i,AQ r ts.length (qS r ts s i).2/\0<=(qS r ts s i).1
 |0=>⟨w,h0⟩
 |i+1=>ZPf (d:=([],[],[],[])) t (ZDb t w h0 i).1 (ZDb t w h0 i).2 ZGa
def hsD(s:Sx):PyData:=.tuple (s.2.map Zl)
def neS(r:Ru)(ts:List (Int×Int))(s:Sx)(i k:Nat):Bool:=!(hsD (qS r ts s i)).eqv (hsD (qS r ts s k))
noncomputable def stR(ne:Nat->Nat->Bool)(L:Nat):Nat->Nat->Nat->Option Nat
 |0,_,_=>none
 |f+1,k,t=>if 500<(if ne (t+1) k=true then t+1 else k) then none else if t+1-(if ne (t+1) k=true then t+1 else k)=L then some (if ne (t+1) k=true then t+1 else k) else stR ne L f (if ne (t+1) k=true then t+1 else k) (t+1)
theorem ZGs{n:Nat}(w:HsL m s.2)(hm:m<=8):TIB (n+5) (hsD s):=by
 have:=ZEi (n:=n) w hm;cases this with
 |tup ds _ h=>exact h _ (by simp[hsD])
theorem ZPp(t:TnOk r ts)(w:AQ r ts.length s.2)(h0 : 0<=s.1)(q:P (.dat (.bool (neS r ts s i k))) g):EvP (ZCM (.dat (hsD (qS r ts s i))) (.dat (hsD (qS r ts s k))) g) P :=
 ZWG (by rw[ZQF (ZGs (n:=0) (ZDb t w h0 i).1.L t.n8) (by decide),ZQF (ZGs (n:=0) (ZDb t w h0 k).1.L t.n8) (by decide)];rfl) q
theorem ZGr(t:TnOk r ts)(hF:F<1000)(hL : 2<=cyL ts)(w:AQ r ts.length s.2)(h0 : 0<=s.1)(hR:stR (neS r ts s) (cyL ts) F 0 0=some M)(q:∀g',Ex g g'->P (.dat (.tuple [.int (M:Int),stX (qS r ts s M)])) g'):EvP (ZAR [.dat (ruD r),.dat (ZZ ts),.dat (stX s)] g) P:=by
 exfalso;symm;refine ZVI t.n8 t.ck ?_;rw[<-ZKy t.n2 t.ck];symm
 generalize cyL ts=L at *
 refine ZNB (ZTc (λm sd gx=>∃(k i:Nat) (z7:Option W),m+i=F/\k<=i/\k<=500/\((i-k<L/\some M=stR (neS r ts s) L m k i)\/(i-k=L/\some M=some k))/\Ex g gx/\sd=[some (.dat (ruD r)),some (.dat (ZZ ts)),some (.dat (stX (qS r ts s i))),some (.dat (.int (L:Int))),some (.dat (.int (k:Int))),some (.dat (.int ((i-k:Nat):Int))),some (.dat (stX (qS r ts s k))),z7]) ?_ 1000 F hF ⟨0,0,_,rfl,le_refl _,⋯,.inl ⟨⋯,hR.symm⟩,.refl,rfl⟩)
 rintro m sd gx ⟨k,i,z7,hmi,hki,hk,hcs,Ex1,rfl⟩
 symm;refine⟨λh=>?_,λh=>?_⟩
 .have h:=Xd h
  have hlt:i-k<L:=⋯
  have hR2:some M=stR (neS r ts s) L m k i:=by
   rcases hcs with z|z
   .exact z.2
   .omega
  obtain⟨m,rfl⟩:∃m2,m=m2+1:=by
   cases m with
   |zero =>
    rw[stR] at hR2;cases hR2
   |succ m=>exact⟨m,rfl⟩
  rw[stR] at hR2;have wi:=ZDb t w h0 i;symm;exfalso;symm;refine ZI9 (s:=qS r ts s i) (d:=([],[],[],[])) t wi.1.L ZGa λg2 E2=>?_
  have E2':=Ex1.trans E2;refine⟨_,rfl,?_⟩;refine .nx (ZQ6 (ZPP (k:=((i-k:Nat):Int)) rfl ?_));symm;refine ZPp (i:=i+1) (k:=k) t w h0 ?_;have e1:((i-k:Nat):Int)+1=((i+1-k:Nat):Int):=⋯
  rw[e1];refine ZV8 ⟨λhn=>?_,λhn=>?_⟩
  .rw[Xp hn] at hR2
   refine ZQ6 (ZPP (k:=(k:Int)) rfl ?_);symm;have e2:(k:Int)+((i+1-k:Nat):Int)=((i+1:Nat):Int):=⋯
   rw[e2];refine⟨λh5=>?_,λh5=>?_⟩
   .have h5:=Xd h5
    rw[Xp ⋯] at hR2;cases hR2
   .have h5:=Xg h5
    rw[Xn ⋯,sub_self,Xn ⋯] at hR2;symm;refine .nx ⟨m,⋯,i+1,i+1,_,⋯,le_refl _,⋯,.inl ⟨⋯,?_⟩,E2',by rw[sub_self];rfl⟩;exact hR2
  .have hn' : ¬(neS r ts s (i+1) k=true):=by rw[hn];exact Xf
   rw[Xn hn'] at hR2;symm;refine⟨λh5=>?_,λh5=>?_⟩
   .have h5:=Xd h5
    omega
   .rw[Xn ⋯] at hR2
    symm;refine .nx ⟨m,⋯,k,i+1,_,⋯,⋯,hk,?_,E2',rfl⟩
    by_cases hz:i+1-k=L
    .rw[Xp hz] at hR2
     exact .inr ⟨hz,hR2⟩
    .rw[Xn hz] at hR2
     exact .inl ⟨⋯,hR2⟩
 .have h:=Xg h
  have hRk:some M=some k:=by
   rcases hcs with z|z
   .omega
   .exact z.2
  cases hRk;symm;exact q _ Ex1
theorem ZDc:∀n,qS r ts s n=qn r ts s n
 |0=>rfl
 |n+1=>by
  show nxS r ts (qS r ts s n) ([],[],[],[])=nxS r ts (qn r ts s n) q0;rw[ZDc n]
theorem ZMK:∀(n:Nat) (d:PyData),TIB n d->d.eqv d=true:=by
 intro n
 induction n with
 |zero=>intro d h;cases h
 |succ n ih =>
  intro d h;cases h with
  |int i=>rw[Ze];exact Xe rfl
  |non=>rfl
  |tup ds hl hd =>
   rw[PyData.eqv,ZJm ds ds rfl,all_eq_true];intro p hp;obtain⟨i,hi,e⟩:=List.mem_iff_getElem.mp hp;rw[List.getElem_zip] at e;rw[<-e];exact ih _ (hd _ (getElem_mem _))
theorem ZFz{ne:Nat->Nat->Bool}{L B:Nat}(hB:B<=500)(hL : 1<=L)(c:∀i j,B<=i->ne i j=ne B j)(d:ne B B=false):∀(f k t:Nat),k<=B->k<=t->t-k<L->B+L<=t+f->(ne t k=false\/k=t)->∃m,m<=B/\stR ne L f k t=some m
 |0,k,t,h1,h2,h3,h4,_=>⋯
 |f+1,k,t,h1,h2,h3,h4,h5=>by
  rw[stR]
  by_cases q:ne (t+1) k=true
  .have tb:t+1<=B:=by
    apply Classical.byContradiction;intro z;rw[c (t+1) k ⋯] at q;rcases h5 with h5|h5
    .rw[c t k ⋯,q] at h5
     cases h5
    .have:k=B:=⋯
     rw[this,d] at q;cases q
   rw[Xp q,Xn ⋯,Xn ⋯];exact ZFz hB hL c d f (t+1) (t+1) tb (le_refl _) ⋯ ⋯ (.inr rfl)
  .rw[Xn q,Xn ⋯]
   by_cases z:t+1-k=L
   .rw[Xp z]
    exact⟨k,h1,rfl⟩
   .rw[Xn z]
    exact ZFz hB hL c d f k (t+1) h1 ⋯ ⋯ ⋯ (.inl (Bool.not_eq_true _ ▸ q))
theorem ZTu(t:TnOk r ts)(w:AQ r ts.length s.2)(h0 : 0<=s.1)(hB:∀i,B<=i->(qS r ts s i).2=(qS r ts s B).2):(∀i j,B<=i->neS r ts s i j=neS r ts s B j)/\neS r ts s B B=false:=by
 refine⟨λi j hi=>?_,?_⟩
 .unfold neS hsD
  rw[hB i hi]
 .unfold neS
  rw[ZMK 5 _ (ZGs (n:=0) (ZDb t w h0 B).1.L t.n8)];rfl
theorem wr_of(t:TnOk r ts)(hc:r.cl=ZB7)(n4:ts.length<=4):WR r ts:=⟨t.ru,by rw[hc];rfl,by rw[hc];rfl,by rw[hc];rfl,by rw[hc];rfl,by rw[hc];rfl,by rw[hc];rfl,t.n2,⋯,t.ck⟩
theorem ZFj(hj:j<ts.length)(hk:k<ts.length):wd (List.replicate ts.length (ZAN r.t ts.length)) j k=(0,0):=by
 have e1:(List.replicate ts.length (ZAN r.t ts.length)).getD j H0=ZAN r.t ts.length:=by
  rw[Xq,getElem?_replicate,Xp hj];rfl
 have e2:(List.replicate ts.length ((0:Int),(0:Int))).getD k (0,0)=(0,0):=by
  rw[Xq,getElem?_replicate,Xp hk];rfl
 unfold wd;rw[e1];exact e2
theorem ZMW(t:TnOk r ts)(hn:ZS r.cl "newer" = true):∀{ds:List Do4} {s:Sx},StOk r ts s->ZJz ts.length s.2->ZEf (ZAX s.2) ds->ZJz ts.length (ZFV r ts s ds).2
 |[],_,_,o,_=>o
 |d::ds,s,h,o,k=>by
  have h1:=k.1.of (hs:=s.2) rfl;have w:=h.q.L;have e:=ZLo t w h1;have inn:∀{L:List Int} {u:Int},HsN s.2 u L->∀k∈L,0<=k/\k<(ts.length:Int):=λhh k hk=>⟨hh.pr.lo k hk,by have:=hh.pr.hi k hk;rw[w.len] at this;exact this⟩
  have h2:=ZK4 t (ds:=[d]) h ⟨k.1,k.2.1,trivial⟩;exact ZMW t hn (ds:=ds) (s:=nxS r ts s d) h2 (ZLZ (tn:=s.1) (lo:=d.1) hn t.ru.o t.n2 w o (inn h1.ple) (inn h1.pco)).own (by rw[e];exact k.2.2)
theorem ZRP{m:Int}(hb:Bx g b)(t:TnOk r ts)(hn:ZS r.cl "newer" = true)(hm : 0<=m/\m<=100)(q:∀s g',StOk r ts s->ZJz ts.length s.2->Dr b g g'->P (.dat (stX s)) g'):EvP (ZC7 [.ref b,.dat (ruD r),.dat (ZZ ts),.dat (.int m)] g) P:=by
 exfalso;symm;refine ZJk t.n2 t.n8 ?_;symm;rw[Xm];refine ZT5 hb ⟨t.n2,t.n8⟩ hm λds g1 ho hl D1=>?_
 have u:ZAX (0,List.replicate ts.length (ZAN r.t ts.length)).2=List.replicate ts.length 1:=ZHh;have s:=ZPl t;obtain⟨ok,_⟩:=ZEf.ok t (s:=(0,List.replicate ts.length (ZAN r.t ts.length))) s.q.L (by rw[u];exact ho);symm;refine ZEk (s:=(0,List.replicate ts.length (ZAN r.t ts.length))) t s.q.L ok ⋯ λg2 E2=>?_
 symm;exact q _ _ (ZK4 t s (by rw[u];exact ho)) (ZMW t hn s (λi y hi hy=>by rw[ZFj hi hy,ZFj hy hy];exact Int.le_refl _) (by rw[u];exact ho)) (D1.ex E2)
theorem ZQw{L:List α}{x:α}:atI (L++[x]) (-1)=some x:=by
 unfold atI ixN;rw[Xn (by decide),Xp (by rw[Xa];show -((L.length+1:Nat):Int) <= -1;omega)];show(L++[x])[((-1:Int)+((L++[x]).length:Int)).toNat]? = some x;rw[show((-1:Int)+((L++[x]).length:Int)).toNat=L.length by rw[Xa];show((-1:Int)+((L.length+1:Nat):Int)).toNat=_;omega,getElem?_append_right (le_refl _),sub_self];rfl
theorem ZTs(t:TnOk r ts)(w:AQ r ts.length s.2)(h0 : 0<=s.1)(hm:m<=990)(q:∀g',Ex g g'->g'[g.length]? = some (.pl ((List.range (m+1)).map λk=>stX (qS r ts s k)))->P (.ref g.length) g'):EvP (ZA0 [.dat (ruD r),.dat (ZZ ts),.dat (stX s),.dat (.int (m:Int))] g) P:=by
 exfalso;symm;refine ZAt (j:=0) (g1:=[]) ?_;symm;refine⟨⋯,?_⟩;refine ZBZ (λi sd gx=>∃(z5:Option W),Ex g gx/\gx[g.length]? = some (.pl ((List.range (i+1)).map λk=>stX (qS r ts s k)))/\sd=[some (.dat (ruD r)),some (.dat (ZZ ts)),some (.dat (stX s)),some (.dat (.int (m:Int))),some (.ref g.length),z5]) ⟨none,Ex.refl.app,Zk,rfl⟩ ?_ ?_
 .rintro i x sd gx hx ⟨z5,Ex1,cx,rfl⟩
  have hi:i<990:=by
   have:=(List.getElem?_eq_some_iff.mp hx).1;rw[ZAl] at this
   omega
  have ws:=ZDb t w h0 i;have lx:g.length<gx.length:=(List.getElem?_eq_some_iff.mp cx).1;refine⟨_,by rw[Zs],?_⟩;refine ZP8 (ZTW (ZNH rfl ⟨_,rfl,ZEg cx,?_⟩));symm;refine ZBd cx (d:=stX (qS r ts s i)) (by rw[range_succ,map_append];exact ZQw) ?_;symm;refine ZI9 (s:=qS r ts s i) (d:=([],[],[],[])) t ws.1.L ZGa λg2 E2=>?_
  symm;have c2:g2[g.length]? = some (.pl ((List.range (i+1)).map λk=>stX (qS r ts s k))):=by rw[E2.kp _ lx];exact cx
  refine⟨_,c2,by rw[Xm,length_range];omega,?_⟩;refine⟨trivial,_,(Ex1.trans E2).put (le_refl _),?_,rfl⟩;rw[ZAK (List.getElem?_eq_some_iff.mp c2).1,range_succ (n:=i+1),map_append];rfl
 .rintro sd gx ⟨z5,Ex1,cx,rfl⟩
  rw[ZAl,show((m:Int)).toNat=m from toNat_natCast m] at cx;symm;exact q _ Ex1 cx
theorem ZHq{n:Nat}(ih:∀d e,TIB n d->TIB n e->d.eqv e=true->d=e):∀(ds es:Qd),(∀d∈ds,TIB n d)->(∀e∈es,TIB n e)->PyData.eqvAll ds es=true->ds=es
 |[],[],_,_,_=>rfl
 |[],_::_,_,_,h=>Bool.noConfusion h
 |_::_,[],_,_,h=>Bool.noConfusion h
 |d::ds,e::es,hd,he,h=>by
  rw[PyData.eqvAll,Bool.and_eq_true] at h;rw[ih d e (hd d (Xs ..)) (he e (Xs ..)) h.1,ZHq ih ds es (λx hx=>hd x (Xo _ hx)) (λx hx=>he x (Xo _ hx)) h.2]
theorem ZVT:∀(n:Nat) (d e:PyData),TIB n d->TIB n e->d.eqv e=true->d=e:=by
 intro n
 induction n with
 |zero=>intro d e h;cases h
 |succ n ih =>
  intro d e h k q;cases h with
  |int i =>
   cases k with
   |int j=>rw[Ze] at q;rw[Xd q]
   |non=>exact Bool.noConfusion q
   |tup es hl he=>exact Bool.noConfusion q
  |non =>
   cases k with
   |int j=>exact Bool.noConfusion q
   |non=>rfl
   |tup es hl he=>exact Bool.noConfusion q
  |tup ds hl hd =>
   cases k with
   |int j=>exact Bool.noConfusion q
   |non=>exact Bool.noConfusion q
   |tup es hl2 he =>
    rw[PyData.eqv] at q;rw[ZHq ih ds es hd he q]
theorem ZGN{α β:Type}{f : α->β}(hf:∀x y,f x=f y->x=y):∀{l k:List α},l.map f=k.map f->l=k
 |[],[],_=>rfl
 |[],_::_,h=>by cases h
 |_::_,[],h=>by cases h
 |a::l,b::k,h=>by
  rw[map_cons,map_cons] at h;have h:=List.cons.inj h;rw[hf a b h.1,ZGN hf h.2]
theorem ZQo{h k:Hs}(e:Zl h=Zl k):h=k:=by
 have e:[PyData.int h.1,ZZ h.2.1,ZI h.2.2.1,ZI h.2.2.2]=[PyData.int k.1,ZZ k.2.1,ZI k.2.2.1,ZI k.2.2.2]:=PyData.tuple.inj e;simp only[List.cons.injEq,PyData.int.injEq,and_true] at e;obtain⟨e1,e2,e3,e4⟩:=e;have ii:∀x y:Int,PyData.int x=PyData.int y->x=y:=λx y q=>PyData.int.inj q
 have ww:∀x y:Int×Int,ZP x=ZP y->x=y:=λx y q=>by
  have q:[PyData.int x.1,PyData.int x.2]=[PyData.int y.1,PyData.int y.2]:=PyData.tuple.inj q;simp only[List.cons.injEq,PyData.int.injEq,and_true] at q;exact Prod.ext q.1 q.2
 exact Prod.ext e1 (Prod.ext (ZGN ww (PyData.tuple.inj e2)) (Prod.ext (ZGN ii (PyData.tuple.inj e3)) (ZGN ii (PyData.tuple.inj e4))))
def Rst(h:Nat->List Hs)(L m:Nat):Prop:=(∀i,i<=L->h (m+i)=h m)/\∀j,j<m->∃i,j<i/\i<=j+L/\i<=m/\h i≠h j
theorem ZJF{h:Nat->List Hs}{ne:Nat->Nat->Bool}(c:∀i j,ne i j=true ↔ h i≠h j){L:Nat}:∀(f k t m:Nat),k<=t->t-k<L->(∀i,k<=i->i<=t->h i=h k)->stR ne L f k t=some m->k<=m/\(∀i,i<=L->h (m+i)=h m)/\∀j,k<=j->j<m->∃i,j<i/\i<=j+L/\i<=m/\h i≠h j
 |0,_,_,_,_,_,_,e=>by cases e
 |f+1,k,t,m,h1,h2,h3,e=>by
  rw[stR] at e
  by_cases q:ne (t+1) k=true
  .rw[Xp q] at e
   have q':=(c _ _).mp q
   by_cases z : 500<t+1
   .rw[Xp z] at e
    cases e
   rw[Xn z,sub_self,Xn ⋯] at e;obtain⟨a,b,d⟩:=ZJF c f (t+1) (t+1) m (le_refl _) ⋯ (λi hi hj=>by rw[show i=t+1 by omega]) e;refine⟨⋯,b,λj hk hj=>?_⟩
   by_cases y:t+1<=j
   .exact d j y hj
   .exact⟨t+1,⋯,⋯,a,λw=>q' (w.trans (h3 j hk ⋯))⟩
  .rw[Xn q] at e
   have q':h (t+1)=h k:=Classical.byContradiction λw=>q ((c _ _).mpr w)
   by_cases z : 500<k
   .rw[Xp z] at e
    cases e
   rw[Xn z] at e;have h3':∀i,k<=i->i<=t+1->h i=h k:=λi hi hj=>by
    by_cases y:i=t+1
    .rw[y]
     exact q'
    .exact h3 i hi ⋯
   by_cases y:t+1-k=L
   .rw[Xp y] at e
    cases e;exact⟨le_refl _,λi hi=>h3' (k+i) ⋯ ⋯,λj hk hj=>⋯⟩
   .rw[Xn y] at e
    exact ZJF c f k (t+1) m ⋯ ⋯ h3' e
theorem ZQE{L:Nat}(a:Rst h L m)(b:Rst h L k)(z:m<k):False:=by
 obtain⟨i,h1,h2,_,h3⟩:=b.2 m z;have:=a.1 (i-m) ⋯;rw[show m+(i-m)=i by omega] at this
 exact h3 this
theorem ZS0{L:Nat}(a:Rst h L m)(b:Rst h L k):m=k:=by
 rcases Nat.lt_trichotomy m k with z|z|z
 .exact(ZQE a b z).elim
 .exact z
 .exact(ZQE b a z).elim
theorem ZVB{L:Nat}(k:Rst h L m)(ha:a<=m):Rst (λi=>h (a+i)) L (m-a):=by
 refine⟨λi hi=>?_,λj hj=>?_⟩
 .show h (a+(m-a+i))=h (a+(m-a))
  rw[show a+(m-a+i)=m+i by omega,show a+(m-a)=m by omega];exact k.1 i hi
 .obtain⟨i,h1,h2,h3,h4⟩:=k.2 (a+j) ⋯
  refine⟨i-a,⋯,⋯,⋯,?_⟩;show h (a+(i-a))≠h (a+j);rw[show a+(i-a)=i by omega];exact h4
theorem ZIx(t:TnOk r ts)(w:AQ r ts.length s.2)(h0 : 0<=s.1)(i j:Nat):neS r ts s i j=true ↔ (qS r ts s i).2≠(qS r ts s j).2:=by
 have Ti:=ZGs (n:=0) (ZDb t w h0 i).1.L t.n8;have Tj:=ZGs (n:=0) (ZDb t w h0 j).1.L t.n8;unfold neS;rw[Bool.not_eq_true',<-Bool.not_eq_true];constructor
 .intro q e
  refine q ?_;rw[show hsD (qS r ts s i)=hsD (qS r ts s j) by unfold hsD;rw[e]];exact ZMK 5 _ Tj
 .intro q e
  exact q (ZGN (λx y z=>ZQo z) (PyData.tuple.inj (ZVT 5 _ _ Ti Tj e)))
theorem ZOp{a:Nat}:∀i,qS r ts (qS r ts s a) i=qS r ts s (a+i)
 |0=>rfl
 |i+1=>by
  show nxS r ts (qS r ts (qS r ts s a) i) _=nxS r ts (qS r ts s (a+i)) _;rw[ZOp i]
theorem qS_QS(W:WR r ts)(k:QS r ts s)(a:Nat):QS r ts (qS r ts s a):=by
 rw[ZDc];exact k.qn W a
theorem ZIk(t:TnOk r ts)(hL : 2<=cyL ts)(W:WR r ts)(k:QS r ts s)(hm:Rst (λi=>(qS r ts s i).2) (cyL ts) m)(i:Nat):(qS r ts s (m+i)).2=(qS r ts s m).2:=by
 have:=ZN1 W k (ZRn t.n2 t.ck) ⋯ (t:=m) (λi hi=>by rw[<-ZDc,<-ZDc];exact hm.1 i hi) i;rw[<-ZDc,<-ZDc] at this
 exact this
theorem ZPU(t:TnOk r ts)(hL : 2<=cyL ts)(k:QS r ts s)(hB5:B<=500)(hB:∀i,B<=i->(qS r ts s i).2=(qS r ts s B).2):∃m:Nat,m<=B/\Rst (λi=>(qS r ts s i).2) (cyL ts) m/\stR (neS r ts s) (cyL ts) (B+cyL ts) 0 0=some m:=by
 have n:=ZTu t k.q k.tn hB;obtain⟨m,hm,e⟩:=ZFz (ne:=neS r ts s) (L:=cyL ts) (B:=B) hB5 ⋯ n.1 n.2 (B+cyL ts) 0 0 (zero_le _) (le_refl _) ⋯ ⋯ (.inr rfl);have z:=ZJF (h:=λi=>(qS r ts s i).2) (ZIx t k.q k.tn) _ 0 0 m (le_refl _) ⋯ (λi _ hi=>by rw[show i=0 by omega]) e;exact⟨m,hm,⟨z.2.1,λj hj=>z.2.2 j (zero_le _) hj⟩,e⟩
theorem ZVG{bs:List Bool}(q:P (.dat (.bool (bs.any id))) g):EvP (ZQS (.dat (.list (bs.map .bool))) g) P:=by
 have e:ZBB (bs.map .bool)=some bs:=by
  clear q
  induction bs with
  |nil=>rfl
  |cons b bs ih=>rw[map_cons,ZBB,ih];rfl
 refine ZGe ?_ q;show ZRV (.dat (.list (bs.map .bool))) g=_;unfold ZRV;show(ZBB (bs.map .bool)).map _=_;rw[e];rfl
theorem ZUs{n:Nat}{lo hi:Option Int}(hn:g[n]? = some (.pl xs))(q:P (.dat (.list (ZBT xs lo hi))) g):EvP (slO (.ref n) lo hi g) P:=by
 refine ZGe ?_ q;show(lk g n).map _=_;rw[ZDl hn];rfl
theorem ZN7{xs:List α}:ZBT xs (some (k:Int)) none=xs.drop k:=by
 unfold ZBT;rw[HT.sIx_nat,HT.sIx_none]
 by_cases h:k<=xs.length
 .rw[Nat.min_eq_left h,take_of_length_le (by rw[length_drop];exact le_refl _)]
 .rw[Nat.min_eq_right ⋯,drop_length,List.take_nil,List.drop_eq_nil_of_le ⋯]
theorem ZRe(n2 : 2<=ts.length)(n8:ts.length<=8)(hc:∀c∈ts,ZAs c)(hB : 0<B)(hB9:B<900)(hd:∀c∈ts,∃k:Int,(B:Int)=c.1*(ts.length:Int)*((ts.length:Int)-1)*k)(q:∀C:Nat,C<=B->P (.dat (.int (C:Int))) g):EvP (ZCe [.dat (ZZ ts)] g) P:=by
 exfalso;symm;refine ZBZ (λi sd gx=>∃(f:Nat) (z2 z3 z4 z5:Option W),gx=g/\0<f/\f ∣ B/\sd=[some (.dat (ZZ ts)),some (.dat (.int (f:Int))),z2,z3,z4,z5]) ⟨1,_,_,_,_,rfl,by decide,Nat.one_dvd _,rfl⟩ ?_ ?_
 .rintro i x sd gx hx ⟨f,z2,z3,z4,z5,rfl,f0,fB,rfl⟩
  rw[getElem?_map] at hx;obtain⟨c,hcx,rfl⟩:=mp hx;have hm:c∈ts:=mem_of_getElem? hcx;have h0:=hc c hm;obtain⟨k,hk⟩:=hd c hm;refine⟨_,rfl,?_⟩;symm;have el:((ts.map ZP).length:Int)=(ts.length:Int):=by rw[Xm]
  have cp1:=h0.1;have cp4:=h0.2.1;rw[el];refine ZEH (ZC8 ⋯) ?_;symm;rw[el];refine ZEH (ZC8 ⋯) ?_;symm;have E0 : 0<c.1*(ts.length:Int)*((ts.length:Int)-1):=mul_pos (mul_pos ⋯ ⋯) ⋯
  generalize c.1*(ts.length:Int)*((ts.length:Int)-1)=E at *
  refine ZNB (ZTc (λm sd gy=>∃j:Nat,m+f*j=B/\0<j/\(∀i:Nat,0<i->i<j->((f*i:Nat):Int) % E≠0)/\gy=gx/\sd=[some (.dat (ZZ ts)),some (.dat (.int (f:Int))),some (.dat (.int c.1)),some (.dat (.int c.2)),some (.dat (.int E)),some (.dat (.int ((f*j:Nat):Int)))]) ?_ 1000 (B-f) ⋯ ⟨1,by have:=Nat.le_of_dvd hB fB;omega,by decide,λi h1 h2=>⋯,rfl,by rw[Nat.mul_one];rfl⟩)
  rintro m sd gy ⟨j,hm2,j0,mn,rfl,rfl⟩
  symm;refine ZDk E0 ?_;symm;have eB:(B:Int) % E=0:=by rw[hk];exact Int.mul_emod_right ..
  rw[Ze];refine⟨λh=>?_,λh=>?_⟩
  .have h : ¬((f*j:Nat):Int) % E=0:=by simpa using h
   symm;obtain⟨b,hb⟩:=fB;have jb:j<b:=by
    apply Classical.byContradiction;intro z;have h1:f*b<=f*j:=mul_le_mul_left f ⋯;have h2:f*j=B:=⋯
    exact h (by rw[h2];exact eB)
   have h1:f*(j+1)<=f*b:=mul_le_mul_left f jb;have h2:f*(j+1)=f*j+f:=mul_succ f j;refine .nx ⟨m-f,⋯,j+1,⋯,⋯,λi i0 i1=>?_,rfl,by rw[h2];rfl⟩
   by_cases e:i=j
   .rw[e]
    exact h
   .exact mn i i0 ⋯
  .have h:((f*j:Nat):Int) % E=0:=by simpa using h
   symm;refine⟨trivial,f*j,_,_,_,_,rfl,Nat.mul_pos f0 j0,?_,rfl⟩;obtain⟨b,hb⟩:=fB;have hr:b % j=0:=by
    apply Classical.byContradiction;intro z;refine mn (b % j) ⋯ (mod_lt _ j0) ?_;have e1:((f*(b % j):Nat):Int)=(B:Int)-((f*j:Nat):Int)*((b / j:Nat):Int):=by
     have e2:f*b=f*(b % j)+f*j*(b / j):=by
      rw[Nat.mul_assoc,<-Nat.mul_add,Nat.mod_add_div]
     have e3:((f*j:Nat):Int)*((b / j:Nat):Int)=((f*j*(b / j):Nat):Int):=by rw[Int.natCast_mul (f*j)]
     rw[e3];omega
    rw[e1];exact Int.emod_eq_zero_of_dvd (Int.dvd_sub (Int.dvd_of_emod_eq_zero eB) (Int.dvd_trans (Int.dvd_of_emod_eq_zero h) (Int.dvd_mul_right ..)))
   refine⟨b / j,?_⟩;rw[hb,Nat.mul_assoc]
   congr 1
   have:=Nat.mod_add_div b j;rw[hr] at this
   omega
 .rintro sd gx ⟨f,z2,z3,z4,z5,rfl,f0,fB,rfl⟩
  symm;exact q f (Nat.le_of_dvd hB fB)
theorem ZGn(t:TnOk r ts)(hF:F<1000)(hL : 2<=cyL ts)(w:AQ r ts.length s.2)(h0 : 0<=s.1)(e:stR (neS r ts s) (cyL ts) F 0 0=some M)(hM:M<=468)(hR:Rst (λi=>(qS r ts s i).2) (cyL ts) M)(hs:∀i,(qS r ts s (M+i)).2=(qS r ts s M).2)(hB : 0<B)(hB5:B<=504)(hd:∀c∈ts,∃k:Int,(B:Int)=c.1*(ts.length:Int)*((ts.length:Int)-1)*k)(q:∀g',Ex g g'->P (.dat (.bool true)) g'):EvP (ZBa [.dat (ruD r),.dat (ZZ ts),.dat (stX s)] g) P:=by
 have qL:=λi=>(ZDb t w h0 i).1.L
 exfalso;symm;refine ZGr t hF hL w h0 e λg1 E1=>?_
 symm;refine bF ?_;symm;refine bF ?_;symm;exfalso;symm;refine bT ?_;symm;refine bF ?_;symm;rw[Xe (show(0:Int)<=(M:Int) by omega)];refine bT ?_;symm;rw[Xe (show(M:Int)<=500 by omega)];refine bF ?_;symm;refine ZRe t.n2 t.n8 t.ck hB ⋯ hd λC hC=>?_
 symm;rw[show(M:Int)+(C:Int)=((M+C:Nat):Int) by omega];refine ZTs t w h0 ⋯ λg2 E2 c2=>?_
 symm;have ix:∀k:Nat,k<=M+C->atI ((List.range (M+C+1)).map λk=>stX (qS r ts s k)) (k:Int)=some (stX (qS r ts s k)):=λk hk=>by
  have:=Zj (enc:=λk=>stX (qS r ts s k)) (L:=List.range (M+C+1)) (i:=k) (a:=0) (by rw[length_range];omega);rw[Xq,getElem?_range ⋯] at this
  exact this
 refine ZBd c2 (d:=stX (qS r ts s M)) (ix M ⋯) ?_;symm;refine ZMJ 8 _ (ZEi (n:=2) (qL M) t.n8) ?_;symm;refine bF ?_;symm;refine ZUs c2 ?_;rw[ZN7];have eL:((List.range (M+C+1)).map λk=>stX (qS r ts s k)).drop M=(List.range (C+1)).map λi=>stX (qS r ts s (M+i)):=by
  refine List.ext_getElem? λi=>?_
  rw[List.getElem?_drop,getElem?_map,getElem?_map]
  by_cases h:i<C+1
  .rw[getElem?_range ⋯,getElem?_range h]
   rfl
  .rw[List.getElem?_eq_none (by rw[length_range];omega),List.getElem?_eq_none (by rw[length_range];omega)]
   rfl
 rw[eL];symm;refine⟨by rw[Xm,length_range];omega,?_⟩;refine ZAi (λi:Nat=>stX (qS r ts s (M+i))) (λ_:Nat=>PyData.bool false) (List.range (C+1)) rfl trivial (λi hi=>⟨_,rfl,?_⟩) ?_
 .symm
  refine ZPp (s:=s) (i:=M+i) (k:=M) t w h0 ?_;have e0:neS r ts s (M+i) M=false:=by
   rw[<-Bool.not_eq_true];intro z;exact(ZIx t w h0 (M+i) M).mp z (hs i)
  rw[e0];exact⟨rfl,rfl⟩
 rw[show((List.range (C+1)).map λ_:Nat=>PyData.bool false)=((List.range (C+1)).map λ_:Nat=>false).map PyData.bool by rw[map_map];rfl];symm;refine ZVG ?_;rw[show((List.range (C+1)).map λ_:Nat=>false).any id=false by rw[List.any_map,List.any_eq_false];exact λ_ _=>Xf];symm;refine bF ?_;symm;rw[Ze];refine⟨λh=>?_,λh=>?_⟩
 .exact ZO3 (q _ (E1.trans E2))
 .have h : ¬(M:Int)=0:=Xg h
  symm;refine ZBd c2 (d:=stX (qS r ts s (M-1))) (by show atI _ ((M:Int)-1)=_;rw[show(M:Int)-1=((M-1:Nat):Int) by omega];exact ix (M-1) ⋯) ?_;symm;refine ZPp (s:=s) (i:=M-1) (k:=M) t w h0 ?_;have e1:neS r ts s (M-1) M=true:=by
   refine(ZIx t w h0 (M-1) M).mpr λz=>?_
   obtain⟨i,h1,_,h3,h4⟩:=hR.2 (M-1) ⋯;have:i=M:=⋯
   subst this
   exact h4 z.symm
  rw[e1];symm;exact q _ (E1.trans E2)
theorem ZSn{m:Int}(t:TnOk r ts)(w:HsL ts.length s.2):TIB 8 (.tuple [.int m,stX s]):=.tup _ (by show(2:Nat)<=1000;decide) λd hd=>by
 simp only[mem_cons,not_mem_nil,or_false] at hd;rcases hd with rfl|rfl
 .exact .int _
 .exact ZEi (n:=1) w t.n8
noncomputable def FAR:List (Int×Int):=[(3,0),(4,0),(4,0),(4,0),(4,0),(4,0),(4,0)]
theorem ZSz:cyL FAR=504:=by decide +kernel
theorem dv4(n2 : 2<=ts.length)(n4:ts.length<=4)(hc:∀c∈ts,ZAs c):∀c∈ts,∃k:Int,((12*ts.length*(ts.length-1):Nat):Int)=c.1*(ts.length:Int)*((ts.length:Int)-1)*k:=λc hm=>by
 have h0:=hc c hm;have h1:=h0.1;have h2:=h0.2.1;have hp:c.1=1\/c.1=2\/c.1=3\/c.1=4:=⋯
 have hn:ts.length=2\/ts.length=3\/ts.length=4:=⋯
 refine⟨12 / c.1,?_⟩;rcases hn with e|e|e <;> rcases hp with p|p|p|p <;> rw[e,p] <;> rfl
theorem farC:∀c∈FAR,ZAs c:=λc hc=>by
 simp only[FAR,mem_cons,not_mem_nil,or_false] at hc;unfold ZAs;rcases hc with rfl|rfl|rfl|rfl|rfl|rfl|rfl <;> decide
theorem wr7(t:TnOk r ts)(hc:r.cl=ZB7)(n7:ts.length<=7):WR r ts:=⟨t.ru,by rw[hc];rfl,by rw[hc];rfl,by rw[hc];rfl,by rw[hc];rfl,by rw[hc];rfl,by rw[hc];rfl,t.n2,n7,t.ck⟩
theorem dvF:∀c∈FAR,∃k:Int,((504:Nat):Int)=c.1*(FAR.length:Int)*((FAR.length:Int)-1)*k:=λc hc=>by
 simp only[FAR,mem_cons,not_mem_nil,or_false] at hc;rcases hc with rfl|rfl|rfl|rfl|rfl|rfl|rfl
 .exact⟨4,by decide⟩
 all_goals exact⟨3,by decide⟩
abbrev bgT(r:Ru)(ts:List (Int×Int)):Sx:=(0,List.replicate ts.length (ZAN r.t ts.length))
theorem ZTV{v:Nat}:ZB5 v ts.length r.t (bgT r ts).2:=λi hi=>by
 have e1:(bgT r ts).2.getD i H0=ZAN r.t ts.length:=by
  show(List.replicate ts.length (ZAN r.t ts.length)).getD i H0=_;rw[Xq,getElem?_replicate,Xp hi];rfl
 rw[e1];refine⟨rfl,λu hu _=>⟨?_,?_⟩⟩
 .show(List.replicate ts.length ((0:Int),(0:Int))).getD u (0,0)=(0,0)
  rw[Xq,getElem?_replicate,Xp hu];rfl
 .show r.t<=(List.replicate ts.length r.t).getD u 0
  rw[Xq,getElem?_replicate,Xp hu];exact Int.le_refl _
theorem ZMF:DoOk hs [0] [] [] []:=⟨((RisN.nil (m:=0)).snoc (Int.le_refl _)).more (by decide),⟨.nil,λx hx=>by cases hx⟩,⟨.nil,λx hx=>by cases hx⟩,⟨.nil,λx hx=>by cases hx⟩,λx hx=>by cases hx⟩
theorem ZQq{ds:List Do4}(t:TnOk r ts)(W:WR r ts)(n5 : 5<=ts.length)(hL : 2<=cyL ts)(tk:ZAH (ts.getD 0 (0,0)) 0=true)(hd:ds=[]\/ds=[([0],[],[],[])]):ZIA r ts (bgT r ts) ds/\QS r ts (ZFV r ts (bgT r ts) ds)/\∃M,M<=444/\Rst (λi=>(qS r ts (ZFV r ts (bgT r ts) ds) i).2) (cyL ts) M/\stR (neS r ts (ZFV r ts (bgT r ts) ds)) (cyL ts) (444+cyL ts) 0 0=some M:=by
 have q0:AQ r ts.length (bgT r ts).2:=ZFq t.ru;have o0:ZJz ts.length (bgT r ts).2:=λi y hi hy=>by
  have a:=ZFj (r:=r) (ts:=ts) hi hy;have b:=ZFj (r:=r) (ts:=ts) hy hy;show(wd (List.replicate ts.length (ZAN r.t ts.length)) i y).1<=(wd (List.replicate ts.length (ZAN r.t ts.length)) y y).1;rw[a,b];exact Int.le_refl _
 have fin:∀s:Sx,QS r ts s->(∃v,v<ts.length/\ZB5 v ts.length r.t s.2)->∃M,M<=444/\Rst (λi=>(qS r ts s i).2) (cyL ts) M/\stR (neS r ts s) (cyL ts) (444+cyL ts) 0 0=some M:=λs k ⟨v,hv,o⟩=>ZPU (B:=444) t hL k (by decide) λi hi=>by
  rw[ZDc,ZDc];exact ZPY W k o n5 hv hi
 rcases hd with rfl|rfl
 .have Q:QS r ts (bgT r ts):=⟨q0,o0,Int.le_refl _⟩
  rw[show ZFV r ts (bgT r ts) []=bgT r ts from rfl];exact⟨trivial,Q,fin _ Q ⟨0,⋯,ZTV⟩⟩
 .have inn:∀k∈([]:List Int),0<=k/\k<(ts.length:Int):=λk hk=>by cases hk
  have a:=ZPf (d:=([0],[],[],[])) t q0 (Int.le_refl _) ZMF;have Q:QS r ts (nxS r ts (bgT r ts) ([0],[],[],[])):=⟨a.1,(ZLZ (tn:=(bgT r ts).1) (lo:=[0]) (fa:=[]) (le:=[]) (co:=[]) W.nw W.ru.o W.n2 q0.L o0 inn inn).own,a.2⟩;have ov:=ZNc (r:=r) (ts:=ts) (tn:=0) (hs:=(bgT r ts).2) (t:=r.t) W.ru.o W.nw W.ag W.n2 q0.L tk ZTV;have tgi:=Z0 (e:=⟨r,ts,0,[0]⟩) (a:=0) (b:=tgF ⟨r,ts,0,[0]⟩ 0) W.n2 (show 0<ts.length by omega) (by unfold ZBX;exact Xs ..);rw[show ZFV r ts (bgT r ts) [([0],[],[],[])]=nxS r ts (bgT r ts) ([0],[],[],[]) from rfl];exact⟨⟨ZMF,trivial⟩,Q,fin _ Q ⟨_,tgi.1,ov⟩⟩
theorem ZPO(e : 468<=B)(h4:ts.length<=4)(W:WR r ts)(k:QS r ts s):∀i,B<=i->(qS r ts s i).2=(qS r ts s B).2:=λi hi=>by
 rw[ZDc,ZDc];exact(ZMQ W k (le_trans e hi) h4).trans (ZMQ W k e h4).symm
theorem ZOX:∃ts:List (Int×Int),ZZ ts=ZZ FAR/\ts.length=7/\cyL ts=504/\(∀c∈ts,ZAs c)/\ZAH (ts.getD 0 (0,0)) 0=true/\∀c∈ts,∃k:Int,((504:Nat):Int)=c.1*(ts.length:Int)*((ts.length:Int)-1)*k:=⟨FAR,rfl,rfl,ZSz,farC,by decide,dvF⟩
theorem ZVK(hns:ns.length<=63):∃g',ZJZ [.inp ns] []=some (.dat (.bool true),g'):=by
 suffices h:EvP (ZJZ [.inp ns] []) λx _=>x=.dat (.bool true) by
  obtain⟨x,g',e,rfl⟩:=h;exact⟨g',e⟩
 exfalso;symm;refine ZAt (j:=0) (g1:=[]) ?_;symm;have hm : 0<=(1:Int)+(if (ns.length:Int)<1 then (ns.length:Int) else 1)/\(1:Int)+(if (ns.length:Int)<1 then (ns.length:Int) else 1)<=9:=by split <;> omega
 generalize (1:Int)+(if (ns.length:Int)<1 then (ns.length:Int) else 1)=len at *
 refine⟨⋯,?_⟩;refine ZBZ (λn sd gx=>∃z1 z2 z3 z4 z5 z6 z7,sd=[some (.inp ns),z1,z2,z3,z4,z5,z6,z7]) ⟨_,_,_,_,_,_,_,rfl⟩ ?_ ?_
 .rintro n x sd g0 hx ⟨z1,z2,z3,z4,z5,z6,z7,rfl⟩
  have hn:n<64:=by
   have:=(List.getElem?_eq_some_iff.mp hx).1;rw[ZAl] at this
   omega
  rw[ZCb,getElem?_map] at hx;obtain⟨k,hk,rfl⟩:=mp hx;obtain⟨hk1,hk2⟩:=List.getElem?_eq_some_iff.mp hk;rw[getElem_range] at hk2;subst hk2;refine⟨_,rfl,?_⟩;symm
  generalize hb:List.length g0=b
  refine ZNI ⋯ λg1 hl1 hg1 B1=>?_
  rw[hb] at B1;rw[hb];symm;refine ZKm B1 λr g2 hr hcl D2=>?_
  symm;refine Zx D2.bx (by decide) (by decide) λd3 g3 l3 u3 D3=>?_
  symm;refine ZBO (xs:=[3,4]) (by split <;> decide) (by split <;> decide) λm0 hm0=>?_
  have hm0:m0=3\/m0=4:=by simp only[mem_cons,not_mem_nil,or_false] at hm0;omega
  symm;refine ZSF D3.bx ⋯ λts g4 n2 htl htc D4=>?_
  have t:TnOk r ts:=⟨by rw[hcl];exact List.Sublist.refl _,hr,n2,⋯,htc⟩;have h4:ts.length<=4:=⋯
  have W:=wr_of t hcl h4;have hL:=ZUe t.n2 h4 t.ck;have hnn:ts.length=2\/ts.length=3\/ts.length=4:=⋯
  have hB : 0<12*ts.length*(ts.length-1)/\12*ts.length*(ts.length-1)<=504:=by rcases hnn with e|e|e <;> rw[e] <;> decide
  symm;refine ZRP D4.bx t W.nw (by decide) λs g5 hst own D5=>?_
  have QK:QS r ts s:=⟨hst.q,own,hst.tn⟩;obtain⟨B,B1,B2⟩:∃B:Nat,468<=B/\B<=468:=⟨468,le_refl _,le_refl _⟩;obtain⟨M,hM,hR,eS⟩:=ZPU (B:=B) t hL.1 QK ⋯ (ZPO B1 h4 W QK);have stl:=ZIk t hL.1 W QK hR;have QK2:=qS_QS W QK M;obtain⟨M2,_,hR2,eS2⟩:=ZPU (B:=B) t hL.1 QK2 ⋯ (ZPO B1 h4 W QK2);have z:=ZVB hR (le_refl M);rw[show(λi=>(qS r ts (qS r ts s M) i).2) = λi=>(qS r ts s (M+i)).2 from funext λi=>by rw[ZOp]] at hR2;have eM:=ZS0 hR2 z;rw[sub_self] at eM;subst eM;symm;refine ZGn (F:=B+cyL ts) t ⋯ hL.1 hst.q hst.tn eS (le_trans hM B2) hR stl hB.1 hB.2 (dv4 t.n2 h4 t.ck) λg6 E6=>?_
  symm;refine bF ?_;symm;refine ZGr (F:=B+cyL ts) t ⋯ hL.1 hst.q hst.tn eS λg7 E7=>?_
  symm;refine ZGr (s:=qS r ts s M) (F:=B+cyL ts) t ⋯ hL.1 QK2.q QK2.tn eS2 λg8 E8=>?_
  symm;refine ZMJ 8 (.tuple [.int 0,stX (qS r ts s M)]) (ZSn t QK2.q.L) ?_;symm;refine bF ?_;symm;exact⟨trivial,_,_,_,_,_,_,_,rfl⟩
 .rintro sd gx ⟨z1,z2,z3,z4,z5,z6,z7,rfl⟩
  symm;refine ZNI ⋯ λg1 hl1 hg1 B1=>?_
  symm;refine ZKm B1 λr g2 hr hcl D2=>?_
  obtain⟨ts,eT,e7,eL,hck,tk,dv⟩:=ZOX;have t:TnOk r ts:=⟨by rw[hcl];exact List.Sublist.refl _,hr,⋯,⋯,hck⟩;have W:WR r ts:=wr7 t hcl ⋯;have hL : 2<=cyL ts:=by rw[eL];decide
  symm;have eX:PyData.tuple ([PyData.tuple [.int 3,.int 0]]++(List.replicate (Int.toNat 6) [PyData.tuple [.int 4,.int 0]]).flatten)=ZZ ts:=eT.symm;rw[eX];clear eX eT;refine ZJk (ts:=ts) t.n2 t.n8 ?_;symm;refine Zx D2.bx (by decide) (by decide) λd g3 l3 u3 D3=>?_
  rcases(show d=0\/d=1 by omega) with rfl|rfl
  .obtain⟨ok,Q,M,hM,hR,eS⟩:=ZQq (ds:=[]) t W ⋯ hL tk (.inl rfl)
   refine ZR2 ?_;symm;refine ZEk (ts:=ts) (s:=bgT r ts) (ds:=[]) t (ZFq t.ru).L ok (by decide) λg4 E4=>?_
   symm;refine ZGn (ts:=ts) (s:=ZFV r ts (bgT r ts) []) (F:=444+cyL ts) t ⋯ hL Q.q Q.tn eS ⋯ hR (ZIk t hL W Q hR) (B:=504) (by decide) (by decide) dv λg5 E5=>?_
   symm;rfl
  .obtain⟨ok,Q,M,hM,hR,eS⟩:=ZQq (ds:=[([0],[],[],[])]) t W ⋯ hL tk (.inr rfl)
   refine ZTL ?_;symm;refine ZEk (ts:=ts) (s:=bgT r ts) (ds:=[([0],[],[],[])]) t (ZFq t.ru).L ok (by decide) λg4 E4=>?_
   symm;refine ZGn (ts:=ts) (s:=ZFV r ts (bgT r ts) [([0],[],[],[])]) (F:=444+cyL ts) t ⋯ hL Q.q Q.tn eS ⋯ hR (ZIk t hL W Q hR) (B:=504) (by decide) (by decide) dv λg5 E5=>?_
   symm;rfl
end
local macro_rules
 | `(tactic| left) => `(tactic| (intro _ _ _ _ _ _ _; cases ‹Txt _ _ _›; repeat' (first | ((with_reducible show JE _ _ _); first | ((with_reducible show JE _ (.Name _ _) _); first | refine Zy _ | exact ZNw rfl ‹_› | refine ZDG rfl ‹_› (by first | exact boot_int | exact boot_bool | exact boot_tuple | exact boot_str | exact boot_list | exact boot_dict)) | ((with_reducible show JE _ (.Constant _ _ _) _); first | exact ZTO | exact ZSm | exact ZO4 | exact ZIg) | ((with_reducible show JE _ (.Subscript _ _ _) _); first | refine ZIc oIx ?_ ?_ (λ _ _ => rfl) | refine ZIc oIxD ?_ ?_ (λ _ _ => rfl) | refine ZIc oIxF ?_ ?_ (λ _ _ => rfl) | refine ZIc oIxT ?_ ?_ (λ _ _ => rfl) | refine ZUM ?_ ?_ ?_) | ((with_reducible show JE _ (.BinOp _ _ _ _) _); first | refine ZT7 ?_ ?_ ?_ | exact ZRu ⟨by decide, by decide, by decide⟩ (by decide +kernel)) | ((with_reducible show JE _ (.Compare _ _ _ _) _); first | refine ZFb ?_ ?_ ?_ (by first | exact ZDn _ | with_unfolding_all rfl)) | ((with_reducible show JE _ (.Call (.Name _ _) _ _ _) _); first | ((with_reducible show JE _ _ (dF (f1 _) _)); first | refine ZK7 (by first | exact cInt | exact cTup | exact cDic rfl) rfl ‹_› (by first | exact boot_int | exact boot_str | exact boot_tuple | exact boot_list | exact boot_dict) ?_ | refine Z7 (by first | exact ZUX | exact ZV1 rfl | exact cAny2 rfl | exact cSrt | exact cSrtD rfl | exact cSum rfl) rfl ‹_› (by first | exact boot_len | exact boot_abs | exact boot_all | exact boot_any | exact boot_sorted | exact boot_repr | exact boot_sum | exact boot_min) ?_) | refine ZKS ‹_› ‹_› (by exact Room.mono ‹_› (by decide)) ?_ (by repeat constructor) | refine Z7 (by first | exact cMin rfl | exact cMax2 rfl | exact ZKU) rfl ‹_› (by first | exact boot_min | exact boot_max | exact boot_isinstance) ?_ | refine ZOm ‹_› rfl ‹_› ‹_› ‹_› (by exact Room.mono ‹_› (by decide)) ?_ (by repeat constructor) | refine ZLl rfl rfl ‹_› rfl ‹_› ?_ | refine ZNS ‹_› ‹_› (by exact Room.mono ‹_› (by decide))) | ((with_reducible show JE _ (.Tuple _ _ _) _); first | refine ZRQ ?_) | ((with_reducible show JE _ (.BoolOp _ _ _) _); first | refine ZFr ?_ ?_ | refine ZTl ?_ ?_ | refine ZJL ?_) | ((with_reducible show JE _ (.List _ _) _); first | refine ZSI ?_ | refine ZQA ?_ | refine ZNh ?_) | ((with_reducible show JE _ (.ListComp _ _ _ _) _); first | ((with_reducible first | show JE _ (.ListComp _ _ ⟨_, _ :: (_, .cell) :: _, _, _, _⟩ _) _ | show JE _ (.ListComp _ _ ⟨_, _ :: _ :: (_, .cell) :: _, _, _, _⟩ _) _ | show JE _ (.ListComp _ _ ⟨_, _ :: _ :: _ :: (_, .cell) :: _, _, _, _⟩ _) _); refine jde_compK rfl ?_ ?_ (by kernel_rfl) rfl) | refine ZNe rfl ?_ ?_ (by kernel_rfl) rfl) | refine ZTP ‹_› rfl ?_ | refine ZTF ?_ | refine ZSa ?_ | refine ZSo ?_ ?_ | refine ZO1 ‹_› ‹_› ‹_› (by exact Room.mono ‹_› (by decide)) (by decide +kernel) ?_ ?_ (by repeat constructor)) | ((with_reducible show JA _ _ _); first | refine Zh ?_ ?_ | exact ZAY) | ((with_reducible show JAT _ _ _); first | (refine jat_repl ?_ ?_ (by decide) (by decide)) | refine jat_cons ?_ ?_ | exact jat_nil) | ((with_reducible show OpR _ _ _); first | exact oAdd | exact oEq (Room.units ‹_›) | exact oSub | exact oMul | exact oMod | exact oFdiv | exact oNe (Room.units ‹_›) | exact oLt (Room.units ‹_›) | exact oLe | exact oGt (Room.units ‹_›) | exact oGe (Room.units ‹_›) | exact oIn (Room.units ‹_›) | exact ZVl (Room.units ‹_›) | exact ZUq | exact oMulC | exact oMulU) | ((with_reducible show JT _ _ _); first | refine ZMl ?_ | refine ZIP ?_ ?_ ?_ (by first | exact ZDn _ | with_unfolding_all rfl) | refine JW.pt (ZMy ?_ ?_) | refine JW.pt (ZI3 ?_ ?_) | refine ZOS ?_ ?_ ?_ ?_ ?_ | refine ZEC ?_) | ((with_reducible show JSs _ _ _); first | refine ZCD ?_ ?_ | refine ZCJ ?_ | exact ZC2) | ((with_reducible show JS _ _ _); first | ((with_reducible show JS _ _ (ZR _ _)); first | refine ZSy (by first | assumption | exact Xd (by kernel_rfl)) rfl (by first | exact Or.inl rfl | exact Or.inr rfl) ?_ | ((with_reducible first | show JS _ (.Assign _ (.ListComp _ _ ⟨_, _ :: (_, .cell) :: _, _, _, _⟩ _) _) _ | show JS _ (.Assign _ (.ListComp _ _ ⟨_, _ :: _ :: (_, .cell) :: _, _, _, _⟩ _) _) _ | show JS _ (.Assign _ (.ListComp _ _ ⟨_, _ :: _ :: _ :: (_, .cell) :: _, _, _, _⟩ _) _) _); refine' jds_setCK ?nd rfl ?lo rfl ?_ ?_ (by kernel_rfl) rfl; (case nd => first | assumption | exact Xd (by kernel_rfl)); (case lo => first | exact Or.inl rfl | exact Or.inr rfl)) | refine ZN0 (by first | assumption | exact Xd (by kernel_rfl)) rfl (by first | exact Or.inl rfl | exact Or.inr rfl) rfl ?_ ?_ (by kernel_rfl) rfl) | ((with_reducible show JS _ _ (ZAB _ _)); first | refine ZNK ?_ ?_ | refine ZNK (hs := by kernel_rfl) (hw := by kernel_rfl) ?_ ?_) | refine ZDL ?_ | refine ZGQ ?_ ?_ ?_ | refine ZQf ?_ | refine ZTG PassesOwn.never rfl ?_ ?_ ?_ | refine ZNs PassesOwn.never ?_ ?_ | refine ZRH ?_ ?_ ?_ | refine ZRy rfl ‹_› rfl rfl (by decide) rfl rfl ?_ (by kernel_rfl) (by kernel_rfl) | refine ZQc rfl ‹_› rfl rfl rfl rfl rfl rfl ?_ (by kernel_rfl) (by kernel_rfl) | refine ZST ‹_› rfl (by first | exact Or.inl rfl | exact Or.inr rfl) ?_ | refine ZPc ‹_› rfl (by first | exact Or.inl rfl | exact Or.inr rfl) ?_ | refine ZRz ‹_› rfl ?_ ?_ | exact ZSG) | refine ZLN (by first | assumption | exact Xd (by kernel_rfl)) rfl (by first | exact Or.inl rfl | exact Or.inr rfl) | refine ZPb rfl ?_ | refine ZGC ?_ ?_ | exact ZNL | refine ZMy ?_ ?_ | refine ZI3 ?_ ?_ | refine ZO7 ?_ | refine ZIl ?_ | exact ZKb | refine ZPN ?_ | exact ZP9 | refine ZOe ?_ | refine ZLi rfl ‹_› ?_ (hn := (by repeat constructor)) | refine ZLa rfl ‹_› ?_ (hn := (by repeat constructor)) | refine ZP4 rfl ‹_› ?_ (hn := (by repeat constructor)) | refine ZME rfl ‹_› ?_ (hn := (by repeat constructor)) | refine ZSS ?_ | (intro _ _ _ _ _; refine ⟨?_, ?_, ?_⟩))))
local macro_rules
 | `(tactic| right) => `(tactic| first | exact ⟨rfl, rfl, rfl, by decide +kernel, rfl, by decide +kernel, by decide +kernel⟩ | exact (λ _ _ _ _ _ _ => ZV9 (by intros; rfl)) | exact (λ _ _ _ _ _ _ => ZV0 (by intros; rfl)) | exact (λ _ _ _ _ _ _ => ZWI (by intros; rfl)) | exact (λ _ _ _ _ _ _ => len5 (by intros; rfl)) | exact (λ _ _ _ _ _ _ => ZV2 (by intros; rfl)) | exact (λ _ _ _ _ _ _ => len6 (by intros; rfl)) | exact (λ _ _ _ _ _ _ => len7 (by intros; rfl)) | exact (λ _ _ _ _ _ _ us e => by cases us with | nil => rfl | cons _ _ => cases e))
variable{fd:FuncData}
section
variable{P:Program}{w:World}{K:Frag}{mg:Yj}{base:Heap}{A:Adr}
theorem ZJu:FnScope ["_law_found","_law_due"] ZCw (ZM (top 73)):=by right
theorem ZTj:FnScope ["_law_script","_law_k","_law_left_here","_law_drawn","_law_town_here","_law_state","_law_there","_law_far"] ["_law_script"] (ZM (top 77)):=by right
section
variable(T:Txt K mg A)
include T
local macro_rules
 | `(tactic| exists $D, $N) => `(tactic| ((first | refine ZSW $D $N (by right) (by with_unfolding_all rfl) rfl rfl ?_ | refine ZS4 $D $N (by right) (by with_unfolding_all rfl) rfl rfl ?_); intro _; left))
theorem ZI8:Fo P w K mg base A 1 0 ZG6 1 ZDz:=by
 exists T.fz0,["thing"]
theorem ZIq:Fo P w K mg base A 2 1 ZGc 1 ZDt:=by
 have:=@ZI8 P w K mg base A T
 exists T.fz1,["thing"]
theorem ZFP:Fo P w K mg base A 1 2 ZDf 2 ZB9:=by
 exists T.fz2,["thing","length"]
theorem ZOA:Fo P w K mg base A 1 3 ZMS 1 ZIM:=by
 exists T.fz3,["things"]
theorem ZCk:Fo P w K mg base A 1 4 ZTg 3 ZAb:=by
 exists T.fz4,["things","place","thing"]
theorem ZNq:Fo P w K mg base A 1 5 ZNM 0 ZNN:=by
 exists T.fz5,[]
theorem ZHL:Fo P w K mg base A 1 8 ZE9 2 ZCx:=by
 exists T.fz8,["some","others"]
theorem ZGE:Fo P w K mg base A 1 9 ZEI 3 ZAx:=by
 exists T.fz9,["state","numbers","up","turn","houses"]
theorem ZFw:Fo P w K mg base A 3 7 ZD7 1 ZCf:=by
 have:=@ZOA P w K mg base A T;have:=@ZIq P w K mg base A T
 exists T.fz7,["thing"]
theorem ZHH:Fo P w K mg base A 4 6 ZFA 2 ZB1:=by
 have:=@ZHL P w K mg base A T;have:=@ZGE P w K mg base A T;have:=@ZFP P w K mg base A T;have:=@ZFw P w K mg base A T
 exists T.fz6,["state","thing","lost","falls","leaves","comes"]
theorem ZHj:Fo P w K mg base A 1 10 ZMd 2 ZFd:=by
 exists T.fz10,["one","other"]
theorem ZNU:Fo P w K mg base A 1 11 ZMj 3 ZM0:=by
 exists T.fz11,["town","house","turn","pace","start"]
theorem ZEQ:Fo P w K mg base A 1 12 ZGH 3 ZCm:=by
 exists T.fz12,["town","house","turn","pace","start"]
theorem ZGM:Fo P w K mg base A 2 13 ZJt 3 ZEB:=by
 have:=@ZEQ P w K mg base A T
 exists T.fz13,["town","house","turn","many","ahead"]
theorem ZEp:Fo P w K mg base A 1 15 ZCy 2 ZBl:=by
 exists T.fz15,["one","other","number"]
theorem ZOR:Fo P w K mg base A 2 14 ZL7 1 ZIQ:=by
 have:=@ZEp P w K mg base A T
 exists T.fz14,["town","many","least","pace","start"]
theorem ZF1:Fo P w K mg base A 2 17 ZEX 5 ZCa:=by
 have:=@ZEQ P w K mg base A T
 exists T.fz17,["rules","town","turn","x","y","clauses","due","about"]
theorem ZFW:Fo P w K mg base A 1 18 ZDg 4 ZB4:=by
 exists T.fz18,["rules","told","x","due","others","wait","most","carry","clauses","fresh"]
theorem ZI5:Fo P w K mg base A 3 16 ZGI 5 ZDp:=by
 have:=@ZF1 P w K mg base A T;have:=@ZFW P w K mg base A T;have:=@ZCk P w K mg base A T
 exists T.fz16,["rules","town","state","x","y","turn","houses","up","book","told","timers","due","news","notes","house"]
theorem ZJv:Fo P w K mg base A 2 20 ZHt 4 ZDT:=by
 have:=@ZHj P w K mg base A T;have:=@ZCk P w K mg base A T
 exists T.fz20,["rules","house","y","word","up","book","told","timers","number","mark"]
theorem ZHO:Fo P w K mg base A 2 22 ZFJ 3 ZC6:=by
 have:=@ZHj P w K mg base A T
 exists T.fz22,["rules","old","word"]
theorem ZNf:Fo P w K mg base A 3 21 ZMN 4 ZFn:=by
 have:=@ZHO P w K mg base A T;have:=@ZCk P w K mg base A T
 exists T.fz21,["rules","house","about","word","up","book","told","timers","number","mark"]
theorem ZN3:Fo P w K mg base A 4 19 ZMr 4 ZJD:=by
 have:=@ZJv P w K mg base A T;have:=@ZNf P w K mg base A T
 exists T.fz19,["rules","house","y","notes","about","word"]
theorem ZBe:Fo P w K mg base A 2 24 ZEO 3 ZAJ:=by
 have:=@ZCk P w K mg base A T
 exists T.fz24,["state","at","house","turn","houses"]
theorem ZLe:Fo P w K mg base A 5 23 ZKI 5 ZGJ:=by
 have:=@ZI5 P w K mg base A T;have:=@ZCk P w K mg base A T;have:=@ZBe P w K mg base A T;have:=@ZN3 P w K mg base A T
 exists T.fz23,["rules","town","state","x","y","turn","houses","notes","told","up","book","old","timers","missed"]
theorem ZIv:Fo P w K mg base A 2 25 ZGD 3 ZCZ:=by
 have:=@ZNU P w K mg base A T
 exists T.fz25,["town","state","a","turn","houses"]
theorem ZD1:Fo P w K mg base A 3 26 ZCC 3 ZA8:=by
 have:=@ZGM P w K mg base A T
 exists T.fz26,["town","turn","a","first"]
theorem ZCg:Fo P w K mg base A 1 28 ZGb 2 ZBm:=by
 exists T.fz28,["book","house","number","mark"]
theorem ZIH:Fo P w K mg base A 3 27 ZGO 5 ZCO:=by
 have:=@ZGM P w K mg base A T;have:=@ZCg P w K mg base A T
 exists T.fz27,["rules","town","state","a","b","turn","houses","up","book","told","timers"]
theorem ZKX:Fo P w K mg base A 2 30 ZH1 4 ZE2:=by
 have:=@ZCg P w K mg base A T
 exists T.fz30,["rules","book","a","b","many","behind"]
theorem ZPF:Fo P w K mg base A 3 29 ZQY 4 ZL3:=by
 have:=@ZCg P w K mg base A T;have:=@ZKX P w K mg base A T
 exists T.fz29,["rules","state","a","b","turn","houses","up","book","told","timers","found"]
theorem ZLq:Fo P w K mg base A 3 31 ZKg 5 ZEP:=by
 have:=@ZBe P w K mg base A T;have:=@ZCk P w K mg base A T
 exists T.fz31,["rules","state","a","b","answered","turn","houses","up","book","told","timers","number","mark"]
theorem ZD2:Fo P w K mg base A 1 59 ZBA 5 ZA5:=by
 exists T.fz59,["self","rules","town","state","lost"]
theorem ZCn:Fo P w K mg base A 6 60 ZB3 3 ZAL:=by
 have:=@ZLe P w K mg base A T
 exists T.fz60,["self","x","y","lost","missed","came"]
theorem ZEm:Fo P w K mg base A 7 34 ZC5 2 ZA1:=by
 have:=@ZCn P w K mg base A T
 exists T.fz34,["road","x","y"]
theorem ZQa:Fo P w K mg base A 3 35 ZQb 2 ZIX:=by
 have:=@ZBe P w K mg base A T
 exists T.fz35,["road","x","turn","houses","up","book","told","timers"]
theorem ZQu:Fo P w K mg base A 2 33 ZQQ 2 ZLg:=by
 have:=@ZCk P w K mg base A T
 exists T.fz33,["houses","doings","lost","falls","leaves","comes","behind","at","house","up","book","told","timers","number","mark"]
theorem ZD6:Fo P w K mg base A 7 38 ZCp 2 ZAo:=by
 have:=@ZCn P w K mg base A T
 exists T.fz38,["road","way","x","y"]
theorem ZFS:Fo P w K mg base A 8 37 ZDe 3 ZBC:=by
 have:=@ZPF P w K mg base A T;have:=@ZD6 P w K mg base A T
 exists T.fz37,["road","a","b","way"]
theorem ZJo:Fo P w K mg base A 9 36 ZHp 2 ZDU:=by
 have:=@ZD1 P w K mg base A T;have:=@ZIH P w K mg base A T;have:=@ZFS P w K mg base A T;have:=@ZLq P w K mg base A T
 exists T.fz36,["road","a","turn","houses","b","answered"]
theorem ZDB:Fo P w K mg base A 10 32 ZHk 4 ZA4:=by
 have:=@ZD2 P w K mg base A T;have:=@ZEm P w K mg base A T;have:=@ZQa P w K mg base A T;have:=@ZIv P w K mg base A T;have:=@ZQu P w K mg base A T;have:=@ZJo P w K mg base A T
 exists T.fz32,["rules","town","state","doings","turn","houses","lost","falls","leaves","comes","road","x","a"]
theorem ZNZ:Fo P w K mg base A 11 40 ZMh 4 ZIw:=by
 have:=@ZDB P w K mg base A T;have:=@ZHH P w K mg base A T
 exists T.fz40,["rules","town","state","row","steps","at","doings","letters"]
theorem ZGA:Fo P w K mg base A 12 39 ZJf 4 ZEN:=by
 have:=@ZNZ P w K mg base A T
 exists T.fz39,["rules","town","state","row","sent","behind","letters"]
theorem ZCE:Fo P w K mg base A 11 41 ZDH 3 ZAR:=by
 have:=@ZOR P w K mg base A T;have:=@ZDB P w K mg base A T;have:=@ZNq P w K mg base A T
 exists T.fz41,["rules","town","state","length","number","since","still","letters"]
theorem ZHd:Fo P w K mg base A 1 42 ZM4 2 ZFk:=by
 exists T.fz42,["rules","town","others","wait","told","carry","clauses","many","house"]
theorem ZEt:Fo P w K mg base A 1 43 ZC0 2 ZBi:=by
 exists T.fz43,["_law_script","_law_k"]
theorem ZHE:Fo P w K mg base A 2 44 ZFK 2 ZBq:=by
 have:=@ZEt P w K mg base A T
 exists T.fz44,["_law_script","_law_k","_law_cell","_law_seed"]
theorem ZAM:Fo P w K mg base A 1 45 ZFG 2 ZL:=by
 exists T.fz45,["_law_left_here","_law_many","_law_digit"]
theorem ZHD:Fo P w K mg base A 2 46 ZE8 2 ZC4:=by
 have:=@ZAM P w K mg base A T
 exists T.fz46,["_law_left_here","_law_most","_law_clocks","_law_house","_law_pace"]
theorem ZGS:Fo P w K mg base A 1 47 ZD8 1 ZCc:=by
 exists T.fz47,["_law_lacking","_law_every"]
theorem ZGw:Fo P w K mg base A 2 48 ZEb 1 ZBW:=by
 have:=@ZAM P w K mg base A T;have:=@ZGS P w K mg base A T
 exists T.fz48,["_law_left_here","_law_others","_law_wait","_law_told","_law_carry"]
theorem ZHA:Fo P w K mg base A 2 49 ZFN 2 ZDE:=by
 have:=@ZAM P w K mg base A T
 exists T.fz49,["_law_left_here","_law_most","_law_way","_law_some"]
theorem ZFZ:Fo P w K mg base A 3 50 ZDj 3 ZB2:=by
 have:=@ZHA P w K mg base A T;have:=@ZAM P w K mg base A T
 exists T.fz50,["_law_left_here","_law_ups","_law_much","_law_moved","_law_there","_law_house","_law_way","_law_lost_here"]
theorem ZIs:Fo P w K mg base A 4 51 ZGG 3 ZDq:=by
 have:=@ZAM P w K mg base A T;have:=@ZFZ P w K mg base A T
 exists T.fz51,["_law_left_here","_law_many_houses","_law_most","_law_ups","_law_much"]
theorem ZHG:Fo P w K mg base A 13 52 ZFH 4 ZC7:=by
 have:=@ZGA P w K mg base A T;have:=@ZHd P w K mg base A T;have:=@ZIs P w K mg base A T
 exists T.fz52,["_law_left_here","_law_drawn","_law_town_here","_law_most"]
theorem ZGF:Fo P w K mg base A 1 53 ZEa 1 ZEU:=by
 exists T.fz53,["_law_thing"]
theorem ZDd:∀n,Fo P w K mg base A (0+n) 54 ZCw 2 (Zv n):=by
 exact ZNP 0 (d:=ZBs) (n:=2) ZIW ZEF rfl rfl T.fz54.fn ZJu λn G cdv A outer s H E hr=>(
(ZCD (ZGQ (ZEC (Z7 ZKU rfl T.z_isinstance boot_isinstance (Zh (Zy 1) (Zh (ZDG (n:="tuple") rfl T.z_tuple boot_tuple) ZAY))))
(ZCD (ZGQ (JW.pt (ZI3 (ZMl (ZEC (Z7 ZKU rfl T.z_isinstance boot_isinstance (Zh (Zy 0) (Zh (ZDG (n:="tuple") rfl T.z_tuple boot_tuple) ZAY))))) (ZIl (ZIP (oNe hr.units) (Z7 ZUX rfl T.z_len boot_len (Zh (Zy 0) ZAY)) (Z7 ZUX rfl T.z_len boot_len (Zh (Zy 1) ZAY)) (ZDn _)))))
(ZCJ (ZDL ZO4))
ZC2)
(ZCJ (ZDL (Z7 (ZV1 rfl) rfl T.z_all boot_all (Zh (ZKE (sc:=ZM (top 73)) (NX:=["_law_found","_law_due"]) (N:=["_law_one","_law_other"]) (own:=2) (cap:=[]) rfl (ZME rfl T.z_zip (Zh (Zy 0) (Zh (Zy 1) ZAY)) (hn:=(.cons (.cons .nil)))) rfl rfl (λcl C s0 H0 fp=>⟨(ZPb rfl (ZGC (ZLN (i:=0) (by show(["_law_one","_law_other"]:List Str).Nodup;decide +kernel) rfl (Or.inl rfl)) (ZGC (ZLN (i:=1) (by show(["_law_one","_law_other"]:List Str).Nodup;decide +kernel) rfl (Or.inl rfl)) ZNL))),ZKb,(ZKS T.fz54 G hr (Zh (Zy 0) (Zh (Zy 1) ZAY)) (.cons (.cons .nil)))⟩) (by decide +kernel) rfl) ZAY)))))
ZC2)
(ZCD (ZGQ (ZIP ZUq (Zy 1) ZIg (ZDn _))
(ZCJ (ZDL (ZFb ZUq (Zy 0) ZIg (ZDn _))))
ZC2)
(ZCD (ZGQ (JW.pt (ZI3 (ZEC (Z7 ZKU rfl T.z_isinstance boot_isinstance (Zh (Zy 1) (Zh (ZDG (n:="bool") rfl T.z_bool boot_bool) ZAY)))) (ZIl (ZEC (Z7 ZKU rfl T.z_isinstance boot_isinstance (Zh (Zy 0) (Zh (ZDG (n:="bool") rfl T.z_bool boot_bool) ZAY)))))))
(ZCJ (ZDL (ZFr (Z7 ZKU rfl T.z_isinstance boot_isinstance (Zh (Zy 0) (Zh (ZDG (n:="bool") rfl T.z_bool boot_bool) ZAY))) (ZFr (Z7 ZKU rfl T.z_isinstance boot_isinstance (Zh (Zy 1) (Zh (ZDG (n:="bool") rfl T.z_bool boot_bool) ZAY))) (ZJL (ZFb (oEq hr.units) (Zy 0) (Zy 1) (ZDn _)))))))
ZC2)
(ZCJ (ZDL (ZFr (Z7 ZKU rfl T.z_isinstance boot_isinstance (Zh (Zy 0) (Zh (ZDG (n:="int") rfl T.z_int boot_int) ZAY))) (ZJL (ZFb (oEq hr.units) (Zy 0) (Zy 1) (ZDn _))))))))))
theorem ZGX:Fo P w K mg base A 1 55 ZEV 1 ZCe:=by
 exists T.fz55,["_law_town_here","_law_found","_law_pace","_law_start","_law_each","_law_many"]
theorem ZDY:Fo P w K mg base A 11 56 ZBp 4 ZA0:=by
 have:=@ZDB P w K mg base A T
 exists T.fz56,["_law_drawn","_law_town_here","_law_state","_law_many","_law_found","_law_turn"]
theorem ZF8:Fo P w K mg base A 12 57 ZEE 3 ZBa:=by
 have:=@ZCE P w K mg base A T;have:=@ZDY P w K mg base A T;have:=@ZDd P w K mg base A T 8;have:=@ZGF P w K mg base A T;have:=@ZGX P w K mg base A T
 exists T.fz57,["_law_drawn","_law_town_here","_law_state","_law_found","_law_walk"]
theorem ZSv{f:Addr}(F:Fun K "law" "law" (top 77) f fd):FnOk P w K mg base CX0 14 f fd ["_law_script"] (spD K 1 ZJZ):=by
 have:=@ZHE P w K mg base A T;have:=@ZGw P w K mg base A T;have:=@ZF8 P w K mg base A T;have:=@ZHD P w K mg base A T;have:=@ZHG P w K mg base A T;have:=@ZGA P w K mg base A T;have:=@ZCE P w K mg base A T;have:=@ZDd P w K mg base A T 8;have:=@ZHd P w K mg base A T;have:=@ZAM P w K mg base A T;have nd:=ZTj.nd;refine ZFm (d:=ZTd) (r:=ZJZ) (n:=8) (by unfold ZJZ;rfl) rfl rfl F ZTj ?_;left
end
def ZMp(K:Frag):Sp:=λvs H Q _=>∃(a:Addr) (ns:List Int),vs=[.ref a]/\SqL K H a (ns.map V.int)/\ns.length<=63/\∀H',Q (.bl true) H'
theorem ZVN(T:Txt K mg A){f:Addr}(F:Fun K "law" "law" (top 77) f fd):FnOk P w K mg base CX0 14 f fd ["_law_script"] (ZMp K):=ZVp (ZSv T F) λns hl=>ZVK hl
end
noncomputable abbrev LD:List (Str×Nat):=("is_whole",1)::("is_count",2)::("is_tuple_of",3)::("rises",4)::("put",5)::("quiet",7)::("is_doings",8)::("are_rising",9)::("are_apart",10)::("are_houses",11)::("newer",17)::("ticks",19)::("ticks_by",20)::("target",21)::("cycle",22)::("least_shared",23)::("notes_of",25)::("due_houses",26)::("news_houses",27)::("taken",28)::("refuted",29)::("noted",30)::("gives_way",31)::("posted",33)::("with_house",34)::("asks_any",35)::("asked_in_order",36)::("asks_now",37)::("is_about",38)::("ways",39)::("helpers",40)::("judged",41)::("stepped",47)::("done",48)::("write_to_all",49)::("stop",50)::("ask_all",51)::("is_answered",52)::("comes_through",53)::("walked",54)::("trail",55)::("still_behind",58)::("begun",60)::("_law_cell_at",62)::("_law_left",63)::("_law_pick",64)::("_law_town",65)::("_law_names",66)::("_law_rules",67)::("_law_lost",68)::("_law_doings",69)::("_law_row",70)::("_law_here",71)::("_law_whole",72)::("_law_same",73)::("_law_cycle",74)::("_law_quiet_walk",75)::("_law_right",76)::[]
theorem all_mk{l:PySem.W.OpenLaw}{w:World}{K:Frag}{h:Heap}{mg:Yj}{fa:Addr}(X:K.In h)(G:h.Ns mainGlobals mg)(hfa:mg "law" = some (.ref fa))
  {fs:List Addr}(H:ALs K top LD fs)
  {cRoad:Addr}(acRoad:nsIn K mainGlobals "Road" = some (some (.ref cRoad)))(pgRoad:plainGet K cRoad Str.empty=true)(hdRoad:hasDictIn K cRoad=true)(poRoad:plainOver K cRoad=true)(saRoad:findIn K (.ref cRoad) "__setattr__" = some (some (.builtin "object.__setattr__")))(mkRoad:makesIn K cRoad=true)(kcRoad:keepIn K (.ref cRoad)=true)(naRoad0:findIn K (.ref cRoad) "rules" = some none)(naRoad1:findIn K (.ref cRoad) "town" = some none)(naRoad2:findIn K (.ref cRoad) "state" = some none)(naRoad3:findIn K (.ref cRoad) "lost" = some none)(naRoad4:findIn K (.ref cRoad) "letters" = some none)
  {f58:Addr}{od58 an58:Option Addr}{sl58:Array (Option Value)}{oc58 kV58 dc58 pm58 cd58 ct58:Value}
  (a58:nsIn K mainGlobals "law" = some (some (.ref f58)))
  (l58:K.lookup f58=some ⟨oc58,od58,.func (fnOf "law" "law" (ZBD (top 77)) (ZAC (top 77)) (ZM (top 77)) .none kV58 dc58 pm58 an58 cd58 ct58),sl58⟩)(c58:codeIn K cd58 "law" = true)(k58:keepIn K (.ref f58)=true)
  {f59:Addr}
  (a59:findIn K (.ref cRoad) "__init__" = some (some (.ref f59)))(n59:isFn K (.ref f59)=true)
  (h59:ZOG K "__init__" "Road.__init__" (ZFo (top 46) 0) f59)
  {f60:Addr}
  (a60:findIn K (.ref cRoad) "sends" = some (some (.ref f60)))(n60:isFn K (.ref f60)=true)
  (h60:ZOG K "sends" "Road.sends" (ZFo (top 46) 1) f60)
  {gt0:Tok}(glob0:nsIn K mainGlobals "ALIVE" = some (some (.int 0 gt0)))
  {gt1:Tok}(glob1:nsIn K mainGlobals "SUSPECT" = some (some (.int 1 gt1)))
  {gt2:Tok}(glob2:nsIn K mainGlobals "GONE" = some (some (.int 2 gt2)))
  {gt3:Tok}(glob3:nsIn K mainGlobals "LEFT" = some (some (.int 3 gt3)))
  {gt4:Tok}(glob4:nsIn K mainGlobals "MOST_QUIET" = some (some (.int 500 gt4)))
  (z0:nsIn K mainGlobals "all" = some none)
  (z1:nsIn K mainGlobals "any" = some none)
  (z2:nsIn K mainGlobals "bool" = some none)
  (z3:nsIn K mainGlobals "dict" = some none)
  (z4:nsIn K mainGlobals "enumerate" = some none)
  (z5:nsIn K mainGlobals "int" = some none)
  (z6:nsIn K mainGlobals "isinstance" = some none)
  (z7:nsIn K mainGlobals "len" = some none)
  (z8:nsIn K mainGlobals "max" = some none)
  (z9:nsIn K mainGlobals "min" = some none)
  (z10:nsIn K mainGlobals "range" = some none)
  (z11:nsIn K mainGlobals "sorted" = some none)
  (z12:nsIn K mainGlobals "sum" = some none)
  (z13:nsIn K mainGlobals "tuple" = some none)
  (z14:nsIn K mainGlobals "zip" = some none)
  : ∃fd:FuncData,(∀(s:Shared) (v:Value),BindsTo s fd ⟨[v],[]⟩ [("_law_script",v)])/\∀base:Heap,K.In base->base.Ns mainGlobals mg->FnOk l.prog w K mg base CX0 14 fa fd ["_law_script"] (ZMp K):=by
 have e:=hfa.symm.trans (mg_of X G a58);cases e;have NARoad:∀f∈ZF.fs,ZC1 K cRoad f:=by
  intro f hf;simp only[ZF,mem_cons,not_mem_nil,or_false] at hf;rcases hf with rfl|rfl|rfl|rfl|rfl
  .exact naRoad0
  .exact naRoad1
  .exact naRoad2
  .exact naRoad3
  .exact naRoad4
 have F58:=ZP1 (st:=(top 77)) l58 c58 k58;have F59:=h59.fn;have D59:MDef K cRoad _ _ _ ZBA f59 _:=⟨⟨a59,n59,F59.kp⟩,F59,F59.binds (by right)⟩;have F60:=h60.fn;have D60:MDef K cRoad _ _ _ ZB3 f60 _:=⟨⟨a60,n60,F60.kp⟩,F60,F60.binds (by right)⟩;have T:Txt K mg ⟨cRoad,λn=>if n=59 then f59 else if n=60 then f60 else fs.getD n 0⟩:=⟨mg_none_of X G z0,mg_none_of X G z1,mg_none_of X G z2,mg_none_of X G z3,mg_none_of X G z4,mg_none_of X G z5,mg_none_of X G z6,mg_none_of X G z7,mg_none_of X G z8,mg_none_of X G z9,mg_none_of X G z10,mg_none_of X G z11,mg_none_of X G z12,mg_none_of X G z13,mg_none_of X G z14,⟨_,mg_of X G glob0⟩,⟨_,mg_of X G glob1⟩,⟨_,mg_of X G glob2⟩,⟨_,mg_of X G glob3⟩,⟨_,mg_of X G glob4⟩,⟨acRoad,mg_of X G acRoad,⟨pgRoad,hdRoad,poRoad,saRoad⟩,by decide +kernel,NARoad⟩,⟨mkRoad,a59,n59,kcRoad⟩,ZV X G H 0 rfl (by right),ZV X G H 1 rfl (by right),ZV X G H 2 rfl (by right),ZV X G H 3 rfl (by right),ZV X G H 4 rfl (by right),ZV X G H 5 rfl (by right),ZV X G H 6 rfl (by right),ZV X G H 7 rfl (by right),ZV X G H 8 rfl (by right),ZV X G H 9 rfl (by right),ZV X G H 10 rfl (by right),ZV X G H 11 rfl (by right),ZV X G H 12 rfl (by right),ZV X G H 13 rfl (by right),ZV X G H 14 rfl (by right),ZV X G H 15 rfl (by right),ZV X G H 16 rfl (by right),ZV X G H 17 rfl (by right),ZV X G H 18 rfl (by right),ZV X G H 19 rfl (by right),ZV X G H 20 rfl (by right),ZV X G H 21 rfl (by right),ZV X G H 22 rfl (by right),ZV X G H 23 rfl (by right),ZV X G H 24 rfl (by right),ZV X G H 25 rfl (by right),ZV X G H 26 rfl (by right),ZV X G H 27 rfl (by right),ZV X G H 28 rfl (by right),ZV X G H 29 rfl (by right),ZV X G H 30 rfl (by right),ZV X G H 31 rfl (by right),ZV X G H 32 rfl (by right),ZV X G H 33 rfl (by right),ZV X G H 34 rfl (by right),ZV X G H 35 rfl (by right),ZV X G H 36 rfl (by right),ZV X G H 37 rfl (by right),ZV X G H 38 rfl (by right),ZV X G H 39 rfl (by right),ZV X G H 40 rfl (by right),ZV X G H 41 rfl (by right),ZV X G H 42 rfl (by right),ZV X G H 43 rfl (by right),ZV X G H 44 rfl (by right),ZV X G H 45 rfl (by right),ZV X G H 46 rfl (by right),ZV X G H 47 rfl (by right),ZV X G H 48 rfl (by right),ZV X G H 49 rfl (by right),ZV X G H 50 rfl (by right),ZV X G H 51 rfl (by right),ZV X G H 52 rfl (by right),ZV X G H 53 rfl (by right),ZV X G H 54 rfl (by right),ZV X G H 55 rfl (by right),ZV X G H 56 rfl (by right),ZV X G H 57 rfl (by right),D59,D60⟩;exact⟨fnOf "law" "law" (ZBD (top 77)) (ZAC (top 77)) (ZM (top 77)) .none kV58 dc58 pm58 an58 cd58 ct58,λs v=>.of_eq rfl,λbase _ _=>ZVN T F58⟩
theorem walk{l:PySem.W.OpenLaw}{q:Program}{loose:List Str}{XP:(Str->Option Value)->Heap->Prop}{YP:World->Heap->Prop}{d:DefRec}{K:Params->Frag}(hn:l.most=some 63)(hdf:d.params.defaults=[])
  (hY:∀(w:World) (h:Heap),YP w h->(K w.params).In h)
  (F:∀ (w:World) (mg:Yj) (fa:Addr) (h:Heap),(K w.params).In h->h.Ns mainGlobals mg->mg d.name=some (.ref fa) ->
   ∃fd:FuncData,(∀(s:Shared) (u:Value),BindsTo s fd ⟨[u],[]⟩ [("_law_script",u)])/\∀base:Heap,(K w.params).In base->base.Ns mainGlobals mg->FnOk l.prog w (K w.params) mg base CX0 14 fa fd ["_law_script"] (ZMp (K w.params))) :
  PySem.W.WalkO q loose XP YP l.row.toRowW d [] (λf vs=>PySem.call f vs) :=
 _L.walk_of (n:=63) (k:=14) (x:="_law_script") (CX:=λ_=>CX0) (sp:=λw=>ZMp (K w.params)) hn (by decide) hdf ⟨rfl,by decide,by decide,rfl⟩ hY F (λ_ _ a ns hl _ hS=>⟨a,ns,rfl,hS,hl,λ_=>rfl⟩) λ_ _ _ _ _ z=>z
end _K
end
open PySem PySem.W PyProof.Rows
local macro_rules
 | `(tactic| and_intros) => `(tactic| first | (refine' _L.ALs.cons (_L.atD_mk ?a ?l ?c ?k) ?r; (case a => k_is); (case l => k_is); (case c => k_is); (case k => k_is); (case r => and_intros)) | exact _L.ALs.nil | (refine' _L.fnAt_mk ?l ?c ?k; (case l => k_is); (case c => k_is); (case k => k_is)) | k_is)
set_option genInjectivity false in
set_option genSizeOf false in
structure PySem.W.Fast:Prop where
 (tw1833770805781964202
 tw9645737684262034597
 tw11701250693251541856
 tw3540865106471880815
 tw15649102314958578480
 tw8437596308576468858
 tw5365181876497519872
 tw13892632383230032943
 tw16272862313609589960
 tw15892125418087881741
 tw14871214038050312728
 tw2687077562482874305
 tw13891932118826234575
 tw4750618199527270117
 tw7538665861136100094
 tw13251610132661561323
 tw17184961580451085825
 tw9371899727671974593
 tw10092793715022199917
 tw13490495536026659428
 tw12661815018459710628
 tw2241409978519289094
 tw1340900081637794002
 tw16246523684707539031
 tw16467938858754530806
 tw17267351597695776059
 tw13550965628860657936
 tw17929919155249549065
 tw1377895745828447781
 tw14462205434646784030
 tw11815117529798683357
 tw12091242219588658268
 tw8466312080200247880
 tw15295186865861840866
 tw1048626060454753036
 tw12770321676038889229
 tw5276036223918674709
 tw5627553396933796971
 tw14759376088048526341
 tw15391729420146190080
 tw5298740055599918101
 tw13712860549244775749
 tw2326837007524013846
 tw15641493752376849281
 tw4121131967515562507
 tw18301419339520572543
 tw9952217189151994649
 tw7722102574779473422
 tw13393815426805644268
 tw6529365863638399250
 tw10118951946696086999
 tw1598867416444143345
 tw9347864654639178558
 tw15532518072388681422
 tw2443729622152599593
 tw16484393452795414627
 tw15041055920345596990
 tw364361811205738073
 tw6866775041210131636
 tw4750279925017553521
 tw9580464779826494976
 tw12247763832758243115
 tw14315501590753518531
 tw13715491971956252218
 tw11875085384038929062
 tw8154490480388166820
 tw757520742455744382
 tw9799108686233528671
 tw5973531283866817318
 tw18038578277010051625
 tw13703266127417160864
 tw3189505659378431894
 tw310220728451692713
 tw3334263243098071689
 tw16128060158504876430
 tw12432964987577421111
 tw8251050532788561996
 tw16999465709885297157
 tw5905139297833880552
 tw10644097227515906715
 tw8480044459578867856
 tw15911133387622748699
 tw14892866012367381591
 tw988024793160941610
 tw10814484758350331921
 tw14552731008152583831
 tw8393486412294757560
 tw2038235455377434704
 tw17644734457209356941
 tw3415279542407761208
 tw11528116015436059631
 tw7322250859656581140
 tw7505090036306530608
 tw11927997975169077717
 tw10410892786293668358
 tw5134709585428575573
 tw4964175175085131856
 tw1738327149485153546
 tw9745003210958626042
 tw2054914559769586500
 tw12289709439398656403
 tw5379367211824467412
 tw10507644524648693912
 tw4429976581110891642
 tw15260633611511537736
 tw1253068524195535943
 tw8220830485695381021
 tw16655696723978444633
 tw13397989361241153072
 tw9917925937502613268
 tw1111574293871607466
 tw7911545848176111000
 tw14061134241239076423
 tw2974958168780415081
 tw6505987642522275840
 tw2083164169651792883
 tw9385962203358818165
 tw8218604691439278539
 tw4412911916632353703
 tw5156895446134657224
 tw16954289483420449278
 tw15839623066484388368
 tw12664225235713834942
 tw17999665878506093906
 tw11431222842583355454
 tw8971599983917311737
 tw17840392670752097028
 tw494112178735690344
 tw18007603554826017808
 tw10441762531221223716
 tw16793680073400099650
 tw5003348606655904898
 tw14488069877543872113
 tw7861537998033427344
 tw17946731802212681190
 tw6566071532741795176
 tw8040045937386284963
 tw3744132576356084450
 tw1497055003760881320
 tw14609317084942269561
 tw17568536474773125811
 tw18278393046686451255
 tw14402208133468994875
 tw10007429758456429997
 tw13142585127604343560
 tw9522118965080334829
 tw3775344040538855536
 tw8190673190378965529
 tw15495857221873414129
 tw15492178361027748109
 tw18371123554499056252
 tw6732931097656106064
 tw8219147777820050015
 tw18156979499026128701
 tw7916249637800297333
 tw3488480212835479678
 tw46159987717228446
 tw7916809159201420353
 tw15084298592914770571
 tw15488371911513844995
 tw1918575507262929573
 tw117188913786610347
 tw196614566474341265
 tw10842360037455027557
 tw13403453537324831983
 tw14990611125700330854
 tw2474354186066563423
 tw13917389027508734423
 tw11605797184142339454
 tw15600185750664029940
 tw5985737834383230510
 tw14114142276952621232
 tw13172192862548247689
 tw6895518748270728657
 tw8243082975095128481
 tw2285541910803794242
 tw8803692707257753461
 tw3007736145006938393
 tw7493730129000360837
 tw9345390870151204641
 tw7374397601792966277
 tw10420647287740214565
 tw12624437885827228944
 tw8762194091915791914
 tw14181116663188307248
 tw17388925226171231461
 tw5342733469593173616
 tw12498622615461274239
 tw4509055951049952071
 tw15157355647446566648
 tw17427334982099851937
 tw540287698905656095
 tw16011434701358218326
 tw285072472890482897
 tw9581063945439540739
 tw9243618909820830295
 tw9524503541977166567
 tw10174207433884556842
 tw7314056707093193138
 tw8176220938254980922
 tw9913689456853589461
 tw16407041525566688511
 tw13250944414275468068
 tw2596530086102910919
 tw11308592575184916535
 tw18143067692421676776
 tw12555829831465432046
 tw3595718404179550919
 tw9458947735410663615
 tw14883344986155643025
 tw12481993991508560196
 tw7769360838626249307
 tw9408455059757571300
 tw3955775310518734502
 tw13291066862292133636
 tw4964657031936142773
 tw3461584976799355715
 tw720502530864437298
 tw11618628366299988772
 tw4259181472357183971
 tw477854473086748216
 tw15375827829285298580
 tw8860949261824017266
 tw4946822200215669349
 tw312678587813014476
 tw15211758117323201875
 tw11656830720557869429
 tw17713460355490381215
 tw818498009515648597
 tw9390833429882591378
 tw6202408685878896214
 tw289825005166261504
 tw17838270425307038690
 tw2125411281575098008
 tw10306536951924472995
 tw15930498143335536923
 tw17607983149627069639 : True)
set_option maxRecDepth 100000 in
set_option maxHeartbeats 0 in
theorem PySem.Challenge.cw_hearsaybook_k42_still_behind_turns_holds : PySem.Challenge.rw_hearsaybook_k42_still_behind_turns.Holds := by
 w_on; o_law; k_head; (case hw=>w_witness2)
 k_fill
 refine _K.walk (l:=PySem.Challenge.rw_hearsaybook_k42_still_behind_turns) rfl rfl (λ w h Y=>PySem.W.kIn_of Y) ?F
 case F =>
  intro w mg fa h KX G hmg;apply _K.all_mk KX G hmg
  all_goals and_intros
