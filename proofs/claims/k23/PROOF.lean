import PyProof.Rows.All
import Wide.All
import OpenK.AllK
import Wide.FinOn
import Lean
import PyProof.EqAt
import PyProof.EqKinds
import PyProof.TupleCall
import PyProof.NeKinds
import PyProof.IsiPairs
import PyProof.EnumMake
import PyProof.Draws
import PyProof.CompFree
import PyProof.CompUse
import PyProof.ConsumeWalk
import PyProof.NeData
import PyProof.P3In
import PyProof.Rows.ReprR
import PyProof.ZipIter
import PyProof.MinMaxWalk
import PyProof.Rows.TupAdd
import PyProof.ListMulRoad
import PyProof.FactsAll.tuple_2
import PyProof.Rows.FStr
import PyProof.StrCalls2
import PyProof.Rows.StrWeight2
import PyProof.Rows.StrSplitJoin
import PyProof.Rows.TupIter
import PyProof.Rows.SortStr
import PySem.Challenge.RW_hearsaybook_k23_newer_notes_win
set_option Elab.async false
set_option linter.all false
set_option maxRecDepth 100000
/-! THE HAND LAYER, for ints, bools, texts, own classes, LISTS and tuples (index, slices, in, append, pop ..), calls, loops. Paste it whole ahead of your own text; what your proof does not reach may be deleted. -/
namespace L2
open PySem PySem.Spec PyProof.Rows

/-- a key: an int or a str -/
abbrev Key := Sum Int Str
def keyIs : Key → Value → Bool
  | .inl k, v => Value.isInt k v
  | .inr x, v => Value.isStrOf x v
def keyH (w : World) : Key → Int
  | .inl k => hashInt k
  | .inr x => hashStr w x
theorem keyIs_shape : ∀ {k : Key} {v : Value}, keyIs k v = true → (∃ i t, k = Sum.inl i ∧ v = Value.int i t) ∨ (∃ x t, k = Sum.inr x ∧ v = Value.str x t)
  | .inl i, v, h => by
    obtain ⟨t, e⟩ := Value.isInt_shape (k := i) (v := v) h
    exact .inl ⟨i, t, rfl, e⟩
  | .inr x, v, h => by
    obtain ⟨t, e⟩ := Value.isStrOf_shape (x := x) (v := v) h
    exact .inr ⟨x, t, rfl, e⟩
theorem keyIs_int (i : Int) (t : Tok) : keyIs (.inl i) (.int i t) = true := by simp [keyIs, Value.isInt]
theorem keyIs_str (x : Str) (t : Tok) : keyIs (.inr x) (.str x t) = true := by simp [keyIs, Value.isStrOf]
theorem key_ll (a b : Int) : decide ((Sum.inl a : Key) = Sum.inl b) = (a == b) := by
  by_cases e : a = b
  · subst e; simp
  · have h : ¬ (Sum.inl a : Key) = Sum.inl b := fun q => e (Sum.inl.inj q)
    rw [decide_eq_false h]
    exact (beq_eq_false_iff_ne.mpr e).symm
theorem key_rr (a b : Str) : decide ((Sum.inr a : Key) = Sum.inr b) = decide (a = b) := by
  by_cases e : a = b
  · subst e; simp
  · have h : ¬ (Sum.inr a : Key) = Sum.inr b := fun q => e (Sum.inr.inj q)
    rw [decide_eq_false h, decide_eq_false e]
theorem key_lr (a : Int) (b : Str) : decide ((Sum.inl a : Key) = Sum.inr b) = false := decide_eq_false (fun q => nomatch q)
theorem key_rl (a : Str) (b : Int) : decide ((Sum.inr a : Key) = Sum.inl b) = false := decide_eq_false (fun q => nomatch q)

def mixKind (prog : Program) (w : World) : PySem.KeyKind prog w Key where
  is := keyIs
  hash := keyH w
  inj := fun v a b ha hb => by
    rcases keyIs_shape ha with ⟨i, t, rfl, rfl⟩ | ⟨x, t, rfl, rfl⟩
    · rcases keyIs_shape hb with ⟨j, u, rfl, e⟩ | ⟨y, u, rfl, e⟩
      · injection e with e1 _; rw [e1]
      · exact nomatch e
    · rcases keyIs_shape hb with ⟨j, u, rfl, e⟩ | ⟨y, u, rfl, e⟩
      · exact nomatch e
      · injection e with e1 _; rw [e1]
  byValue := fun k v h => by
    rcases keyIs_shape h with ⟨i, t, rfl, rfl⟩ | ⟨x, t, rfl, rfl⟩ <;> rfl
  pyHash := fun hv h => by
    rcases keyIs_shape hv with ⟨i, t, rfl, rfl⟩ | ⟨x, t, rfl, rfl⟩
    · exact wpAny_pyHash_int h
    · exact wpAny_pyHash_str h
  eqBool := fun hu hv h => by
    rcases keyIs_shape hu with ⟨i, t, rfl, rfl⟩ | ⟨x, t, rfl, rfl⟩
    · rcases keyIs_shape hv with ⟨j, u, rfl, rfl⟩ | ⟨y, u, rfl, rfl⟩
      · rw [key_ll] at h; exact wpAny_eqBool_int h
      · rw [key_lr] at h; exact SeqAt.EqAt.int_str i t y u _ _ _ _ h
    · rcases keyIs_shape hv with ⟨j, u, rfl, rfl⟩ | ⟨y, u, rfl, rfl⟩
      · rw [key_rl] at h; exact SeqAt.EqAt.str_int x t j u _ _ _ _ h
      · rw [key_rr] at h; exact wpAny_eqBool_str h
  «strs» := fun k x t v h => by
    rcases keyIs_shape h with ⟨i, u, rfl, e⟩ | ⟨y, u, rfl, e⟩
    · exact nomatch e
    · injection e with e1 _
      subst e1
      cases v <;> rfl

theorem mixKind_is (prog : Program) (w : World) (k : Key) (v : Value) : (mixKind prog w).is k v = keyIs k v := rfl
theorem mixKind_int (prog : Program) (w : World) (i : Int) (t : Tok) : (mixKind prog w).is (.inl i) (.int i t) = true := keyIs_int i t
theorem mixKind_str (prog : Program) (w : World) (x : Str) (t : Tok) : (mixKind prog w).is (.inr x) (.str x t) = true := keyIs_str x t
end L2

namespace L2
open PySem PySem.Spec PyProof.Rows

/-- a value, without the heap -/
inductive V where
  | non | bl (b : Bool) | int (i : Int) | str (x : Str) | byt (b : Array UInt8) | flt (b : UInt64) | ref (a : Addr) | ty (n : String)
  deriving DecidableEq

def RelV : V → Value → Prop
  | .non, u => u = Value.none
  | .bl b, u => u = Value.bool b
  | .int i, u => ∃ t, u = Value.int i t
  | .str x, u => ∃ t, u = Value.str x t
  | .byt b, u => ∃ t, u = Value.bytes b t
  | .flt b, u => ∃ t, u = Value.float b t
  | .ref a, u => u = Value.ref a
  | .ty n, u => u = Value.type n

abbrev Vals : List V → List Value → Prop := Paired RelV
theorem Vals.length {xs : List V} {us : List Value} (r : Vals xs us) : xs.length = us.length := Paired.length r
theorem Vals.get : ∀ {xs : List V} {us : List Value} {i : Nat} {x : V}, Vals xs us → xs[i]? = some x → ∃ u, us[i]? = some u ∧ RelV x u
  | _, _, _, _, .nil, e => by simp at e
  | _, _, 0, _, .cons r _, e => by simp at e; subst e; exact ⟨_, rfl, r⟩
  | _, _, i + 1, x, .cons _ t, e => by
    obtain ⟨u, h1, h2⟩ := Vals.get (i := i) (x := x) t (by simpa using e)
    exact ⟨u, by simpa using h1, h2⟩
theorem Vals.set {x : V} {u : Value} (r : RelV x u) : ∀ {xs : List V} {us : List Value} (i : Nat), Vals xs us → Vals (xs.set i x) (us.set i u)
  | _, _, _, .nil => .nil
  | _, _, 0, .cons _ t => .cons r t
  | _, _, i + 1, .cons q t => .cons q (Vals.set r i t)
theorem Vals.append : ∀ {xs ys : List V} {us ws : List Value}, Vals xs us → Vals ys ws → Vals (xs ++ ys) (us ++ ws)
  | _, _, _, _, .nil, s => s
  | _, _, _, _, .cons r t, s => .cons r (Vals.append t s)
theorem Vals.take : ∀ {xs : List V} {us : List Value} (n : Nat), Vals xs us → Vals (xs.take n) (us.take n)
  | _, _, 0, _ => .nil
  | _, _, _ + 1, .nil => .nil
  | _, _, n + 1, .cons r t => .cons r (Vals.take n t)
theorem Vals.drop : ∀ {xs : List V} {us : List Value} (n : Nat), Vals xs us → Vals (xs.drop n) (us.drop n)
  | _, _, 0, r => r
  | _, _, _ + 1, .nil => .nil
  | _, _, n + 1, .cons _ t => Vals.drop n t
theorem Vals.none_of : ∀ {xs : List V} {us : List Value} {i : Nat}, Vals xs us → xs[i]? = none → us[i]? = none := fun {xs us i} r e => by
  have h1 := r.length
  have h2 : xs.length ≤ i := List.getElem?_eq_none_iff.mp e
  exact List.getElem?_eq_none_iff.mpr (by omega)

def RelO : Option V → Option Value → Prop
  | some v, some u => RelV v u
  | none, none => True
  | _, _ => False
def KV {κ : Type} : List (κ × V) → List (κ × Value) → Prop := Paired fun (p : κ × V) (q : κ × Value) => p.1 = q.1 ∧ RelV p.2 q.2

/-- a key of a dict (00_mix): an int or a text -/
def kV : Key → V
  | .inl i => .int i
  | .inr x => .str x

/-- what stands at a tracked address -/
inductive HO where
  /-- a list -/
  | lst (xs : List V)
  /-- a tuple (never changes) -/
  | tup (xs : List V)
  /-- a dict whose keys are ints and texts; one whose keys are tuples of ints and texts (the empty one is both) -/
  | dK (kvs : List (Key × V)) | dT (kvs : List (List Key × V))
  /-- a set of ints: its members, its size -/
  | set (S : Int → Bool) (n : Nat)
  /-- an instance of the class at C, its dict at dx, its attributes -/
  | ins (C dx : Addr) (fs : List (Str × V))
  /-- the dict of the instance at x -/
  | own (x : Addr)
  /-- the dict of an exception -/
  | xd (fs : List (Str × V))
  /-- a bound method, f of x -/
  | met (f x : Addr)
  /-- a range object lo, lo + 1, .. below hi -/
  | rng (lo hi : Int)
  /-- a thing that is known to the object (the script; a dict while a loop walks it): read, never written while it is so -/
  | frz (o : Obj) (u : HO)
  /-- a code object's table -/
  | tbl (ps : Array Value)
  /-- any other thing, by what is true of its one object (a def of one's own: SetO a S n := HO.ext fun h => ..) -/
  | ext (φ : Heap → Prop)

abbrev Hp := Addr → Option HO
def upd (H : Hp) (a : Addr) (o : HO) : Hp := fun b => if b = a then some o else H b
theorem upd_same {H : Hp} {a : Addr} {o : HO} : upd H a o a = some o := by unfold upd; rw [if_pos rfl]
theorem upd_ne {H : Hp} {a b : Addr} {o : HO} (h : b ≠ a) : upd H a o b = H b := by unfold upd; rw [if_neg h]
theorem upd_upd {H : Hp} {a : Addr} {o u : HO} : upd (upd H a o) a u = upd H a u := by
  funext b; unfold upd; split <;> rfl
/-- two objects of different content stand apart -/
theorem ne_of {H : Hp} {a b : Addr} {o u : HO} (h : H a = some o) (h' : H b = some u) (d : o ≠ u) : a ≠ b := by
  intro e; subst e; rw [h] at h'; exact d (Option.some.inj h')
theorem ne_of_none {H : Hp} {a b : Addr} {o : HO} (h : H a = some o) (h' : H b = none) : a ≠ b := by
  intro e; subst e; rw [h] at h'; cases h'

section
variable (P : Program) (w : World)
def ObjOk (H : Hp) (h : Heap) (a : Addr) : HO → Prop
  | .lst xs => xs.length ≤ sizeLine ∧ ∃ (its : List Value) (n : Nat), Vals xs its ∧ h.get? a = some { cls := .type "list", data := .seq its.toArray n }
  | .tup xs => xs.length ≤ sizeLine ∧ ∃ its : List Value, Vals xs its ∧ IsTup h a its.toArray
  | .dK kvs => kvs.length ≤ sizeLine ∧ (a == sysModules) = false ∧ ∃ vs, KV kvs vs ∧ h.DictOf (mixKind P w) a vs
  | .dT kvs => kvs.length ≤ sizeLine ∧ (a == sysModules) = false ∧ ∃ xs : List (List Key × Addr × Value),
      Paired (fun (p : List Key × V) (q : List Key × Addr × Value) => p.1 = q.1 ∧ H q.2.1 = some (.tup (p.1.map kV)) ∧ RelV p.2 q.2.2) kvs xs ∧
      ∃ o es ep, h.get? a = some o ∧ o.ExactDict ∧ o.data = .dict es ep ∧ es.toList = xs.map (entryOfKey (tupleKind (mixKind P w))) ∧ (xs.map (·.1)).Nodup
  | .set S n => h.SetOf (intKind P w) a S n
  | .ins C dx fs => H dx = some (.own a) ∧ fs.length ≤ 1000 ∧ dx ≠ a ∧ h.get? a = some (PySem.W.instObj C dx) ∧
      ∃ mA, h.Ns1 dx mA ∧ (∀ f, RelO (fs.lookup f) (mA f)) ∧ PySem.Within mA (fs.map (·.1))
  | .own _ => ∃ o, h.get? a = some o
  | .xd fs => ∃ mA, h.Ns1 a mA ∧ ∀ f, RelO (fs.lookup f) (mA f)
  | .rng lo hi => ∃ t u v, h.get? a = some { cls := .type "range", data := .fields #[.int lo t, .int hi u, .int 1 v] }
  | .frz o u => h.get? a = some o ∧ ObjOk H h a u
  | .tbl ps => h.get? a = some { cls := .none, data := .fields ps }
  | .met f x => h.get? a = some (PySem.W.methodObj (.ref f) (.ref x))
  | .ext φ => φ h ∧ (∃ o, h.get? a = some o) ∧ ∀ h1 h2 : Heap, φ h1 → (∀ o, h1.get? a = some o → h2.get? a = some o) → φ h2
/-- the abstract heap is held -/
def HOk (H : Hp) (h : Heap) : Prop := ∀ a o, H a = some o → ObjOk P w H h a o
end

section
variable {P : Program} {w : World} {H H' : Hp} {h h' : Heap} {a : Addr} {o : HO}
theorem ObjOk.lt (x : ObjOk P w H h a o) : a < h.objs.size := by
  cases o with
  | lst xs => obtain ⟨_, _, _, _, e⟩ := x; exact Heap.lt_size e
  | tup xs => obtain ⟨_, _, _, p⟩ := x; exact p.lt
  | dK kvs => obtain ⟨_, _, _, _, o, _, _, e, _⟩ := x; exact Heap.lt_size e
  | dT kvs => obtain ⟨_, _, _, _, o, _, _, e, _⟩ := x; exact Heap.lt_size e
  | set S n => obtain ⟨o, _, _, _, e, _⟩ := x; exact Heap.lt_size e
  | ins C dx fs => obtain ⟨_, _, _, e, _⟩ := x; exact Heap.lt_size e
  | own y => obtain ⟨_, e⟩ := x; exact Heap.lt_size e
  | xd fs => obtain ⟨_, ⟨_, _, _, e, _⟩, _⟩ := x; exact Heap.lt_size e
  | rng lo hi => obtain ⟨_, _, _, e⟩ := x; exact Heap.lt_size e
  | frz ob u => obtain ⟨e, _⟩ := x; exact Heap.lt_size e
  | tbl ps => exact Heap.lt_size (show h.get? a = some _ from x)
  | met f y => exact Heap.lt_size (show h.get? a = some _ from x)
  | ext φ => obtain ⟨_, ⟨_, e⟩, _⟩ := x; exact Heap.lt_size e
theorem Paired.mapP {α β : Type} {F G : α → β → Prop} : ∀ {l₁ : List α} {l₂ : List β}, Paired F l₁ l₂ → (∀ a b, F a b → G a b) → Paired G l₁ l₂
  | _, _, .nil, _ => .nil
  | _, _, .cons r t, f => .cons (f _ _ r) (Paired.mapP t f)
theorem Paired.imp' {α β : Type} {F G : α → β → Prop} (f : ∀ a b, F a b → G a b) {l₁ : List α} {l₂ : List β} (r : Paired F l₁ l₂) : Paired G l₁ l₂ := Paired.mapP r f
/-- what an object's description leans on: its own object, its own dict, the tuples -/
theorem ObjOk.stay (x : ObjOk P w H h a o) (k : ∀ b u, (b = a ∨ H b = some (.own a)) → h.get? b = some u → h'.get? b = some u)
    (ho : ∀ b, H b = some (.own a) → H' b = some (.own a)) (ht : ∀ b xs, H b = some (.tup xs) → H' b = some (.tup xs)) : ObjOk P w H' h' a o := by
  induction o with
  | lst xs => obtain ⟨z, its, n, r, e⟩ := x; exact ⟨z, its, n, r, k _ _ (.inl rfl) e⟩
  | tup xs => obtain ⟨z, its, r, ob, e, c⟩ := x; exact ⟨z, its, r, ob, k _ _ (.inl rfl) e, c⟩
  | dK kvs => obtain ⟨z, y, vs, r, ob, es, ep, e, c⟩ := x; exact ⟨z, y, vs, r, ob, es, ep, k _ _ (.inl rfl) e, c⟩
  | dT kvs =>
    obtain ⟨z, y, xs, r, ob, es, ep, e, c⟩ := x
    exact ⟨z, y, xs, Paired.mapP r fun p q z => ⟨z.1, ht _ _ z.2.1, z.2.2⟩, ob, es, ep, k _ _ (.inl rfl) e, c⟩
  | set S n => obtain ⟨ob, es, ep, t, e, c⟩ := x; exact ⟨ob, es, ep, t, k _ _ (.inl rfl) e, c⟩
  | ins C dx fs =>
    obtain ⟨d, z, ne, e, mA, ⟨od, es, ep, e2, c⟩, r⟩ := x
    exact ⟨ho _ d, z, ne, k _ _ (.inl rfl) e, mA, ⟨od, es, ep, k _ _ (.inr d) e2, c⟩, r⟩
  | own y => obtain ⟨ob, e⟩ := x; exact ⟨ob, k _ _ (.inl rfl) e⟩
  | xd fs => obtain ⟨mA, ⟨od, es, ep, e, c⟩, r⟩ := x; exact ⟨mA, ⟨od, es, ep, k _ _ (.inl rfl) e, c⟩, r⟩
  | rng lo hi => obtain ⟨t, u, v, e⟩ := x; exact ⟨t, u, v, k _ _ (.inl rfl) e⟩
  | frz ob u ih => obtain ⟨e, q⟩ := x; exact ⟨k _ _ (.inl rfl) e, ih q⟩
  | tbl ps =>
    have e : h.get? a = some { cls := .none, data := .fields ps } := x
    show h'.get? a = some { cls := .none, data := .fields ps }
    exact k a _ (.inl rfl) e
  | met f y =>
    have e : h.get? a = some (PySem.W.methodObj (.ref f) (.ref y)) := x
    show h'.get? a = some (PySem.W.methodObj (.ref f) (.ref y))
    exact k a _ (.inl rfl) e
  | ext φ => obtain ⟨p, ⟨o, e⟩, st⟩ := x; exact ⟨st _ _ p fun o q => k _ _ (.inl rfl) q, ⟨o, k _ _ (.inl rfl) e⟩, st⟩
theorem HOk.lt (x : HOk P w H h) (e : H a = some o) : a < h.objs.size := (x a o e).lt
theorem HOk.fresh (x : HOk P w H h) (e : h.objs.size ≤ a) : H a = none := by
  cases q : H a with
  | none => rfl
  | some u => exact absurd (Nat.lt_of_lt_of_le (x.lt q) e) (Nat.lt_irrefl _)
/-- every object of the heap is kept -/
theorem HOk.kept (x : HOk P w H h) (k : ∀ b u, h.get? b = some u → h'.get? b = some u) : HOk P w H h' := fun a o e =>
  (x a o e).stay (fun b u _ q => k b u q) (fun _ q => q) fun _ _ q => q
/-- a new object is laid and tracked -/
theorem HOk.laid (x : HOk P w H h) (k : ∀ b u, h.get? b = some u → h'.get? b = some u) (hp : h.objs.size ≤ a) (new : ObjOk P w (upd H a o) h' a o) : HOk P w (upd H a o) h' := fun b u e => by
  have hn := x.fresh hp
  by_cases hb : b = a
  · subst hb; rw [upd_same] at e; cases e; exact new
  · rw [upd_ne hb] at e
    exact (x b u e).stay (fun c v _ q => k c v q) (fun c q => by rw [upd_ne (ne_of_none q hn)]; exact q) fun c xs q => by rw [upd_ne (ne_of_none q hn)]; exact q
end

/-- what may be read as u: it is u, or a known u -/
def Rd (H : Hp) (a : Addr) (u : HO) : Prop := H a = some u ∨ ∃ o, H a = some (.frz o u)
theorem Rd.of {H : Hp} {a : Addr} {u : HO} (h : H a = some u) : Rd H a u := .inl h
theorem Rd.ok {P : Program} {w : World} {H : Hp} {h : Heap} {a : Addr} {u : HO} (r : Rd H a u) (x : HOk P w H h) : ObjOk P w H h a u := by
  rcases r with r | ⟨o, r⟩
  · exact x a u r
  · obtain ⟨_, q⟩ := x a _ r
    exact q
/-- what may be written -/
def Mut : Option HO → Prop
  | some (.lst _) => True
  | some (.dK _) => True
  | some (.dT _) => True
  | some (.set _ _) => True
  | some (.ins _ _ _) => True
  | some (.ext _) => True
  | _ => False
section
variable {P : Program} {w : World} {H : Hp} {h h' : Heap} {x e : Addr} {o' : HO}
/-- the object at e is changed: x itself, or the dict of the instance x -/
theorem HOk.write (ok : HOk P w H h) (mu : Mut (H x)) (he : e = x ∨ H e = some (.own x)) (k : ∀ b u, b ≠ e → h.get? b = some u → h'.get? b = some u) (heo : ∃ u, h'.get? e = some u)
    (new : ObjOk P w (upd H x o') h' x o') : HOk P w (upd H x o') h' := fun b u q => by
  have nown : ∀ c y, H c = some (.own y) → c ≠ x := fun c y r z => by subst z; rw [r] at mu; exact mu
  have ntup : ∀ c xs, H c = some (.tup xs) → c ≠ x := fun c xs r z => by subst z; rw [r] at mu; exact mu
  by_cases hb : b = x
  · subst hb; rw [upd_same] at q; cases q; exact new
  · rw [upd_ne hb] at q
    by_cases hbe : b = e
    · have q' : H b = some (.own x) := by
        rcases he with z | z
        · exact absurd (hbe.trans z) hb
        · rw [hbe]; exact z
      rw [q] at q'; cases q'
      obtain ⟨v, hv⟩ := heo
      exact ⟨v, by rw [hbe]; exact hv⟩
    · refine (ok b u q).stay (fun c v hc r => k c v ?_ r) (fun c r => by rw [upd_ne (nown c b r)]; exact r) fun c xs r => by rw [upd_ne (ntup c xs r)]; exact r
      rcases hc with rfl | hc
      · exact hbe
      · rintro rfl
        rcases he with z | z
        · exact nown c b hc z
        · rw [hc] at z; cases z; exact hb rfl
end

/-! ### kept unless tracked; of the frames at fs (the callers') the slots may change (an exception that passes writes there); of the records at ex (iterators) nothing is said -/
structure Un (fs ex : List Addr) (H H' : Hp) (h h' : Heap) : Prop where
  keep : ∀ b o, h.get? b = some o → H b = none → b ∉ fs → b ∉ ex → h'.get? b = some o
  slot : ∀ b o, h.get? b = some o → H b = none → b ∈ fs → b ∉ ex → ∃ sl, h'.get? b = some { o with slots := sl }
  free : ∀ b o, h.get? b = some o → H b = none → b ∉ ex → H' b = none
  there : ∀ b o, h.get? b = some o → b ∉ ex → ∃ o', h'.get? b = some o'
  tups : ∀ b xs, H b = some (.tup xs) → H' b = some (.tup xs)
  frzs : ∀ b o u, H b = some (.frz o u) → H' b = some (.frz o u)
  tbls : ∀ b ps, H b = some (.tbl ps) → ∃ more, H' b = some (.tbl (ps ++ more))
section
variable {fs fs' ex ex' : List Addr} {H H1 H2 : Hp} {h h1 h2 h' : Heap} {a x e : Addr} {o : HO}
theorem Un.any (u : Un fs ex H H1 h h1) {b : Addr} {ob : Obj} (q : h.get? b = some ob) (n : H b = none) (hx : b ∉ ex) : ∃ sl, h1.get? b = some { ob with slots := sl } := by
  by_cases hb : b ∈ fs
  · exact u.slot b ob q n hb hx
  · exact ⟨ob.slots, u.keep b ob q n hb hx⟩
theorem Un.trans (a : Un fs ex H H1 h h1) (b : Un fs ex H1 H2 h1 h2) : Un fs ex H H2 h h2 where
  keep := fun c ob q n hc hx => b.keep c ob (a.keep c ob q n hc hx) (a.free c ob q n hx) hc hx
  slot := fun c ob q n hc hx => by
    obtain ⟨sl, e1⟩ := a.slot c ob q n hc hx
    obtain ⟨sl', e2⟩ := b.slot c _ e1 (a.free c ob q n hx) hc hx
    exact ⟨sl', e2⟩
  free := fun c ob q n hx => by
    obtain ⟨o', e1⟩ := a.there c ob q hx
    exact b.free c o' e1 (a.free c ob q n hx) hx
  there := fun c ob q hx => by
    obtain ⟨o', e1⟩ := a.there c ob q hx
    exact b.there c o' e1 hx
  tups := fun c xs q => b.tups c xs (a.tups c xs q)
  frzs := fun c ob xs q => b.frzs c ob xs (a.frzs c ob xs q)
  tbls := fun c ps q => by
    obtain ⟨m1, e1⟩ := a.tbls c ps q
    obtain ⟨m2, e2⟩ := b.tbls c _ e1
    exact ⟨m1 ++ m2, by rw [e2, Array.append_assoc]⟩
theorem Un.kept (k : ∀ b u, h.get? b = some u → h'.get? b = some u) : Un fs ex H H h h' :=
  ⟨fun b ob q _ _ _ => k b ob q, fun b ob q _ _ _ => ⟨ob.slots, k b ob q⟩, fun _ _ _ n _ => n, fun b ob q _ => ⟨ob, k b ob q⟩, fun _ _ q => q, fun _ _ _ q => q, fun _ ps q => ⟨#[], by rw [q]; simp⟩⟩
theorem Un.refl : Un fs ex H H h h := Un.kept fun _ _ q => q
theorem Un.laid (k : ∀ b u, h.get? b = some u → h'.get? b = some u) (hp : h.objs.size ≤ a) (hn : H a = none) : Un fs ex H (upd H a o) h h' where
  keep := fun b u q _ _ _ => k b u q
  slot := fun b u q _ _ _ => ⟨u.slots, k b u q⟩
  free := fun b u q n _ => by rw [upd_ne (Nat.ne_of_lt (Nat.lt_of_lt_of_le (Heap.lt_size q) hp))]; exact n
  there := fun b u q _ => ⟨u, k b u q⟩
  tups := fun b xs q => by rw [upd_ne (ne_of_none q hn)]; exact q
  frzs := fun b u xs q => by rw [upd_ne (ne_of_none q hn)]; exact q
  tbls := fun b ps q => ⟨#[], by rw [upd_ne (ne_of_none q hn), q]; simp⟩
theorem Un.write (mu : Mut (H x)) (he : e = x ∨ H e = some (.own x)) (k : ∀ b u, b ≠ e → h.get? b = some u → h'.get? b = some u) (heo : ∃ u, h'.get? e = some u) : Un fs ex H (upd H x o) h h' := by
  have hx : ∀ b, H b = none → b ≠ x := fun b n z => by subst z; rw [n] at mu; exact mu
  have hb : ∀ b, H b = none → b ≠ e := fun b n z => by
    subst z
    rcases he with r | r
    · exact hx b n r
    · rw [n] at r; cases r
  have hm : ∀ b u, H b = some u → ¬ Mut (some u) → b ≠ x := fun b u q nm z => by subst z; rw [q] at mu; exact nm mu
  refine ⟨fun b u q n _ _ => k b u (hb b n) q, fun b u q n _ _ => ⟨u.slots, k b u (hb b n) q⟩, fun b u q n _ => by rw [upd_ne (hx b n)]; exact n, fun b u q _ => ?_,
    fun b xs q => by rw [upd_ne (hm b _ q fun z => z)]; exact q, fun b u xs q => by rw [upd_ne (hm b _ q fun z => z)]; exact q, fun b ps q => ⟨#[], by rw [upd_ne (hm b _ q fun z => z), q]; simp⟩⟩
  by_cases hbe : b = e
  · subst hbe; exact heo
  · exact ⟨u, k b u hbe q⟩
theorem Un.mono (u : Un fs ex H H1 h h1) (hs : ∀ b ∈ fs, b ∈ fs') (hx : ∀ b ∈ ex, b ∈ ex') : Un fs' ex' H H1 h h1 :=
  ⟨fun b ob q n hb he => u.keep b ob q n (fun z => hb (hs b z)) fun z => he (hx b z), fun _ _ q n _ he => u.any q n fun z => he (hx _ z), fun b ob q n he => u.free b ob q n fun z => he (hx b z), fun b ob q he => u.there b ob q fun z => he (hx b z), u.tups, u.frzs, u.tbls⟩
end

/-! ### the heap without what is tracked -/
def trk (h : Heap) (H : Hp) : List Addr := (List.range h.objs.size).filter fun a => (H a).isSome
def hidT (h : Heap) (H : Hp) : Heap := PySem.W.hideAll h (trk h H)
theorem hidT_size (h : Heap) (H : Hp) : (hidT h H).objs.size = h.objs.size := PySem.W.hideAll_size _ _
theorem hidT_get {h : Heap} {H : Hp} {b : Addr} {o : Obj} (e : h.get? b = some o) (n : H b = none) : (hidT h H).get? b = some o :=
  PySem.W.hideAll_get _ e fun hm => by
    have q : (H b).isSome = true := (List.mem_filter.mp hm).2
    rw [n] at q; simp at q
theorem of_hidT {h : Heap} {H : Hp} {b : Addr} {o : Obj} (e : (hidT h H).get? b = some o) : h.get? b = some o ∧ H b = none := by
  have e' : h.get? b = some o := PySem.W.of_hideAll (trk h H) e
  refine ⟨e', ?_⟩
  cases q : H b with
  | none => rfl
  | some x =>
    have hm : b ∈ trk h H := List.mem_filter.mpr ⟨List.mem_range.mpr (Heap.lt_size e'), by simp [q]⟩
    have z : (hidT h H).get? b = none := PySem.W.hideAll_none (trk h H) hm
    rw [z] at e; cases e

/-! ### OpenK's ledger, filled with every new object but one -/
def allNews (g h : Heap) (L : Addr) : List (Addr × Obj) := (List.range h.objs.size).filterMap fun a => if a = L ∨ (g.get? a).isSome = true then none else (h.get? a).map fun o => (a, o)
theorem mem_allNews {g h : Heap} {L a : Addr} {o : Obj} (h1 : a ≠ L) (h2 : g.get? a = none) (h3 : h.get? a = some o) : (a, o) ∈ allNews g h L :=
  List.mem_filterMap.mpr ⟨a, List.mem_range.mpr (Heap.lt_size h3), by simp [h1, h2, h3]⟩
theorem of_mem_allNews {g h : Heap} {L : Addr} {p : Addr × Obj} (hp : p ∈ allNews g h L) : p.1 ≠ L ∧ g.get? p.1 = none ∧ h.get? p.1 = some p.2 := by
  obtain ⟨b, _, e⟩ := List.mem_filterMap.mp hp
  split at e
  · cases e
  · rename_i hn
    cases q : h.get? b with
    | none => rw [q] at e; simp at e
    | some u =>
      rw [q] at e
      simp only [Option.map_some, Option.some.injEq] at e
      subst e
      refine ⟨fun z => hn (.inl z), ?_, q⟩
      show g.get? b = none
      cases r : g.get? b with
      | none => rfl
      | some v => exact (hn (.inr (by simp [r]))).elim
def rest (g h : Heap) (L d : Addr) : List (Addr × Obj) := (allNews g h L).filter fun p => decide (p.1 ≠ d)
theorem rest_ne {g h : Heap} {L d : Addr} : ∀ p ∈ rest g h L d, p.1 ≠ d := fun p hp => of_decide_eq_true (List.mem_filter.mp hp).2
theorem mem_rest {g h : Heap} {L d a : Addr} {o : Obj} (h1 : a ≠ L) (h2 : g.get? a = none) (h3 : h.get? a = some o) (h4 : a ≠ d) : (a, o) ∈ rest g h L d :=
  List.mem_filter.mpr ⟨mem_allNews h1 h2 h3, decide_eq_true h4⟩
theorem news_all {g h : Heap} {L : Addr} : News g L h (allNews g h L) := fun p hp => let ⟨a, b, c⟩ := of_mem_allNews hp; ⟨c, a, b⟩
theorem news_at {g h : Heap} {L d : Addr} {o : Obj} (h1 : d ≠ L) (h2 : g.get? d = none) (h3 : h.get? d = some o) : News g L h ((d, o) :: rest g h L d) := fun p hp => by
  rcases List.mem_cons.mp hp with rfl | hp
  · exact ⟨h3, h1, h2⟩
  · exact news_all p (List.mem_filter.mp hp).1
/-- behind a rule that changed d alone: all else but the frame is kept -/
theorem kept_of_news {g h h' : Heap} {L d : Addr} {m : Str → Option Value} (k : ∀ b o, g.get? b = some o → h.get? b = some o) (F : Fr g L h' m) (N : News g L h' (rest g h L d)) :
    ∀ b o, b ≠ L → b ≠ d → h.get? b = some o → h'.get? b = some o := fun b o h1 h2 e => by
  cases q : g.get? b with
  | some u =>
    have := k b u q
    rw [e] at this; cases this
    exact F.keep b _ q
  | none => exact (N (b, o) (mem_rest h1 q e h2)).1
end L2

namespace L2
open PySem PySem.Spec PyProof.Rows

/-- the module's facts, over the base: the heap at the law's entry without what is tracked there -/
structure Mod (K : PySem.W.Frag) (mg : Str → Option Value) (base : Heap) : Prop where
  kin : K.In base
  glob : base.Ns mainGlobals mg
  blt : ∃ mb, base.Ns builtinsNs mb ∧ ∀ x : Str, x ≠ "__name__" → mb x = bootBuiltins x
  nolimit : base.NoLimit

/-- the context: a def's body (or a comprehension's block) running. base: fixed through the whole law; s₀, H₀: the entry; outer: the frames whose slots others may change (a def's callers); stack: all frames that run;
   ex: iterators that were made ahead of the entry and are walked here (a comprehension's); fn: the names whose cells were made at the entry (a def: all; a comprehension's block: its own); calm: not within an except suite; pn: pins that every state bears; xe: what is wanted of an exception that leaves the code -/
structure Cx where
  prog : Program
  w : World
  K : PySem.W.Frag
  mg : Str → Option Value
  base : Heap
  A : Around
  N : List Str
  s₀ : Shared
  H₀ : Hp
  env : Env
  outer : List Env
  stack : List Env
  ex : List Addr
  fn : Str → Bool
  calm : Bool
  pn : List (Addr × Obj)
  xe : Value → Shared → Prop
/-- the callers' frames -/
def frs (l : List Env) : List Addr := l.filterMap (·.frame)
abbrev Cx.fs (X : Cx) : List Addr := frs X.outer

def Vis (sc : Scope) (x : Str) : Prop := sc.names.lookup x = some .local ∨ sc.names.lookup x = some .cell ∨ sc.names.lookup x = some .free
def Loc (sc : Scope) (x : Str) : Prop := sc.names.lookup x = some .local ∨ sc.names.lookup x = some .cell
def Look (env : Env) (h : Heap) (m : Str → Option Value) (x : Str) (u : Value) : Prop :=
  (env.kindOf x = some .local ∧ m x = some u) ∨ ((env.kindOf x = some .cell ∨ env.kindOf x = some .free) ∧ ∃ c, env.cells.lookup x = some c ∧ h.IsCell c (some u))

structure Cx.Ok (X : Cx) : Prop where
  mod : Mod X.K X.mg X.base
  kind : X.env.scope.kind = .function
  glob : X.env.globals = mainGlobals
  blt : X.env.builtins = builtinsNs
  above : X.s₀.heap.objs.size ≤ X.env.locals
  inj : ∀ x y c, X.env.cells.lookup x = some c → X.env.cells.lookup y = some c → x = y
  has : ∀ x, (X.env.kindOf x = some .cell ∨ X.env.kindOf x = some .free) → ∃ c, X.env.cells.lookup x = some c
  cab : ∀ x c, X.fn x = true → X.env.cells.lookup x = some c → X.s₀.heap.objs.size ≤ c
  hd : X.calm = true → X.A.handled = none
  frames : X.A.frames = some X.stack
  stk : X.stack = X.outer ∨ (X.stack = X.env :: X.outer ∧ X.env.frame = some X.env.locals)
  exf : ∀ b ∈ X.ex, b ≠ X.env.locals ∧ ∀ x c, X.env.cells.lookup x = some c → c ≠ b
  bs : ∀ b o, X.base.get? b = some o → X.s₀.heap.get? b = some o ∧ X.H₀ b = none
  bsz : X.base.objs.size ≤ X.s₀.heap.objs.size
  noex : ∀ b o, X.base.get? b = some o → b ∉ X.ex
  exfs : ∀ b ∈ X.ex, b ∉ X.fs
  funs : X.s₀.heap.FunFrames X.base X.outer
  frf : ∀ b ∈ X.fs, X.H₀ b = none

structure Inv (X : Cx) (pins : List (Addr × Obj)) (σ : List (Option V)) (H : Hp) (s : Shared) : Prop where
  ok : X.Ok
  os : s.os = X.s₀.os
  bare : AllBare s.gens
  base : Un X.fs X.ex X.H₀ H X.s₀.heap s.heap
  loc : ∃ m, s.heap.Ns X.env.locals m ∧ ∀ (i : Nat) (x : Str) (v : V), X.N[i]? = some x → σ[i]? = some (some v) → Vis X.env.scope x → ∃ u, RelV v u ∧ Look X.env s.heap m x u
  cell : ∀ x c, X.env.cells.lookup x = some c → ∃ v, s.heap.IsCell c v
  free : H X.env.locals = none
  freeC : ∀ x c, X.env.cells.lookup x = some c → H c = none
  pin : ∀ p ∈ X.pn ++ pins, s.heap.get? p.1 = some p.2 ∧ H p.1 = none ∧ p.1 ≠ X.env.locals ∧ p.1 ∉ X.fs ∧ ∀ v, p.2.data ≠ .cell v
  hok : HOk X.prog X.w H s.heap
  len : σ.length = X.N.length

section
variable {X : Cx} {pins : List (Addr × Obj)} {σ : List (Option V)} {H H' : Hp} {s : Shared} {h' : Heap}

theorem Cx.Ok.nofr (ok : X.Ok) {b : Addr} {o : Obj} (e : X.base.get? b = some o) : b ∉ X.fs := fun hb => by
  have := (ok.funs.mem hb).1
  rw [e] at this; cases this
theorem Inv.bs (I : Inv X pins σ H s) : ∀ b o, X.base.get? b = some o → s.heap.get? b = some o ∧ H b = none := fun b o e =>
  ⟨I.base.keep b o (I.ok.bs b o e).1 (I.ok.bs b o e).2 (I.ok.nofr e) (I.ok.noex b o e), I.base.free b o (I.ok.bs b o e).1 (I.ok.bs b o e).2 (I.ok.noex b o e)⟩
theorem Inv.bk (I : Inv X pins σ H s) : ∀ b o, X.base.get? b = some o → s.heap.get? b = some o := fun b o e => (I.bs b o e).1
theorem Inv.mod (I : Inv X pins σ H s) : Mod X.K X.mg X.base := I.ok.mod
theorem Inv.kIn (I : Inv X pins σ H s) : X.K.In s.heap := I.ok.mod.kin.keeps I.bk
theorem Inv.nolimit (I : Inv X pins σ H s) : s.heap.NoLimit := I.ok.mod.nolimit.keeps I.bk
/-- the frame over the base: for OpenK's rules (K.In X.base is I.mod.kin) -/
theorem Inv.fr (I : Inv X pins σ H s) : ∃ m, Fr X.base X.env.locals s.heap m :=
  let ⟨m, hn, _⟩ := I.loc
  ⟨m, hn, I.bk, Nat.le_trans I.ok.bsz I.ok.above⟩
theorem Inv.lt (I : Inv X pins σ H s) : X.env.locals < s.heap.objs.size := let ⟨_, hn, _⟩ := I.loc; hn.lt
theorem Inv.sz (I : Inv X pins σ H s) : X.s₀.heap.objs.size ≤ s.heap.objs.size := Nat.le_trans I.ok.above (Nat.le_of_lt I.lt)
theorem Inv.nofs (I : Inv X pins σ H s) {a : Addr} (h : s.heap.objs.size ≤ a) : a ∉ X.fs := fun hb => by
  obtain ⟨_, o, ho, _⟩ := I.ok.funs.mem hb
  exact absurd (Nat.lt_of_lt_of_le (Heap.lt_size ho) (Nat.le_trans I.sz h)) (Nat.lt_irrefl _)
theorem Inv.cne (I : Inv X pins σ H s) : ∀ x c, X.env.cells.lookup x = some c → c ≠ X.env.locals := fun x c e z => by
  obtain ⟨v, o, ho, hd⟩ := I.cell x c e
  obtain ⟨m, ⟨o', es, ep, ho', hd', _⟩, _⟩ := I.loc
  rw [z, ho'] at ho; cases ho; rw [hd'] at hd; cases hd
theorem Inv.funs (I : Inv X pins σ H s) : s.heap.FunFrames X.base X.outer := by
  have all : ∀ (l : List Env), (∀ b ∈ frs l, b ∈ X.fs) → X.s₀.heap.FunFrames X.base l → s.heap.FunFrames X.base l := by
    intro l
    induction l with
    | nil => intro _ _; trivial
    | cons env r ih =>
      intro hs hl
      obtain ⟨hk, ⟨L, o, hf, hn, ho, hd⟩, hr⟩ := hl
      have hL : L ∈ X.fs := hs L (by unfold frs; rw [List.filterMap_cons, hf]; exact List.mem_cons_self)
      obtain ⟨sl, e⟩ := I.base.slot L o ho (I.ok.frf L hL) hL fun z => I.ok.exfs L z hL
      exact ⟨hk, ⟨L, _, hf, hn, e, hd⟩, ih (fun b hb => hs b (by unfold frs; rw [List.filterMap_cons, hf]; exact List.mem_cons_of_mem _ hb)) hr⟩
  exact all X.outer (fun _ hb => hb) I.ok.funs

/-- the frames that run, for a call -/
theorem Inv.stack (I : Inv X pins σ H s) : s.heap.FunFrames X.base X.stack := by
  rcases I.ok.stk with e | ⟨e, hf⟩
  · rw [e]; exact I.funs
  · rw [e]
    obtain ⟨m, hn, _⟩ := I.loc
    refine .cons (by rw [I.ok.kind]; decide) hf hn ?_ I.funs
    exact Heap.get?_none_of_le (Nat.le_trans I.ok.bsz I.ok.above)
theorem Inv.stkSub (I : Inv X pins σ H s) : ∀ b ∈ frs X.stack, b ∈ X.env.locals :: X.fs := fun b hb => by
  rcases I.ok.stk with e | ⟨e, hf⟩
  · rw [e] at hb; exact List.mem_cons_of_mem _ hb
  · rw [e] at hb
    unfold frs at hb
    rw [List.filterMap_cons, hf] at hb
    exact hb
theorem Inv.stkFree (I : Inv X pins σ H s) : ∀ b ∈ frs X.stack, H b = none := fun b hb => by
  rcases List.mem_cons.mp (I.stkSub b hb) with e | hb
  · rw [e]; exact I.free
  · obtain ⟨_, o, ho, _⟩ := I.ok.funs.mem hb
    exact I.base.free b o ho (I.ok.frf b hb) fun z => I.ok.exfs b z hb

/-- THE STEP: the untracked objects but the frame and the records at ch are kept (the callers' frames up to slots), the frame's map is kept, the new abstract heap is held -/
theorem Inv.step {g' : Array GenState} {t' : Nat} {d' : Drawn} {ch : List Addr} (I : Inv X pins σ H s)
    (hch : ∀ b ∈ ch, (b ∈ X.ex ∨ X.s₀.heap.objs.size ≤ b) ∧ b ≠ X.env.locals ∧ (∀ x c, X.env.cells.lookup x = some c → c ≠ b) ∧ ∀ p ∈ X.pn ++ pins, p.1 ≠ b)
    (keep : ∀ b o, b ≠ X.env.locals → b ∉ X.fs → b ∉ ch → s.heap.get? b = some o → H b = none → h'.get? b = some o)
    (slot : ∀ b o, b ≠ X.env.locals → b ∈ X.fs → b ∉ ch → s.heap.get? b = some o → H b = none → ∃ sl, h'.get? b = some { o with slots := sl }) (free : ∀ b o, b ∉ ch → s.heap.get? b = some o → H b = none → H' b = none)
    (there : ∀ b o, b ∉ ch → s.heap.get? b = some o → ∃ o', h'.get? b = some o')
    (tups : ∀ b xs, H b = some (.tup xs) → H' b = some (.tup xs)) (frzs : ∀ b o u, H b = some (.frz o u) → H' b = some (.frz o u)) (tbls : ∀ b ps, H b = some (.tbl ps) → ∃ more, H' b = some (.tbl (ps ++ more)))
    (ns : ∀ m, s.heap.Ns X.env.locals m → h'.Ns X.env.locals m) (hok : HOk X.prog X.w H' h') (hg : AllBare g') :
    Inv X pins σ H' { s with heap := h', gens := g', drawn := d', toks := t' } := by
  have neL : ∀ b o, X.s₀.heap.get? b = some o → b ≠ X.env.locals := fun b o e => Nat.ne_of_lt (Nat.lt_of_lt_of_le (Heap.lt_size e) I.ok.above)
  have neC : ∀ b o, X.s₀.heap.get? b = some o → b ∉ X.ex → b ∉ ch := fun b o e hx hb => by
    rcases (hch b hb).1 with z | z
    · exact hx z
    · exact absurd (Nat.lt_of_lt_of_le (Heap.lt_size e) z) (Nat.lt_irrefl _)
  have cellK : ∀ x c, X.env.cells.lookup x = some c → ∀ v, s.heap.IsCell c v → h'.IsCell c v := fun x c e v ⟨o, ho, hd⟩ => by
    have nch : c ∉ ch := fun z => (hch c z).2.2.1 x c e rfl
    by_cases hc : c ∈ X.fs
    · obtain ⟨sl, q⟩ := slot c o (I.cne x c e) hc nch ho (I.freeC x c e)
      exact ⟨_, q, hd⟩
    · exact ⟨o, keep c o (I.cne x c e) hc nch ho (I.freeC x c e), hd⟩
  refine ⟨I.ok, I.os, hg, ⟨fun b o e n hb hx => ?_, fun b o e n hb hx => ?_, fun b o e n hx => ?_, fun b o e hx => ?_, fun b xs e => tups b xs (I.base.tups b xs e), fun b o xs e => frzs b o xs (I.base.frzs b o xs e), fun b ps e => ?_⟩, ?_, fun x c e => ?_, ?_, fun x c e => ?_, fun p hp => ?_, hok, I.len⟩
  · exact keep b o (neL b o e) hb (neC b o e hx) (I.base.keep b o e n hb hx) (I.base.free b o e n hx)
  · obtain ⟨sl, e1⟩ := I.base.slot b o e n hb hx
    obtain ⟨sl', e2⟩ := slot b _ (neL b o e) hb (neC b o e hx) e1 (I.base.free b o e n hx)
    exact ⟨sl', e2⟩
  · obtain ⟨o', e1⟩ := I.base.there b o e hx
    exact free b o' (neC b o e hx) e1 (I.base.free b o e n hx)
  · obtain ⟨o', e1⟩ := I.base.there b o e hx
    exact there b o' (neC b o e hx) e1
  · obtain ⟨m1, e1⟩ := I.base.tbls b ps e
    obtain ⟨m2, e2⟩ := tbls b _ e1
    exact ⟨m1 ++ m2, by rw [e2, Array.append_assoc]⟩
  · obtain ⟨m, hn, hl⟩ := I.loc
    refine ⟨m, ns m hn, fun i x v e1 e2 e3 => ?_⟩
    obtain ⟨u, r, l⟩ := hl i x v e1 e2 e3
    refine ⟨u, r, ?_⟩
    rcases l with l | ⟨k, c, e, z⟩
    · exact .inl l
    · exact .inr ⟨k, c, e, cellK x c e _ z⟩
  · obtain ⟨v, z⟩ := I.cell x c e
    exact ⟨v, cellK x c e v z⟩
  · obtain ⟨m, ⟨o, _, _, ho, _⟩, _⟩ := I.loc
    exact free _ o (fun z => (hch _ z).2.1 rfl) ho I.free
  · obtain ⟨v, o, ho, hd⟩ := I.cell x c e
    exact free c o (fun z => (hch c z).2.2.1 x c e rfl) ho (I.freeC x c e)
  · obtain ⟨e, n, ne, nf, d⟩ := I.pin p hp
    have nch : p.1 ∉ ch := fun z => (hch p.1 z).2.2.2 p hp rfl
    exact ⟨keep p.1 p.2 ne nf nch e n, free p.1 p.2 nch e n, ne, nf, d⟩
/-- .. where the frame's own object is kept too -/
theorem Inv.un {t' : Nat} (I : Inv X pins σ H s) (u : Un X.fs [] H H' s.heap h') (hok : HOk X.prog X.w H' h') : Inv X pins σ H' { s with heap := h', toks := t' } := by
  obtain ⟨m, ⟨o, es, ep, ho, r⟩, _⟩ := id I.loc
  obtain ⟨sl, hL⟩ := u.any ho I.free (by simp)
  exact I.step (g' := s.gens) (d' := s.drawn) (ch := []) (fun _ z => nomatch z) (fun b o _ hb _ e n => u.keep b o e n hb (by simp)) (fun b o _ hb _ e n => u.slot b o e n hb (by simp)) (fun b o _ e n => u.free b o e n (by simp)) (fun b o _ e => u.there b o e (by simp)) u.tups u.frzs u.tbls (fun m' hm => by
    obtain ⟨o', es', ep', ho', r'⟩ := hm
    rw [ho] at ho'; cases ho'
    exact ⟨_, es', ep', hL, r'⟩) hok I.bare
/-- behind a call (or a comprehension's block): the slots of this frame may have changed too, the records at ch may have turned -/
theorem Inv.call {g' : Array GenState} {t' : Nat} {d' : Drawn} {ch : List Addr} (I : Inv X pins σ H s) (u : Un (frs X.stack) ch H H' s.heap h') (hok : HOk X.prog X.w H' h') (hg : AllBare g')
    (hch : ∀ b ∈ ch, (b ∈ X.ex ∨ X.s₀.heap.objs.size ≤ b) ∧ b ≠ X.env.locals ∧ (∀ x c, X.env.cells.lookup x = some c → c ≠ b) ∧ ∀ p ∈ X.pn ++ pins, p.1 ≠ b) :
    Inv X pins σ H' { s with heap := h', gens := g', drawn := d', toks := t' } := by
  obtain ⟨m, ⟨o, es, ep, ho, r⟩, _⟩ := id I.loc
  obtain ⟨sl, hL⟩ := u.any ho I.free fun z => (hch _ z).2.1 rfl
  exact I.step (ch := ch) hch (fun b o hL hb hc e n => u.keep b o e n (fun z => (List.mem_cons.mp (I.stkSub b z)).elim hL hb) hc) (fun b o _ _ hc e n => u.any e n hc) (fun b o hc e n => u.free b o e n hc) (fun b o hc e => u.there b o e hc) u.tups u.frzs u.tbls (fun m' hm => by
    obtain ⟨o', es', ep', ho', r'⟩ := hm
    rw [ho] at ho'; cases ho'
    exact ⟨_, es', ep', hL, r'⟩) hok hg
/-- an untracked record of ours (an iterator) has turned -/
theorem Inv.turned {t' : Nat} {it : Addr} (I : Inv X pins σ H s) (k : ∀ b o, b ≠ it → s.heap.get? b = some o → h'.get? b = some o) (hn : H it = none) (hL : it ≠ X.env.locals)
    (h1 : it ∈ X.ex ∨ X.s₀.heap.objs.size ≤ it) (h2 : ∀ x c, X.env.cells.lookup x = some c → c ≠ it) (h3 : ∀ p ∈ X.pn ++ pins, p.1 ≠ it) : Inv X pins σ H { s with heap := h', toks := t' } := by
  have nit : ∀ b u, H b = some u → b ≠ it := fun b u e z => by rw [z, hn] at e; cases e
  refine I.step (g' := s.gens) (d' := s.drawn) (ch := [it]) (fun b hb => ?_) (fun b o _ _ hc e _ => k b o (fun z => hc (by simp [z])) e) (fun b o _ _ hc e _ => ⟨o.slots, k b o (fun z => hc (by simp [z])) e⟩) (fun _ _ _ _ n => n)
    (fun b o hc e => ⟨o, k b o (fun z => hc (by simp [z])) e⟩) (fun _ _ e => e) (fun _ _ _ e => e) (fun b ps e => ⟨#[], by rw [e]; simp⟩) (fun m hm => ?_) (fun b u e => ?_) I.bare
  · have e : b = it := by simpa using hb
    subst e
    exact ⟨h1, hL, h2, h3⟩
  · obtain ⟨o, es, ep, ho, r⟩ := hm
    exact ⟨o, es, ep, k _ o (Ne.symm hL) ho, r⟩
  · refine (I.hok b u e).stay (fun c v hc q => k c v ?_ q) (fun _ q => q) fun _ _ q => q
    rcases hc with z | z
    · rw [z]; exact nit b u e
    · exact nit c _ z
theorem Inv.tok (I : Inv X pins σ H s) (t : Nat) : Inv X pins σ H { s with toks := t } := I.un (h' := s.heap) (t' := t) Un.refl I.hok
/-- all objects kept -/
theorem Inv.kept {t' : Nat} (I : Inv X pins σ H s) (k : ∀ b u, s.heap.get? b = some u → h'.get? b = some u) : Inv X pins σ H { s with heap := h', toks := t' } := I.un (Un.kept k) (I.hok.kept k)
/-- a new object laid and tracked -/
theorem Inv.laid {a : Addr} {o : HO} {t' : Nat} (I : Inv X pins σ H s) (k : ∀ b u, s.heap.get? b = some u → h'.get? b = some u) (hp : s.heap.objs.size ≤ a) (new : ObjOk X.prog X.w (upd H a o) h' a o) :
    Inv X pins σ (upd H a o) { s with heap := h', toks := t' } := I.un (Un.laid k hp (I.hok.fresh hp)) (I.hok.laid k hp new)
/-- an object written -/
theorem Inv.write {x e : Addr} {o : HO} {t' : Nat} (I : Inv X pins σ H s) (mu : Mut (H x)) (he : e = x ∨ H e = some (.own x)) (k : ∀ b u, b ≠ e → s.heap.get? b = some u → h'.get? b = some u) (heo : ∃ u, h'.get? e = some u)
    (new : ObjOk X.prog X.w (upd H x o) h' x o) : Inv X pins σ (upd H x o) { s with heap := h', toks := t' } := I.un (Un.write mu he k heo) (I.hok.write mu he k heo new)
/-- forgetting slots, pins -/
theorem Inv.weak {σ' : List (Option V)} (I : Inv X pins σ H s) (hl : σ'.length = σ.length) (w : ∀ (i : Nat) v, σ'[i]? = some (some v) → σ[i]? = some (some v)) : Inv X pins σ' H s :=
  ⟨I.ok, I.os, I.bare, I.base, let ⟨m, hn, hl'⟩ := I.loc; ⟨m, hn, fun i x v e1 e2 e3 => hl' i x v e1 (w i v e2) e3⟩, I.cell, I.free, I.freeC, I.pin, I.hok, hl.trans I.len⟩
theorem Inv.pins_of {pins' : List (Addr × Obj)} (I : Inv X pins σ H s) (h : ∀ p ∈ pins', s.heap.get? p.1 = some p.2 ∧ H p.1 = none ∧ p.1 ≠ X.env.locals ∧ p.1 ∉ X.fs ∧ ∀ v, p.2.data ≠ .cell v) : Inv X pins' σ H s :=
  ⟨I.ok, I.os, I.bare, I.base, I.loc, I.cell, I.free, I.freeC, fun p hp => (List.mem_append.mp hp).elim (fun z => I.pin p (List.mem_append_left _ z)) (h p), I.hok, I.len⟩

theorem nodup_ix {N : List Str} (hN : N.Nodup) {i j : Nat} {x : Str} (a : N[i]? = some x) (b : N[j]? = some x) : i = j := by
  obtain ⟨h1, e1⟩ := List.getElem?_eq_some_iff.mp a
  obtain ⟨h2, e2⟩ := List.getElem?_eq_some_iff.mp b
  exact (List.getElem_inj hN).mp (e1.trans e2.symm)

/-- a name is stored; what changed -/
theorem store_ok2 {M : Model} {A : Around} {E : Value → Shared → Prop} {i : Nat} {x : Str} {v : V} {u : Value} {Q : Unit → Shared → Prop} (I : Inv X pins σ H s) (hN : X.N.Nodup) (hi : X.N[i]? = some x) (hx : Loc X.env.scope x) (r : RelV v u)
    (h : ∀ s', Inv X pins (σ.set i (some v)) H s' → (∃ a, Heap.SameBut a s.heap s'.heap ∧ (a = X.env.locals ∨ X.env.cells.lookup x = some a)) → Q () s') (hf : X.fn x = true ∨ X.env.scope.names.lookup x = some .local := by first | exact .inl rfl | exact .inr rfl | assumption) : wpAny M A (storeName X.env x u) Q E s := by
  obtain ⟨m, hn, hl⟩ := id I.loc
  have hcls : (X.env.scope.kind == .class || (X.env.scope.kind == .module && X.env.locals != X.env.globals)) = false := by rw [I.ok.kind]; rfl
  have hiσ : i < σ.length := by rw [I.len]; exact (List.getElem?_eq_some_iff.mp hi).1
  have cne := I.cne
  have tracked : ∀ {a : Addr} {h' : Heap}, (∃ o, s.heap.get? a = some o ∧ H a = none) → Heap.SameBut a s.heap h' → HOk X.prog X.w H h' := fun {a h'} ha hs b ob e => by
    obtain ⟨_, _, hfree⟩ := ha
    refine (I.hok b ob e).stay (fun c w' hc q => (hs.2 c ?_).trans q) (fun _ q => q) fun _ _ q => q
    rintro rfl
    rcases hc with rfl | hc
    · rw [hfree] at e; cases e
    · rw [hfree] at hc; cases hc
  rcases hx with hk | hk
  · refine wpAny_storeName_local hk hn (fun h' hn' hs => ?_) hcls
    obtain ⟨oL, _, _, hoL, _⟩ := id hn
    refine h _ ⟨I.ok, I.os, I.bare, ⟨fun b o e n hb hx => ?_, fun b o e n hb hx => ?_, I.base.free, fun b o e hx => ?_, I.base.tups, I.base.frzs, I.base.tbls⟩, ⟨_, hn', fun j y v' e1 e2 e3 => ?_⟩, fun y c e => ?_, I.free, I.freeC, fun p hp => ?_, tracked ⟨oL, hoL, I.free⟩ hs, by simpa using I.len⟩ ⟨_, hs, .inl rfl⟩
    · exact (hs.2 b (Nat.ne_of_lt (Nat.lt_of_lt_of_le (Heap.lt_size e) I.ok.above))).trans (I.base.keep b o e n hb hx)
    · obtain ⟨sl, e1⟩ := I.base.slot b o e n hb hx
      exact ⟨sl, (hs.2 b (Nat.ne_of_lt (Nat.lt_of_lt_of_le (Heap.lt_size e) I.ok.above))).trans e1⟩
    · obtain ⟨o', e1⟩ := I.base.there b o e hx
      exact ⟨o', (hs.2 b (Nat.ne_of_lt (Nat.lt_of_lt_of_le (Heap.lt_size e) I.ok.above))).trans e1⟩
    · by_cases hj : j = i
      · subst hj
        rw [hi] at e1; cases e1
        rw [List.getElem?_set_self hiσ] at e2
        cases e2
        exact ⟨u, r, .inl ⟨hk, by simp⟩⟩
      · rw [List.getElem?_set_ne (Ne.symm hj)] at e2
        obtain ⟨u', r', q⟩ := hl j y v' e1 e2 e3
        refine ⟨u', r', ?_⟩
        rcases q with ⟨k, e⟩ | ⟨k, c, e, z⟩
        · refine .inl ⟨k, ?_⟩
          have : y ≠ x := fun e => hj (nodup_ix hN e1 (e ▸ hi))
          simp [this, e]
        · exact .inr ⟨k, c, e, z.sameBut hs (cne y c e)⟩
    · obtain ⟨w', z⟩ := I.cell y c e
      exact ⟨w', z.sameBut hs (cne y c e)⟩
    · obtain ⟨e, n, ne, nf, d⟩ := I.pin p hp
      exact ⟨(hs.2 p.1 ne).trans e, n, ne, nf, d⟩
  · have hfn : X.fn x = true := by
      rcases hf with z | z
      · exact z
      · rw [z] at hk; cases hk
    obtain ⟨c, hc⟩ := I.ok.has x (.inl hk)
    obtain ⟨w', z⟩ := I.cell x c hc
    refine wpAny_storeName_cell I.ok.kind hk hc z (fun h' hc' hs => ?_)
    obtain ⟨oc, hoc, hocd⟩ := id z
    refine h { s with heap := h' } ⟨I.ok, I.os, I.bare, ⟨fun b o e n hb hx => ?_, fun b o e n hb hx => ?_, I.base.free, fun b o e hx => ?_, I.base.tups, I.base.frzs, I.base.tbls⟩, ⟨m, hn.sameBut hs (Ne.symm (cne x c hc)), fun j y v' e1 e2 e3 => ?_⟩, fun y c' e => ?_, I.free, I.freeC, fun p hp => ?_, tracked ⟨oc, hoc, I.freeC x c hc⟩ hs, by simpa using I.len⟩ ⟨c, hs, .inr hc⟩
    · exact (hs.2 b (Nat.ne_of_lt (Nat.lt_of_lt_of_le (Heap.lt_size e) (I.ok.cab x c hfn hc)))).trans (I.base.keep b o e n hb hx)
    · obtain ⟨sl, e1⟩ := I.base.slot b o e n hb hx
      exact ⟨sl, (hs.2 b (Nat.ne_of_lt (Nat.lt_of_lt_of_le (Heap.lt_size e) (I.ok.cab x c hfn hc)))).trans e1⟩
    · obtain ⟨o', e1⟩ := I.base.there b o e hx
      exact ⟨o', (hs.2 b (Nat.ne_of_lt (Nat.lt_of_lt_of_le (Heap.lt_size e) (I.ok.cab x c hfn hc)))).trans e1⟩
    · by_cases hj : j = i
      · subst hj
        rw [hi] at e1; cases e1
        rw [List.getElem?_set_self hiσ] at e2
        cases e2
        exact ⟨u, r, .inr ⟨.inl hk, c, hc, hc'⟩⟩
      · rw [List.getElem?_set_ne (Ne.symm hj)] at e2
        obtain ⟨u', r', q⟩ := hl j y v' e1 e2 e3
        refine ⟨u', r', ?_⟩
        rcases q with q | ⟨k, c', e, z'⟩
        · exact .inl q
        · refine .inr ⟨k, c', e, z'.sameBut hs ?_⟩
          rintro rfl
          exact hj (nodup_ix hN e1 (I.ok.inj _ _ _ e hc ▸ hi))
    · by_cases hcc : c' = c
      · subst hcc; exact ⟨_, hc'⟩
      · obtain ⟨w2, z2⟩ := I.cell y c' e
        exact ⟨w2, z2.sameBut hs hcc⟩
    · obtain ⟨e, n, ne, nf, d⟩ := I.pin p hp
      refine ⟨(hs.2 p.1 ?_).trans e, n, ne, nf, d⟩
      intro q
      rw [q, hoc] at e
      have q' : oc = p.2 := Option.some.inj e
      exact d w' (by rw [← q']; exact hocd)
theorem store_ok {M : Model} {A : Around} {E : Value → Shared → Prop} {i : Nat} {x : Str} {v : V} {u : Value} {Q : Unit → Shared → Prop} (I : Inv X pins σ H s) (hN : X.N.Nodup) (hi : X.N[i]? = some x) (hx : Loc X.env.scope x) (r : RelV v u)
    (h : ∀ s', Inv X pins (σ.set i (some v)) H s' → Q () s') (hf : X.fn x = true ∨ X.env.scope.names.lookup x = some .local := by first | exact .inl rfl | exact .inr rfl | assumption) : wpAny M A (storeName X.env x u) Q E s :=
  store_ok2 I hN hi hx r (fun s' I' _ => h s' I') hf
/-- behind a call or a block, the state as it is -/
theorem Inv.call' {s' : Shared} {ch : List Addr} (I : Inv X pins σ H s) (ho : s'.os = s.os) (u : Un (frs X.stack) ch H H' s.heap s'.heap) (hok : HOk X.prog X.w H' s'.heap) (hg : AllBare s'.gens)
    (hch : ∀ b ∈ ch, (b ∈ X.ex ∨ X.s₀.heap.objs.size ≤ b) ∧ b ≠ X.env.locals ∧ (∀ x c, X.env.cells.lookup x = some c → c ≠ b) ∧ ∀ p ∈ X.pn ++ pins, p.1 ≠ b) : Inv X pins σ H' s' := by
  obtain ⟨h', g', d', t', o'⟩ := s'
  have e : o' = s.os := ho
  subst e
  exact I.call (g' := g') (t' := t') (d' := d') u hok hg hch
end

/-! ### the judgements -/
/-- an exception: its class, its own dict's address (where it has one), the abstract heap behind it -/
abbrev XK := Value → Option Addr → Hp → Prop
abbrev St := List (Option V)
abbrev VK := V → Hp → Prop
/-- an expression's reading; a test's; an argument list's -/
abbrev TE := St → Hp → VK → Prop
abbrev TT := St → Hp → (Bool → Hp → Prop) → Prop
abbrev TA := St → Hp → (List V → Hp → Prop) → Prop
/-- what is wanted behind a statement -/
structure Ends where
  nx : St → Hp → Prop
  rt : VK
  bk : St → Hp → Prop := fun _ _ => False
  ct : St → Hp → Prop := fun _ _ => False
abbrev TS := Ends → St → Hp → Prop

def EP (X : Cx) (pins : List (Addr × Obj)) (σ : St) (Q : VK) (u : Value) (s' : Shared) : Prop := ∃ v H', Inv X pins σ H' s' ∧ RelV v u ∧ Q v H'
def TP (X : Cx) (pins : List (Addr × Obj)) (σ : St) (Q : Bool → Hp → Prop) (b : Bool) (s' : Shared) : Prop := ∃ H', Inv X pins σ H' s' ∧ Q b H'
def AP (X : Cx) (pins : List (Addr × Obj)) (σ : St) (Q : List V → Hp → Prop) (us : List Value) (s' : Shared) : Prop := ∃ vs H', Inv X pins σ H' s' ∧ Vals vs us ∧ Q vs H'
def SP (X : Cx) (pins : List (Addr × Obj)) (D : Ends) (f : Flow) (s' : Shared) : Prop :=
  match f with
  | .next => ∃ σ' H', Inv X pins σ' H' s' ∧ D.nx σ' H'
  | .brk => ∃ σ' H', Inv X pins σ' H' s' ∧ D.bk σ' H'
  | .cont => ∃ σ' H', Inv X pins σ' H' s' ∧ D.ct σ' H'
  | .ret u => ∃ v σ' H', Inv X pins σ' H' s' ∧ RelV v u ∧ D.rt v H'

def PE (X : Cx) (e : Expr) (t : TE) : Prop :=
  ∀ (pins : List (Addr × Obj)) (s : Shared) (σ : St) (H : Hp) (Q : VK), Inv X pins σ H s → t σ H Q → wpAny (model X.prog X.w) X.A (eval e X.env) (EP X pins σ Q) X.xe s
def PT (X : Cx) (e : Expr) (t : TT) : Prop :=
  ∀ (pins : List (Addr × Obj)) (s : Shared) (σ : St) (H : Hp) (Q : Bool → Hp → Prop), Inv X pins σ H s → t σ H Q → wpAny (model X.prog X.w) X.A (isTrue e X.env (eval e X.env)) (TP X pins σ Q) X.xe s
/-- a test whatever its 'whole' is (and, or) -/
def PW (X : Cx) (e : Expr) (t : TT) : Prop :=
  ∀ (whole : Sem Value) (pins : List (Addr × Obj)) (s : Shared) (σ : St) (H : Hp) (Q : Bool → Hp → Prop), Inv X pins σ H s → t σ H Q → wpAny (model X.prog X.w) X.A (isTrue e X.env whole) (TP X pins σ Q) X.xe s
theorem PW.pt {X : Cx} {e : Expr} {t : TT} (h : PW X e t) : PT X e t := h _
/-- an argument list (no star), from the left -/
def PA (X : Cx) (es : List Expr) (t : TA) : Prop :=
  ∀ (pos : Pos) (pins : List (Addr × Obj)) (s : Shared) (σ : St) (H : Hp) (Q : List V → Hp → Prop), Inv X pins σ H s → t σ H Q → wpAny (model X.prog X.w) X.A (spliced (backTo pos (starEach es X.env))) (AP X pins σ Q) X.xe s
def PS (X : Cx) (st : Stmt) (t : TS) : Prop :=
  ∀ (pins : List (Addr × Obj)) (s : Shared) (σ : St) (H : Hp) (D : Ends), Inv X pins σ H s → t D σ H → wpAny (model X.prog X.w) X.A (exec st X.env) (SP X pins D) X.xe s
def PSs (X : Cx) (st : List Stmt) (t : TS) : Prop :=
  ∀ (pins : List (Addr × Obj)) (s : Shared) (σ : St) (H : Hp) (D : Ends), Inv X pins σ H s → t D σ H → wpAny (model X.prog X.w) X.A (execs st X.env) (SP X pins D) X.xe s
/-- weaken the end -/
theorem thn {α : Type} {t : Sem α} {Q Q' : α → Shared → Prop} {M : Model} {A : Around} {E : Value → Shared → Prop} {s : Shared} (h : wpAny M A t Q E s) (hQ : ∀ a s, Q a s → Q' a s) : wpAny M A t Q' E s := wpAny_mono h hQ fun _ _ x => x
end L2

namespace L2
open PySem PySem.Spec PyProof.Rows
section
variable {X : Cx}

/-- two expressions in a row -/
theorem bin {a b : Expr} {ta tb : TE} (ha : PE X a ta) (hb : PE X b tb) {pins : List (Addr × Obj)} {s : Shared} {σ : St} {H : Hp} {R : V → V → Hp → Prop} (I : Inv X pins σ H s) (h : ta σ H fun x H1 => tb σ H1 fun y H2 => R x y H2)
    {α : Type} {Q : α → Shared → Prop} {f : Value → Value → Sem α}
    (hf : ∀ v u s2 x y H2, Inv X pins σ H2 s2 → RelV x v → RelV y u → R x y H2 → wpAny (model X.prog X.w) X.A (f v u) Q X.xe s2) :
    wpAny (model X.prog X.w) X.A (eval a X.env) (fun v s₁ => wpAny (model X.prog X.w) X.A (eval b X.env) (fun u s₂ => wpAny (model X.prog X.w) X.A (f v u) Q X.xe s₂) X.xe s₁) X.xe s := by
  refine thn (ha pins s σ H _ I h) fun v s1 ⟨x, H1, I1, r1, q1⟩ => ?_
  refine thn (hb pins s1 σ H1 _ I1 q1) fun u s2 ⟨y, H2, I2, r2, q2⟩ => ?_
  exact hf v u s2 x y H2 I2 r1 r2 q2

/-! ### names and constants -/
def tVar (i : Nat) : TE := fun σ H Q => ∃ v, σ[i]? = some (some v) ∧ Q v H
def tC (v : V) : TE := fun _ H Q => Q v H
theorem pe_var {i : Nat} {x : Str} {pos : Pos} (hN : X.N[i]? = some x) (hv : Vis X.env.scope x) (hd : (x == ("__debug__" : Str)) = false := by decide) (hcd : (x == ("__classdict__" : Str)) = false := by decide) : PE X (.Name x pos) (tVar i) := by
  intro pins s σ H Q I h
  obtain ⟨v, e, h⟩ := h
  obtain ⟨m, hn, hl⟩ := I.loc
  obtain ⟨u, r, l⟩ := hl i x v hN e hv
  have fin : EP X pins σ Q u s := ⟨v, H, I, r, h⟩
  rcases l with ⟨hk, hm⟩ | ⟨hk, c, hc, hcell⟩
  · exact wpAny_Name (wpAny_loadName_local I.ok.kind hk hn hm fin) hd
  · rcases hk with hk | hk
    · exact wpAny_Name (wpAny_loadName_cell I.ok.kind hk hc hcell fin) hd
    · exact wpAny_Name (wpAny_loadName_free I.ok.kind hk hc hcell fin hcd) hd
theorem pe_int {i j pos} : PE X (.Constant (.int i) j pos) (tC (.int i)) := fun _ _ _ H _ I h => wpAny_Constant_int ⟨.int i, H, I.tok _, ⟨_, rfl⟩, h⟩
theorem pe_bl {b j pos} : PE X (.Constant (.bool b) j pos) (tC (.bl b)) := fun _ _ _ H _ I h => Constant_bool ⟨.bl b, H, I, rfl, h⟩
theorem pe_non {j pos} : PE X (.Constant .none j pos) (tC .non) := fun _ _ _ H _ I h => Constant_none ⟨.non, H, I, rfl, h⟩
theorem pe_str {x j pos} : PE X (.Constant (.str x) j pos) (tC (.str x)) := fun _ _ _ H _ I h => Calls.Constant_str ⟨.str x, H, I.tok _, ⟨_, rfl⟩, h⟩

/-- a global name of the def -/
def Gl (X : Cx) (x : Str) : Prop := X.env.kindOf x = some .globalImplicit
theorem ld_glob {E : Value → Shared → Prop} {pins : List (Addr × Obj)} {s : Shared} {σ : St} {H : Hp} {x : Str} {u : Value} {pos : Pos} {Q : Value → Shared → Prop} (I : Inv X pins σ H s) (hg : Gl X x) (hm : X.mg x = some u) (h : Q u s)
    (hd : (x == ("__debug__" : Str)) = false := by decide) : wpAny (model X.prog X.w) X.A (eval (.Name x pos) X.env) Q E s :=
  Calls.Name_function_global I.ok.kind hg (Calls.loadGlobal_global (by rw [I.ok.glob]; exact I.mod.glob.keeps I.bk) hm h) hd
theorem ld_blt {E : Value → Shared → Prop} {pins : List (Addr × Obj)} {s : Shared} {σ : St} {H : Hp} {x : Str} {u : Value} {pos : Pos} {Q : Value → Shared → Prop} (I : Inv X pins σ H s) (hg : Gl X x) (hm : X.mg x = none) (hv : bootBuiltins x = some u) (h : Q u s)
    (hn : x ≠ "__name__" := by decide) (hd : (x == ("__debug__" : Str)) = false := by decide) : wpAny (model X.prog X.w) X.A (eval (.Name x pos) X.env) Q E s := by
  obtain ⟨mb, h1, h2⟩ := I.mod.blt
  exact Calls.Name_function_global I.ok.kind hg (Calls.loadGlobal_builtin (by rw [I.ok.glob]; exact I.mod.glob.keeps I.bk) hm (by rw [I.ok.blt]; exact h1.keeps I.bk) ((h2 x hn).trans hv) h) hd
/-- a module's constant, a class, a function, as a value -/
theorem pe_glob {x : Str} {v : V} {u : Value} {pos : Pos} (hg : Gl X x) (hm : X.mg x = some u) (r : RelV v u) (hd : (x == ("__debug__" : Str)) = false := by decide) : PE X (.Name x pos) (tC v) :=
  fun _ _ _ H _ I h => ld_glob I hg hm ⟨v, H, I, r, h⟩ hd
theorem pe_bltn {x : Str} {v : V} {u : Value} {pos : Pos} (hg : Gl X x) (hm : X.mg x = none) (hv : bootBuiltins x = some u) (r : RelV v u) (hn : x ≠ "__name__" := by decide) (hd : (x == ("__debug__" : Str)) = false := by decide) : PE X (.Name x pos) (tC v) :=
  fun _ _ _ H _ I h => ld_blt I hg hm hv ⟨v, H, I, r, h⟩ hn hd

/-! ### arithmetic -/
/-- two ints -/
def t2I (ta tb : TE) (k : Int → Int → Hp → Prop) : St → Hp → Prop := fun σ H => ta σ H fun x H1 => tb σ H1 fun y H2 => ∃ i j, x = .int i ∧ y = .int j ∧ k i j H2
def tAdd (ta tb : TE) : TE := fun σ H Q => t2I ta tb (fun i j H2 => Q (.int (i + j)) H2) σ H
def tSub (ta tb : TE) : TE := fun σ H Q => t2I ta tb (fun i j H2 => Q (.int (i - j)) H2) σ H
/-- the left factor below 2^64 -/
def tMul (ta tb : TE) : TE := fun σ H Q => t2I ta tb (fun i j H2 => (-(2 ^ 64) < i ∧ i < 2 ^ 64) ∧ Q (.int (i * j)) H2) σ H
variable {a b : Expr} {ta tb : TE} {pos : Pos}
theorem pe_add (ha : PE X a ta) (hb : PE X b tb) : PE X (.BinOp a .Add b pos) (tAdd ta tb) := by
  intro pins s σ H Q I h
  refine wpAny_BinOp (bin ha hb I h fun v u s2 x y H2 I2 rx ry q => ?_)
  obtain ⟨i, j, rfl, rfl, q⟩ := q
  obtain ⟨t, rfl⟩ := rx
  obtain ⟨t', rfl⟩ := ry
  exact add_int ⟨.int _, H2, I2.tok _, ⟨_, rfl⟩, q⟩
theorem pe_sub (ha : PE X a ta) (hb : PE X b tb) : PE X (.BinOp a .Sub b pos) (tSub ta tb) := by
  intro pins s σ H Q I h
  refine wpAny_BinOp (bin ha hb I h fun v u s2 x y H2 I2 rx ry q => ?_)
  obtain ⟨i, j, rfl, rfl, q⟩ := q
  obtain ⟨t, rfl⟩ := rx
  obtain ⟨t', rfl⟩ := ry
  exact sub_int ⟨.int _, H2, I2.tok _, ⟨_, rfl⟩, q⟩
theorem pe_mul (ha : PE X a ta) (hb : PE X b tb) : PE X (.BinOp a .Mult b pos) (tMul ta tb) := by
  intro pins s σ H Q I h
  refine wpAny_BinOp (bin ha hb I h fun v u s2 x y H2 I2 rx ry q => ?_)
  obtain ⟨i, j, rfl, rfl, ⟨q1, q2⟩, q⟩ := q
  obtain ⟨t, rfl⟩ := rx
  obtain ⟨t', rfl⟩ := ry
  exact mul_int ⟨.int _, H2, I2.tok _, ⟨_, rfl⟩, q⟩ (.of_left (intBits_le_64 q1 q2))

/-! ### comparisons -/
def PC (X : Cx) (op : CmpOp) (a b : Expr) (t : TE) : Prop :=
  ∀ (pins : List (Addr × Obj)) (s : Shared) (σ : St) (H : Hp) (Q : VK), Inv X pins σ H s → t σ H Q →
    wpAny (model X.prog X.w) X.A (eval a X.env) (fun v s₁ => wpAny (model X.prog X.w) X.A (eval b X.env) (fun u s₂ => wpAny (model X.prog X.w) X.A (compareOp op v u) (EP X pins σ Q) X.xe s₂) X.xe s₁) X.xe s
theorem nobehind (b : Expr) {op : CmpOp} (h : op ≠ .In) (h2 : op ≠ .NotIn) : behindInMarks op b = false := by
  have e1 : (op == CmpOp.In) = false := by cases op <;> first | rfl | exact absurd rfl h
  have e2 : (op == CmpOp.NotIn) = false := by cases op <;> first | rfl | exact absurd rfl h2
  cases b <;> simp [behindInMarks, e1, e2]
def tCmp (p : Int → Int → Bool) (ta tb : TE) : TE := fun σ H Q => t2I ta tb (fun i j H2 => Q (.bl (p i j)) H2) σ H
abbrev tLt : TE → TE → TE := tCmp fun i j => decide (i < j)
abbrev tLe : TE → TE → TE := tCmp fun i j => decide (i ≤ j)
abbrev tGt : TE → TE → TE := tCmp fun i j => decide (j < i)
abbrev tGe : TE → TE → TE := tCmp fun i j => decide (j ≤ i)
abbrev tEqI : TE → TE → TE := tCmp fun i j => decide (i = j)
abbrev tNeI : TE → TE → TE := tCmp fun i j => !decide (i = j)
/-- a comparison of two ints, by its rule -/
theorem pc_int {op : CmpOp} {p : Int → Int → Bool} (ha : PE X a ta) (hb : PE X b tb)
    (rule : ∀ (i j : Int) (t u : Tok) (Q : Value → Shared → Prop) (s : Shared), Q (.bool (p i j)) s → wpAny (model X.prog X.w) X.A (compareOp op (.int i t) (.int j u)) Q X.xe s) : PC X op a b (tCmp p ta tb) := by
  intro pins s σ H Q I h
  refine bin ha hb I h fun v u s2 x y H2 I2 rx ry q => ?_
  obtain ⟨i, j, rfl, rfl, q⟩ := q
  obtain ⟨t, rfl⟩ := rx
  obtain ⟨t', rfl⟩ := ry
  exact rule i j t t' _ s2 ⟨.bl _, H2, I2, rfl, q⟩
theorem pc_lt (ha : PE X a ta) (hb : PE X b tb) : PC X .Lt a b (tLt ta tb) := pc_int ha hb fun _ _ _ _ _ _ h => lt_int h
theorem pc_le (ha : PE X a ta) (hb : PE X b tb) : PC X .LtE a b (tLe ta tb) := pc_int ha hb fun _ _ _ _ _ _ h => le_int h
theorem pc_gt (ha : PE X a ta) (hb : PE X b tb) : PC X .Gt a b (tGt ta tb) := pc_int ha hb fun _ _ _ _ _ _ h => gt_int h
theorem pc_ge (ha : PE X a ta) (hb : PE X b tb) : PC X .GtE a b (tGe ta tb) := pc_int ha hb fun _ _ _ _ _ _ h => ge_int h
theorem pc_eqI (ha : PE X a ta) (hb : PE X b tb) : PC X .Eq a b (tEqI ta tb) := pc_int ha hb fun _ _ _ _ _ _ h => eq_int (by rw [Bool.beq_eq_decide_eq]; exact h)
theorem pc_neI (ha : PE X a ta) (hb : PE X b tb) : PC X .NotEq a b (tNeI ta tb) := pc_int ha hb fun _ _ _ _ _ _ h => ne_int (by rw [bne, Bool.beq_eq_decide_eq]; exact h)
/-- is None -/
def tIsN (ta : TE) : TE := fun σ H Q => ta σ H fun x H1 => Q (.bl (decide (x = .non))) H1
def tNotN (ta : TE) : TE := fun σ H Q => ta σ H fun x H1 => Q (.bl (!decide (x = .non))) H1
theorem RelV.none_iff {x : V} {v : Value} (r : RelV x v) : (v == Value.none) = decide (x = .non) := by
  cases x with
  | non => cases r; rfl
  | bl _ => cases r; rfl
  | int _ => obtain ⟨t, rfl⟩ := r; rfl
  | str _ => obtain ⟨t, rfl⟩ := r; rfl
  | byt _ => obtain ⟨t, rfl⟩ := r; rfl
  | flt _ => obtain ⟨t, rfl⟩ := r; rfl
  | ref _ => cases r; rfl
  | ty _ => cases r; rfl
theorem pc_isN {j pos'} (ha : PE X a ta) : PC X .Is a (.Constant .none j pos') (tIsN ta) := by
  intro pins s σ H Q I h
  refine thn (ha pins s σ H _ I h) fun v s1 ⟨x, H1, I1, r1, q1⟩ => ?_
  exact Constant_none (is_none_gen ⟨.bl _, H1, I1, by rw [r1.none_iff]; rfl, q1⟩)
theorem pc_notN {j pos'} (ha : PE X a ta) : PC X .IsNot a (.Constant .none j pos') (tNotN ta) := by
  intro pins s σ H Q I h
  refine thn (ha pins s σ H _ I h) fun v s1 ⟨x, H1, I1, r1, q1⟩ => ?_
  exact Constant_none (isnot_none_gen ⟨.bl _, H1, I1, by rw [r1.none_iff]; rfl, q1⟩)
/-- a comparison as a value, as a test -/
def tB (t : TE) : TT := fun σ H Q => t σ H fun x H1 => ∃ c, x = .bl c ∧ Q c H1
theorem pe_cmp {op : CmpOp} {t : TE} (h : PC X op a b t) (h1 : behindInMarks op b = false := by first | exact nobehind _ (by decide) (by decide) | rfl) : PE X (.Compare a [op] [b] pos) t := fun pins s σ H Q I hw => wpAny_Compare1 (h pins s σ H Q I hw) h1
theorem pt_cmp {op : CmpOp} {t : TE} (h : PC X op a b t) (h1 : behindInMarks op b = false := by first | exact nobehind _ (by decide) (by decide) | rfl) : PT X (.Compare a [op] [b] pos) (tB t) := by
  intro pins s σ H Q I hw
  refine wpAny_isTrue_Compare1 (thn (h pins s σ H _ I hw) fun v s1 h1 => thn h1 fun u s2 h2 => thn h2 fun c s3 ⟨x, H1, I1, r1, q1⟩ => ?_) h1
  obtain ⟨d, rfl, q⟩ := q1
  cases r1
  exact wpAny_truthy_bool ⟨H1, I1, q⟩
/-- an expression whose value is a bool, as a test -/
theorem pt_val {e : Expr} {t : TE} (h : PE X e t) (he : ∀ whole, isTrue e X.env whole = (do let v ← whole; standAt e.pos; holding [v] (truthy v)) := by intro _; rfl) : PT X e (tB t) := by
  intro pins s σ H Q I hw
  refine isTrue_plain (thn (h pins s σ H _ I hw) fun v s1 ⟨x, H1, I1, r1, q1⟩ => ?_) (he _)
  obtain ⟨d, rfl, q⟩ := q1
  cases r1
  exact wpAny_truthy_bool ⟨H1, I1, q⟩

/-! ### and, or, not -/
variable {tA tB' : TT} {rest : List Expr}
def tAnd (t u : TT) : TT := fun σ H Q => t σ H fun c H1 => if c = true then u σ H1 Q else Q false H1
def tOr (t u : TT) : TT := fun σ H Q => t σ H fun c H1 => if c = true then Q true H1 else u σ H1 Q
def tNot (t : TT) : TT := fun σ H Q => t σ H fun c H1 => Q (!c) H1
theorem pw_and1 (ha : PT X a tA) : PW X (.BoolOp .And [a] pos) tA := by
  intro wh pins s σ H Q I h
  refine isTrue_and (thn (ha pins s σ H Q I h) fun c s1 e => ?_)
  cases c with
  | true => exact isTrue_and_nil e
  | false => exact e
theorem pw_or1 (ha : PT X a tA) : PW X (.BoolOp .Or [a] pos) tA := by
  intro wh pins s σ H Q I h
  refine isTrue_or (thn (ha pins s σ H Q I h) fun c s1 e => ?_)
  cases c with
  | false => exact isTrue_or_nil e
  | true => exact e
theorem pw_and (ha : PT X a tA) (hb : PW X (.BoolOp .And (b :: rest) pos) tB') : PW X (.BoolOp .And (a :: b :: rest) pos) (tAnd tA tB') := by
  intro wh pins s σ H Q I h
  refine isTrue_and (thn (ha pins s σ H _ I h) fun c s1 ⟨H1, I1, q1⟩ => ?_)
  cases c with
  | true => exact hb wh pins s1 σ H1 Q I1 q1
  | false => exact ⟨H1, I1, q1⟩
theorem pw_or (ha : PT X a tA) (hb : PW X (.BoolOp .Or (b :: rest) pos) tB') : PW X (.BoolOp .Or (a :: b :: rest) pos) (tOr tA tB') := by
  intro wh pins s σ H Q I h
  refine isTrue_or (thn (ha pins s σ H _ I h) fun c s1 ⟨H1, I1, q1⟩ => ?_)
  cases c with
  | true => exact ⟨H1, I1, q1⟩
  | false => exact hb wh pins s1 σ H1 Q I1 q1
theorem pt_not (ha : PT X a tA) : PT X (.UnaryOp .Not a pos) (tNot tA) := by
  intro pins s σ H Q I h
  exact isTrue_not (ha pins s σ H (fun c H1 => Q (!c) H1) I h)
/-- .. as values (bools) -/
def tAndV (ta tb : TE) : TE := fun σ H Q => ta σ H fun x H1 => ∃ c, x = .bl c ∧ if c = true then tb σ H1 Q else Q (.bl false) H1
def tOrV (ta tb : TE) : TE := fun σ H Q => ta σ H fun x H1 => ∃ c, x = .bl c ∧ if c = true then Q (.bl true) H1 else tb σ H1 Q
def tNotV (ta : TE) : TE := fun σ H Q => ta σ H fun x H1 => ∃ c, x = .bl c ∧ Q (.bl (!c)) H1
theorem pe_one {op} {t : TE} (h : PE X a t) : PE X (.BoolOp op [a] pos) t := fun pins s σ H Q I hw => BoolOp_one (h pins s σ H Q I hw)
theorem pe_and (ha : PE X a ta) (hb : PE X (.BoolOp .And (b :: rest) pos) tb) : PE X (.BoolOp .And (a :: b :: rest) pos) (tAndV ta tb) := by
  intro pins s σ H Q I h
  refine BoolOp_and (thn (ha pins s σ H _ I h) fun v s1 ⟨x, H1, I1, r1, q1⟩ => ?_)
  obtain ⟨c, rfl, q1⟩ := q1
  cases r1
  refine wpAny_truthy_bool ?_
  cases c with
  | true => exact hb pins s1 σ H1 Q I1 q1
  | false => exact ⟨.bl false, H1, I1, rfl, q1⟩
theorem pe_or (ha : PE X a ta) (hb : PE X (.BoolOp .Or (b :: rest) pos) tb) : PE X (.BoolOp .Or (a :: b :: rest) pos) (tOrV ta tb) := by
  intro pins s σ H Q I h
  refine BoolOp_or (thn (ha pins s σ H _ I h) fun v s1 ⟨x, H1, I1, r1, q1⟩ => ?_)
  obtain ⟨c, rfl, q1⟩ := q1
  cases r1
  refine wpAny_truthy_bool ?_
  cases c with
  | false => exact hb pins s1 σ H1 Q I1 q1
  | true => exact ⟨.bl true, H1, I1, rfl, q1⟩
theorem pe_not (ha : PE X a ta) : PE X (.UnaryOp .Not a pos) (tNotV ta) := by
  intro pins s σ H Q I h
  refine UnaryOp_ (thn (ha pins s σ H _ I h) fun v s1 ⟨x, H1, I1, r1, q1⟩ => ?_)
  obtain ⟨c, rfl, q1⟩ := q1
  cases r1
  exact not_of (wpAny_truthy_bool ⟨.bl (!c), H1, I1, rfl, q1⟩)
/-- a if t else b -/
def tIf (t : TT) (ta tb : TE) : TE := fun σ H Q => t σ H fun c H1 => if c = true then ta σ H1 Q else tb σ H1 Q
theorem pe_ifExp {c : Expr} (hc : PT X c tA) (ha : PE X a ta) (hb : PE X b tb) : PE X (.IfExp c a b pos) (tIf tA ta tb) := by
  intro pins s σ H Q I h
  refine wpAny_IfExp (thn (hc pins s σ H _ I h) fun d s1 ⟨H1, I1, q1⟩ => ?_)
  cases d with
  | true => exact ha pins s1 σ H1 Q I1 q1
  | false => exact hb pins s1 σ H1 Q I1 q1
end
end L2

namespace L2
open PySem PySem.Spec PyProof.Rows

/-! ### a list, a tuple that is read: tracked, frozen, or an object of the module -/
def SqL (K : PySem.W.Frag) (H : Hp) (a : Addr) (xs : List V) : Prop :=
  Rd H a (.lst xs) ∨
    ∃ (o : Obj) (its : Array Value) (n : Nat), K.lookup a = some o ∧ o.cls = .type "list" ∧ o.dict = none ∧ o.data = .seq its n ∧ its.size ≤ sizeLine ∧ Vals xs its.toList
def SqT (K : PySem.W.Frag) (H : Hp) (a : Addr) (xs : List V) : Prop :=
  Rd H a (.tup xs) ∨
    ∃ (o : Obj) (its : Array Value) (n : Nat), K.lookup a = some o ∧ o.cls = .type "tuple" ∧ o.data = .seq its n ∧ its.size ≤ sizeLine ∧ Vals xs its.toList
def absV : Value → Option V
  | .none => some .non
  | .bool b => some (.bl b)
  | .int i _ => some (.int i)
  | .str x _ => some (.str x)
  | .bytes b _ => some (.byt b)
  | .float b _ => some (.flt b)
  | .ref a => some (.ref a)
  | .type n => some (.ty n)
  | _ => none
theorem RelV.abs {x : V} {u : Value} (r : RelV x u) : absV u = some x := by
  cases x with
  | non => cases r; rfl
  | bl _ => cases r; rfl
  | int _ => obtain ⟨t, rfl⟩ := r; rfl
  | str _ => obtain ⟨t, rfl⟩ := r; rfl
  | byt _ => obtain ⟨t, rfl⟩ := r; rfl
  | flt _ => obtain ⟨t, rfl⟩ := r; rfl
  | ref _ => cases r; rfl
  | ty _ => cases r; rfl
theorem RelV.inj {x y : V} {u : Value} (r : RelV x u) (q : RelV y u) : x = y := Option.some.inj (r.abs.symm.trans q.abs)
theorem Vals.inj : ∀ {xs ys : List V} {us : List Value}, Vals xs us → Vals ys us → xs = ys
  | _, _, _, .nil, .nil => rfl
  | _, _, _, .cons r t, .cons r' t' => by rw [r.inj r', Vals.inj t t']
section
variable {X : Cx} {pins : List (Addr × Obj)} {σ : St} {H : Hp} {s : Shared} {a : Addr} {xs ys : List V}
theorem SqL.of {K : PySem.W.Frag} (h : H a = some (.lst xs)) : SqL K H a xs := .inl (.inl h)
theorem SqT.of {K : PySem.W.Frag} (h : H a = some (.tup xs)) : SqT K H a xs := .inl (.inl h)
theorem Inv.list (I : Inv X pins σ H s) (h : SqL X.K H a xs) : ∃ its : List Value, Vals xs its ∧ PlainL s.heap a its.toArray ∧ xs.length ≤ sizeLine := by
  rcases h with h | ⟨o, its, n, hk, hc, hd, hs, hz, r⟩
  · obtain ⟨z, its, n, r, e⟩ := h.ok I.hok
    exact ⟨its, r, ⟨_, n, e, rfl, rfl, rfl⟩, z⟩
  · refine ⟨its.toList, r, ⟨o, n, I.kIn a o hk, hc, hd, by simpa using hs⟩, ?_⟩
    have e := r.length
    simp only [Array.length_toList] at e
    omega
theorem Inv.tuple (I : Inv X pins σ H s) (h : SqT X.K H a xs) : ∃ its : List Value, Vals xs its ∧ IsTup s.heap a its.toArray ∧ xs.length ≤ sizeLine := by
  rcases h with h | ⟨o, its, n, hk, hc, hs, hz, r⟩
  · obtain ⟨z, its, r, p⟩ := h.ok I.hok
    exact ⟨its, r, p, z⟩
  · refine ⟨its.toList, r, ⟨o, I.kIn a o hk, hc, n, by simpa using hs⟩, ?_⟩
    have e := r.length
    simp only [Array.length_toList] at e
    omega
theorem Inv.list_inj (I : Inv X pins σ H s) (h : SqL X.K H a xs) (h' : SqL X.K H a ys) : xs = ys := by
  obtain ⟨its, r, ⟨o, n, e, _, _, d⟩, _⟩ := I.list h
  obtain ⟨its', r', ⟨o', n', e', _, _, d'⟩, _⟩ := I.list h'
  rw [e] at e'; cases e'
  rw [d] at d'
  injection d' with d1 _
  have : its = its' := by simpa using congrArg Array.toList d1
  subst this
  exact r.inj r'
theorem Inv.tuple_inj (I : Inv X pins σ H s) (h : SqT X.K H a xs) (h' : SqT X.K H a ys) : xs = ys := by
  obtain ⟨its, r, ⟨o, e, _, n, d⟩, _⟩ := I.tuple h
  obtain ⟨its', r', ⟨o', e', _, n', d'⟩, _⟩ := I.tuple h'
  rw [e] at e'; cases e'
  rw [d] at d'
  injection d' with d1 _
  have : its = its' := by simpa using congrArg Array.toList d1
  subst this
  exact r.inj r'
end

/-! ### another wish about exceptions -/
abbrev Cx.wish (X : Cx) (E : Value → Shared → Prop) : Cx := { X with xe := E }
/-- no exception leaves -/
abbrev Cx.nox (X : Cx) : Cx := X.wish fun _ _ => False
theorem Cx.Ok.wish {X : Cx} (ok : X.Ok) (E : Value → Shared → Prop) : (X.wish E).Ok :=
  ⟨ok.mod, ok.kind, ok.glob, ok.blt, ok.above, ok.inj, ok.has, ok.cab, ok.hd, ok.frames, ok.stk, ok.exf, ok.bs, ok.bsz, ok.noex, ok.exfs, ok.funs, ok.frf⟩
theorem Cx.Ok.unwish {X : Cx} {E : Value → Shared → Prop} (ok : (X.wish E).Ok) : X.Ok :=
  ⟨ok.mod, ok.kind, ok.glob, ok.blt, ok.above, ok.inj, ok.has, ok.cab, ok.hd, ok.frames, ok.stk, ok.exf, ok.bs, ok.bsz, ok.noex, ok.exfs, ok.funs, ok.frf⟩
section
variable {X : Cx} {pins : List (Addr × Obj)} {σ : St} {H : Hp} {s : Shared} {E : Value → Shared → Prop}
theorem Inv.wish (I : Inv X pins σ H s) (E : Value → Shared → Prop) : Inv (X.wish E) pins σ H s := ⟨I.ok.wish E, I.os, I.bare, I.base, I.loc, I.cell, I.free, I.freeC, I.pin, I.hok, I.len⟩
theorem Inv.unwish (I : Inv (X.wish E) pins σ H s) : Inv X pins σ H s := ⟨I.ok.unwish, I.os, I.bare, I.base, I.loc, I.cell, I.free, I.freeC, I.pin, I.hok, I.len⟩
theorem SP.unwish {D : Ends} {f : Flow} {s' : Shared} (h : SP (X.wish E) pins D f s') : SP X pins D f s' := by
  cases f with
  | next => obtain ⟨σ', H', I, q⟩ := h; exact ⟨σ', H', I.unwish, q⟩
  | brk => obtain ⟨σ', H', I, q⟩ := h; exact ⟨σ', H', I.unwish, q⟩
  | cont => obtain ⟨σ', H', I, q⟩ := h; exact ⟨σ', H', I.unwish, q⟩
  | ret u => obtain ⟨v, σ', H', I, r, q⟩ := h; exact ⟨v, σ', H', I.unwish, r, q⟩
theorem PE.nox {e : Expr} {t : TE} (h : PE X.nox e t) : PE X e t := fun pins s σ H Q I hw =>
  wpAny_mono (h pins s σ H Q (I.wish _) hw) (fun _ _ ⟨v, H', I', r, q⟩ => ⟨v, H', I'.unwish, r, q⟩) fun _ _ z => False.elim z
theorem PT.nox {e : Expr} {t : TT} (h : PT X.nox e t) : PT X e t := fun pins s σ H Q I hw =>
  wpAny_mono (h pins s σ H Q (I.wish _) hw) (fun _ _ ⟨H', I', q⟩ => ⟨H', I'.unwish, q⟩) fun _ _ z => False.elim z
theorem PSs.nox {st : List Stmt} {t : TS} (h : PSs X.nox st t) : PSs X st t := fun pins s σ H D I hw =>
  wpAny_mono (h pins s σ H D (I.wish _) hw) (fun _ _ q => q.unwish) fun _ _ z => False.elim z
end

/-! ### blocks and small statements -/
section
variable {X : Cx} {st : Stmt} {rest : List Stmt} {t u : TS} {e : Expr} {te : TE} {pos : Pos}
def tNext : TS := fun D σ H => D.nx σ H
def tSeq (t u : TS) : TS := fun D σ H => t { D with nx := u D } σ H
theorem pss_nil : PSs X [] tNext := fun _ _ σ H _ I h => wpAny_execs_nil ⟨σ, H, I, h⟩
theorem pss_cons (h1 : PS X st t) (h2 : PSs X rest u) : PSs X (st :: rest) (tSeq t u) := by
  intro pins s σ H D I h
  refine wpAny_execs_cons (thn (h1 pins s σ H { D with nx := u D } I h) fun f s1 q => ?_)
  cases f with
  | next =>
    obtain ⟨σ', H', I', q⟩ := q
    exact h2 pins s1 σ' H' D I' q
  | ret v => exact q
  | brk => exact q
  | cont => exact q
theorem pss_one (h1 : PS X st t) : PSs X [st] t := by
  intro pins s σ H D I h
  refine wpAny_execs_cons (thn (h1 pins s σ H D I h) fun f s1 q => ?_)
  cases f with
  | next => exact wpAny_execs_nil q
  | ret v => exact q
  | brk => exact q
  | cont => exact q
def tBreak : TS := fun D σ H => D.bk σ H
def tCont : TS := fun D σ H => D.ct σ H
theorem ps_pass : PS X (.Pass pos) tNext := fun _ _ σ H _ I h => wpAny_Pass ⟨σ, H, I, h⟩
theorem ps_break : PS X (.Break pos) tBreak := fun _ _ σ H _ I h => wpAny_Break ⟨σ, H, I, h⟩
theorem ps_continue : PS X (.Continue pos) tCont := fun _ _ σ H _ I h => wpAny_Continue ⟨σ, H, I, h⟩
/-- in a def's body nothing is shown -/
theorem Inv.quiet {pins : List (Addr × Obj)} {σ : St} {H : Hp} {s : Shared} (I : Inv X pins σ H s) : interactive X.env = false := by simp [interactive, I.ok.kind]
/-- a docstring -/
theorem ps_doc {x j pos pos'} : PS X (.Expr (.Constant (.str x) j pos) pos') tNext := fun _ s σ H _ I h => wpAny_Expr (Calls.Constant_str (show SP X _ _ .next { s with toks := s.toks + 1 } from ⟨σ, H, I.tok _, h⟩)) I.quiet
/-- an expression whose value is dropped -/
def tDrop (te : TE) : TS := fun D σ H => te σ H fun _ H1 => D.nx σ H1
theorem ps_expr (he : PE X e te) (hs : swapsWith e none pos.line X.env = pure false := by rfl) : PS X (.Expr e pos) (tDrop te) := by
  intro pins s σ H D I h
  exact wpAny_Expr_any (thn (he pins s σ H _ I h) fun v s1 ⟨x, H1, I1, r1, q1⟩ => ⟨σ, H1, I1, q1⟩) I.quiet hs
def tRet (te : TE) : TS := fun D σ H => te σ H D.rt
theorem ps_ret (he : PE X e te) : PS X (.Return (some e) pos) (tRet te) := by
  intro pins s σ H D I h
  exact wpAny_Return_some (thn (he pins s σ H _ I h) fun v s1 ⟨x, H1, I1, r1, q1⟩ => ⟨x, σ, H1, I1, r1, q1⟩)
def tRetN : TS := fun D _ H => D.rt .non H
theorem ps_retN : PS X (.Return none pos) tRetN := fun _ _ σ H _ I h => wpAny_Return_none ⟨.non, σ, H, I, rfl, h⟩
def tIfS (c : TT) (t u : TS) : TS := fun D σ H => c σ H fun b H1 => if b = true then t D σ H1 else u D σ H1
theorem ps_if {c : Expr} {a b : List Stmt} {tc : TT} (hc : PT X c tc) (ha : PSs X a t) (hb : PSs X b u) : PS X (.If c a b pos) (tIfS tc t u) := by
  intro pins s σ H D I h
  refine wpAny_If (thn (hc pins s σ H _ I h) fun d s1 ⟨H1, I1, q1⟩ => ?_)
  cases d with
  | true => exact ha pins s1 σ H1 D I1 q1
  | false => exact hb pins s1 σ H1 D I1 q1
/-- code that the proof never comes to -/
def tNever : TS := fun _ _ _ => False
theorem ps_never : PS X st tNever := fun _ _ _ _ _ _ h => h.elim
theorem pss_never {sts : List Stmt} : PSs X sts tNever := fun _ _ _ _ _ _ h => h.elim
end

/-! ### targets -/
abbrev TG := V → St → Hp → (St → Hp → Prop) → Prop
abbrev TGs := List V → St → Hp → (St → Hp → Prop) → Prop
def PG (X : Cx) (target : Expr) (t : TG) : Prop :=
  ∀ (pins : List (Addr × Obj)) (s : Shared) (σ : St) (H : Hp) (v : V) (u : Value) (Q : St → Hp → Prop), Inv X pins σ H s → RelV v u → t v σ H Q →
    wpAny (model X.prog X.w) X.A (assign target X.env u) (fun _ s' => ∃ σ' H', Inv X pins σ' H' s' ∧ Q σ' H') X.xe s
/-- several targets, one after another -/
def PGs (X : Cx) (ts : List Expr) (t : TGs) : Prop :=
  ∀ (pins : List (Addr × Obj)) (s : Shared) (σ : St) (H : Hp) (vs : List V) (us : List Value) (Q : St → Hp → Prop), Inv X pins σ H s → Vals vs us → t vs σ H Q →
    wpAny (model X.prog X.w) X.A (assignInOrder ((assignEach ts X.env).map (·.2)) us) (fun _ s' => ∃ σ' H', Inv X pins σ' H' s' ∧ Q σ' H') X.xe s
/-- o[i] = v, by values -/
abbrev TSet := V → V → V → Hp → (Hp → Prop) → Prop
def PSet (X : Cx) (t : TSet) : Prop :=
  ∀ (pins : List (Addr × Obj)) (s : Shared) (σ : St) (H : Hp) (o i v : V) (ov iv u : Value) (Q : Hp → Prop), Inv X pins σ H s → RelV o ov → RelV i iv → RelV v u → t o i v H Q →
    wpAny (model X.prog X.w) X.A (setItem ov iv u) (fun _ s' => ∃ H', Inv X pins σ H' s' ∧ Q H') X.xe s
/-- a op= b, by values -/
abbrev TIp := V → V → Hp → VK → Prop
def PIp (X : Cx) (op : Operator) (t : TIp) : Prop :=
  ∀ (pins : List (Addr × Obj)) (s : Shared) (σ : St) (H : Hp) (x y : V) (v u : Value) (Q : VK), Inv X pins σ H s → RelV x v → RelV y u → t x y H Q →
    wpAny (model X.prog X.w) X.A (inplaceOp op v u) (EP X pins σ Q) X.xe s
section
variable {X : Cx} {pos : Pos}
def gName (i : Nat) : TG := fun v σ H Q => Q (σ.set i (some v)) H
theorem pg_name {i : Nat} {x : Str} (hN : X.N.Nodup) (hi : X.N[i]? = some x) (hx : Loc X.env.scope x) (hf : X.fn x = true ∨ X.env.scope.names.lookup x = some .local := by first | exact .inl rfl | exact .inr rfl | assumption) : PG X (.Name x pos) (gName i) := by
  intro pins s σ H v u Q I r h
  exact wpAny_assign_Name (store_ok I hN hi hx r (fun s' I' => ⟨_, H, I', h⟩) hf)
def gNil : TGs := fun vs σ H Q => vs = [] ∧ Q σ H
def gCons (t : TG) (u : TGs) : TGs := fun vs σ H Q => ∃ v r, vs = v :: r ∧ t v σ H fun σ' H' => u r σ' H' Q
theorem pgs_nil : PGs X [] gNil := by
  intro pins s σ H vs us Q I r h
  obtain ⟨e, h⟩ := h
  subst e
  cases r
  exact assignInOrder_nil ⟨σ, H, I, h⟩
theorem pgs_cons {e : Expr} {es : List Expr} {t : TG} {u : TGs} (h1 : PG X e t) (h2 : PGs X es u)
    (hs : (assignEach (e :: es) X.env).map (·.2) = assign e X.env :: (assignEach es X.env).map (·.2) := by rfl) : PGs X (e :: es) (gCons t u) := by
  intro pins s σ H vs us Q I r h
  obtain ⟨v, vr, e1, h⟩ := h
  subst e1
  cases r with
  | cons r rr =>
    rw [hs]
    refine assignInOrder_cons (thn (h1 pins s σ H _ _ _ I r h) fun _ s1 ⟨σ1, H1, I1, q1⟩ => ?_)
    exact h2 pins s1 σ1 H1 _ _ Q I1 rr q1
/-- (a, b, ..) = a tuple of that length -/
def gTup (K : PySem.W.Frag) (n : Nat) (t : TGs) : TG := fun v σ H Q => ∃ a xs, v = .ref a ∧ SqT K H a xs ∧ xs.length = n ∧ t xs σ H Q
theorem pg_tup {es : List Expr} {k : Nat} {t : TGs} {n : Nat} (hc : X.calm = true) (h : PGs X es t)
    (hn : (assignEach es X.env).length = n := by rfl) (hst : (assignEach es X.env).findIdx? (·.1) = none := by rfl) : PG X (.Tuple es k pos) (gTup X.K n t) := by
  intro pins s σ H v u Q I r hw
  obtain ⟨a, xs, e1, hq, hl, hw⟩ := hw
  subst e1
  cases r
  obtain ⟨its, rv, ht, hz⟩ := I.tuple hq
  refine assign_Tuple_tuple (I.ok.hd hc) ht (by simp [hn, ← hl, rv.length]) hst fun h' hx => ?_
  have I1 : Inv X pins σ H { s with heap := h' } := I.kept (t' := s.toks) fun b o e => hx b o (Nat.ne_of_lt (Heap.lt_size e)) e
  exact h pins _ σ H xs _ Q I1 (by simpa using rv) hw
/-- o[i] = .. -/
def gSub (to ti : TE) (t : TSet) : TG := fun v σ H Q => to σ H fun o H1 => ti σ H1 fun i H2 => t o i v H2 fun H3 => Q σ H3
theorem pg_sub {o i : Expr} {to ti : TE} {t : TSet} (ho : PE X o to) (hi : PE X i ti) (hs : PSet X t)
    (ha : ∀ v, assign (.Subscript o i pos) X.env v = (do
      let ov ← holding [v] (eval o X.env)
      let iv ← holding [v, ov] (eval i X.env)
      standAt pos
      holding [v, ov, iv] (setItem ov iv v)
      release [v, ov, iv] []) := by intro _; rfl) : PG X (.Subscript o i pos) (gSub to ti t) := by
  intro pins s σ H v u Q I r h
  rw [ha]
  refine wpAny_bind (wpAny_holding (thn (ho pins s σ H _ I h) fun ov s1 ⟨x, H1, I1, r1, q1⟩ => ?_))
  refine wpAny_bind (wpAny_holding (thn (hi pins s1 σ H1 _ I1 q1) fun iv s2 ⟨y, H2, I2, r2, q2⟩ => ?_))
  refine wpAny_bind (wpAny_standAt (wpAny_bind (wpAny_holding (thn (hs pins s2 σ H2 x y v ov iv u _ I2 r1 r2 r q2) fun _ s3 ⟨H3, I3, q3⟩ => ?_))))
  exact wpAny_release ⟨σ, H3, I3, q3⟩
/-- target = value -/
def tAsg (te : TE) (g : TG) : TS := fun D σ H => te σ H fun x H1 => g x σ H1 D.nx
theorem ps_asg {tg e : Expr} {te : TE} {g : TG} (he : PE X e te) (hg : PG X tg g) (hs : swapsWithSole [tg] e pos.line X.env = pure false := by rfl) (hw : swappedStores [tg] e X.env = pure none := by rfl)
    (h1 : (assignEach [tg] X.env).map (·.2) = [assign tg X.env] := by rfl) : PS X (.Assign [tg] e pos) (tAsg te g) := by
  intro pins s σ H D I h
  refine wpAny_Assign_stores (thn (he pins s σ H _ I h) fun v s1 ⟨x, H1, I1, r1, q1⟩ => ?_) hs hw
  rw [h1]
  exact thn (hg pins s1 σ H1 x v _ I1 r1 q1) fun _ s2 q => q
/-- name = value -/
theorem ps_set {i : Nat} {x : Str} {e : Expr} {te : TE} {pos' : Pos} (hN : X.N.Nodup) (hi : X.N[i]? = some x) (hx : Loc X.env.scope x) (he : PE X e te) (hs : swapsWith e (some (.Name x pos')) pos.line X.env = pure false := by rfl) (hf : X.fn x = true ∨ X.env.scope.names.lookup x = some .local := by first | exact .inl rfl | exact .inr rfl | assumption) :
    PS X (.Assign [.Name x pos'] e pos) (tAsg te (gName i)) := by
  intro pins s σ H D I h
  refine wpAny_Assign_Name (thn (he pins s σ H _ I h) fun v s1 ⟨y, H1, I1, r1, q1⟩ => ?_) hs
  exact store_ok I1 hN hi hx r1 (fun s2 I2 => ⟨_, H1, I2, q1⟩) hf
/-- a, b = x, y with plain local names: stored from the right; the pair itself is not tracked (the opening rows as in PyProof/Rows/TupAssign.lean:23) -/
def tPar (i j : Nat) (ta : TA) : TS := fun D σ H => ta σ H fun vs H1 => ∃ v w, vs = [v, w] ∧ D.nx ((σ.set i (some v)).set j (some w)) H1
theorem ps_par {i j : Nat} {x y : Str} {a b : Expr} {ta : TA} {px py pt : Pos} {kt k2 pt2} (hc : X.calm = true) (hN : X.N.Nodup) (hi : X.N[i]? = some x) (hj : X.N[j]? = some y) (hij : i ≠ j)
    (hx : X.env.scope.names.lookup x = some .local) (hy : X.env.scope.names.lookup y = some .local) (ha : PA X [a, b] ta)
    (hw : swappedStores [.Tuple [.Name x px, .Name y py] kt pt] (.Tuple [a, b] k2 pt2) X.env = pure (some [x, y]))
    (hs : swapsWithSole [.Tuple [.Name x px, .Name y py] kt pt] (.Tuple [a, b] k2 pt2) pos.line X.env = pure false := by rfl) :
    PS X (.Assign [.Tuple [.Name x px, .Name y py] kt pt] (.Tuple [a, b] k2 pt2) pos) (tPar i j ta) := by
  intro pins s σ H D I h
  rw [exec_Assign_arm]
  refine wpAny_bind (wpAny_standAt ?_)
  rw [hs]
  refine wpAny_bind (wpAny_pure ?_)
  rw [if_neg (by decide)]
  refine wpAny_bind (Tuple_ (thn (ha _ pins s σ H _ I h) fun us s1 ⟨vs, H1, I1, r1, q1⟩ => ?_))
  obtain ⟨v, w, e1, q1⟩ := q1
  subst e1
  obtain ⟨u1, u2, rfl, rv, rw'⟩ : ∃ u1 u2, us = [u1, u2] ∧ RelV v u1 ∧ RelV w u2 := by
    cases r1 with
    | cons p q =>
      cases q with
      | cons p' q' =>
        cases q'
        exact ⟨_, _, rfl, p, p'⟩
  refine wpAny_newObj_type ?_ (by show 2 ≤ sizeLine; decide)
  have I2 : Inv X pins σ H1 { s1 with heap := s1.heap.push { cls := .type "tuple", data := .seq [u1, u2].toArray } } := I1.kept (t' := s1.toks) fun b o e => Heap.get?_push_of_some _ e
  rw [hw]
  refine wpAny_bind (wpAny_pure ?_)
  show wpAny (model X.prog X.w) X.A (do rule "assign.swapped-stores"; let items ← unpackItems (.ref s1.heap.objs.size) 2 none; assignInOrder [fun v => bindName X.env y v, fun v => bindName X.env x v] items.reverse; pure Flow.next) _ _ _
  refine wpAny_bind (wpAny_rule (wpAny_bind (unpackItems_tuple (items := #[u1, u2]) (I.ok.hd hc) (IsTup.new s1.heap _) fun h' hx' => ?_)))
  have I3 := I2.kept (h' := h') (t' := s1.toks) fun b o e => hx' b o (Nat.ne_of_lt (Heap.lt_size e)) e
  show wpAny _ _ (assignInOrder [fun v => bindName X.env y v, fun v => bindName X.env x v] [u2, u1] >>= fun _ => pure Flow.next) _ _ _
  refine wpAny_bind (assignInOrder_cons (wpAny_bindName (store_ok I3 hN hj (.inl hy) rw' (fun s2 I4 => ?_) (.inr hy))))
  refine assignInOrder_cons (wpAny_bindName (store_ok I4 hN hi (.inl hx) rv (fun s3 I5 => assignInOrder_nil (wpAny_pure ?_)) (.inr hx)))
  rw [List.set_comm _ _ (Ne.symm hij)] at I5
  exact ⟨_, H1, I5, q1⟩
/-- name op= e -/
def tAug (i : Nat) (te : TE) (ti : TIp) : TS := fun D σ H => ∃ x, σ[i]? = some (some x) ∧ te σ H fun y H1 => ti x y H1 fun z H2 => D.nx (σ.set i (some z)) H2
theorem ps_aug {i : Nat} {x : Str} {e : Expr} {te : TE} {op : Operator} {ti : TIp} {pos' : Pos} (hN : X.N.Nodup) (hi : X.N[i]? = some x) (hx : Loc X.env.scope x) (he : PE X e te) (ho : PIp X op ti) (hf : X.fn x = true ∨ X.env.scope.names.lookup x = some .local := by first | exact .inl rfl | exact .inr rfl | assumption) :
    PS X (.AugAssign (.Name x pos') op e pos) (tAug i te ti) := by
  intro pins s σ H D I h
  obtain ⟨v, e1, h⟩ := h
  obtain ⟨m, hn, hl⟩ := I.loc
  have vis : Vis X.env.scope x := by rcases hx with k | k; exact .inl k; exact .inr (.inl k)
  obtain ⟨u, r, l⟩ := hl i x v hi e1 vis
  refine wpAny_AugAssign_Name ?_
  have go : wpAny (model X.prog X.w) X.A (eval e X.env) (fun w s₂ => wpAny (model X.prog X.w) X.A (inplaceOp op u w) (fun r s₃ => wpAny (model X.prog X.w) X.A (storeName X.env x r) (fun _ => SP X pins D .next) X.xe s₃) X.xe s₂) X.xe s := by
    refine thn (he pins s σ H _ I h) fun w s1 ⟨y, H1, I1, r1, q1⟩ => ?_
    refine thn (ho pins s1 σ H1 v y u w _ I1 r r1 q1) fun z s2 ⟨zv, H2, I2, r2, q2⟩ => ?_
    exact store_ok I2 hN hi hx r2 (fun s3 I3 => ⟨_, H2, I3, q2⟩) hf
  rcases l with ⟨hk, hm⟩ | ⟨hk, c, hc, hcell⟩
  · exact wpAny_loadName_local I.ok.kind hk hn hm go
  · rcases hk with hk | hk
    · exact wpAny_loadName_cell I.ok.kind hk hc hcell go
    · rcases hx with k | k
      · have : X.env.scope.names.lookup x = some .free := hk
        rw [k] at this; cases this
      · have : X.env.scope.names.lookup x = some .free := hk
        rw [k] at this; cases this
/-- o[i] op= e -/
def tAugS (to ti te : TE) (tget : V → V → Hp → VK → Prop) (tip : TIp) (tset : TSet) : TS := fun D σ H => to σ H fun o H1 => ti σ H1 fun i H2 => tget o i H2 fun x H3 => te σ H3 fun y H4 => tip x y H4 fun z H5 => tset o i z H5 fun H6 => D.nx σ H6
/-- o[i], by values -/
def PGet (X : Cx) (t : V → V → Hp → VK → Prop) : Prop :=
  ∀ (pins : List (Addr × Obj)) (s : Shared) (σ : St) (H : Hp) (o i : V) (ov iv : Value) (Q : VK), Inv X pins σ H s → RelV o ov → RelV i iv → t o i H Q →
    wpAny (model X.prog X.w) X.A (getItem ov iv) (EP X pins σ Q) X.xe s
theorem ps_augS {o i e : Expr} {to ti te : TE} {tget : V → V → Hp → VK → Prop} {tip : TIp} {tset : TSet} {op : Operator} {tpos : Pos} (ho : PE X o to) (hi : PE X i ti) (hg : PGet X tget) (he : PE X e te) (hp : PIp X op tip) (hs : PSet X tset)
    (ha : ∀ ov iv new, augStore i ov iv new = (do holding [new, ov, iv] (setItem ov iv new); release [new, ov, iv] []; pure .next) := by intros; rfl) : PS X (.AugAssign (.Subscript o i tpos) op e pos) (tAugS to ti te tget tip tset) := by
  intro pins s σ H D I h
  refine wpAny_AugAssign_SubscriptAny (thn (ho pins s σ H _ I h) fun ov s1 ⟨x1, H1, I1, r1, q1⟩ => ?_) ha
  refine thn (hi pins s1 σ H1 _ I1 q1) fun iv s2 ⟨x2, H2, I2, r2, q2⟩ => ?_
  refine thn (hg pins s2 σ H2 x1 x2 ov iv _ I2 r1 r2 q2) fun old s3 ⟨x3, H3, I3, r3, q3⟩ => ?_
  refine thn (he pins s3 σ H3 _ I3 q3) fun v s4 ⟨x4, H4, I4, r4, q4⟩ => ?_
  refine thn (hp pins s4 σ H4 x3 x4 old v _ I4 r3 r4 q4) fun new s5 ⟨x5, H5, I5, r5, q5⟩ => ?_
  exact thn (hs pins s5 σ H5 x1 x2 x5 ov iv new _ I5 r1 r2 r5 q5) fun _ s6 ⟨H6, I6, q6⟩ => ⟨σ, H6, I6, q6⟩
/-- ints -/
def ipI (f : Int → Int → Int) : TIp := fun x y H Q => ∃ i j, x = .int i ∧ y = .int j ∧ Q (.int (f i j)) H
theorem ip_add : PIp X .Add (ipI fun i j => i + j) := by
  intro pins s σ H x y v u Q I r1 r2 h
  obtain ⟨i, j, e1, e2, q⟩ := h
  subst e1; subst e2
  obtain ⟨t, rfl⟩ := r1
  obtain ⟨t', rfl⟩ := r2
  exact iadd_int ⟨.int _, H, I.tok _, ⟨_, rfl⟩, q⟩
theorem ip_sub : PIp X .Sub (ipI fun i j => i - j) := by
  intro pins s σ H x y v u Q I r1 r2 h
  obtain ⟨i, j, e1, e2, q⟩ := h
  subst e1; subst e2
  obtain ⟨t, rfl⟩ := r1
  obtain ⟨t', rfl⟩ := r2
  exact isub_int ⟨.int _, H, I.tok _, ⟨_, rfl⟩, q⟩
end

/-! ### while -/
section
variable {X : Cx} {pos : Pos}
/-- the invariant W with its measure -/
def tWhile (c : TT) (tb : TS) : TS := fun D σ H => ∃ W : Nat → St → Hp → Prop, (∃ m, W m σ H) ∧ ∀ m σ H, W m σ H →
  c σ H fun b H1 => if b = true then ∃ N : St → Hp → Prop, (∀ σ' H', N σ' H' → ∃ m', m' < m ∧ W m' σ' H') ∧ tb { D with nx := N, ct := N, bk := D.nx } σ H1 else D.nx σ H1
theorem ps_while {c : Expr} {body : List Stmt} {tc : TT} {tb : TS} (hp : PassesOwn (model X.prog X.w) X.A X.env X.xe) (hc : PT X c tc) (hb : PSs X body tb) : PS X (.While c body [] pos) (tWhile tc tb) := by
  intro pins s σ H D I h
  obtain ⟨W, ⟨m0, w0⟩, turn⟩ := h
  refine wpAny_While (codeAny_whileLoop (fun n s' => ∃ σ' H', Inv X pins σ' H' s' ∧ W n σ' H') ?_ m0 ⟨σ, H, I, w0⟩)
  rintro n s1 ⟨σ1, H1, I1, w1⟩
  refine wpAny_passesOwn hp (thn (hc pins s1 σ1 H1 _ I1 (turn n σ1 H1 w1)) fun b s2 ⟨H2, I2, q2⟩ => ?_)
  cases b with
  | true =>
    obtain ⟨N, hN, q2⟩ := q2
    rw [if_pos rfl]
    refine wpAny_passesOwn hp (thn (hb pins s2 σ1 H2 _ I2 q2) fun f s3 q3 => ?_)
    cases f with
    | next =>
      obtain ⟨σ3, H3, I3, n3⟩ := q3
      obtain ⟨m', hm, w3⟩ := hN σ3 H3 n3
      exact ⟨m', hm, σ3, H3, I3, w3⟩
    | cont =>
      obtain ⟨σ3, H3, I3, n3⟩ := q3
      obtain ⟨m', hm, w3⟩ := hN σ3 H3 n3
      exact ⟨m', hm, σ3, H3, I3, w3⟩
    | brk => exact q3
    | ret v => exact q3
  | false =>
    rw [if_neg Bool.false_ne_true]
    exact wpAny_execs_nil ⟨σ1, H2, I2, q2⟩
end

/-! ### what a loop or a comprehension walks -/
/-- at turn i: it yields x (the heap may grow), or it stops -/
structure It where
  go : Nat → Hp → Prop
  yld : Nat → Hp → V → Hp → Prop
  stop : Nat → Hp → Prop
/-- the iterator's own objects may turn: they are not the frame's, not pinned, younger than the entry (or a comprehension's own) -/
def FpOk (X : Cx) (pins : List (Addr × Obj)) (H : Hp) (b : Addr) : Prop :=
  H b = none ∧ b ≠ X.env.locals ∧ b ∉ X.fs ∧ (b ∈ X.ex ∨ X.s₀.heap.objs.size ≤ b) ∧ (∀ x c, X.env.cells.lookup x = some c → c ≠ b) ∧ ∀ p ∈ X.pn ++ pins, p.1 ≠ b
theorem Inv.fpOk {X : Cx} {pins : List (Addr × Obj)} {σ : St} {H H' : Hp} {s : Shared} {b : Addr} (I : Inv X pins σ H s) (hb : s.heap.objs.size ≤ b) (hn : H' b = none) : FpOk X pins H' b := by
  refine ⟨hn, Nat.ne_of_gt (Nat.lt_of_lt_of_le I.lt hb), I.nofs hb, .inr (Nat.le_trans I.sz hb), fun x c e z => ?_, fun p hp z => ?_⟩
  · obtain ⟨v, q⟩ := I.cell x c e
    exact absurd (Nat.lt_of_lt_of_le q.lt (by rw [z]; exact hb)) (Nat.lt_irrefl _)
  · exact absurd (Nat.lt_of_lt_of_le (Heap.lt_size (I.pin p hp).1) (by rw [z]; exact hb)) (Nat.lt_irrefl _)
structure Turn (P : Program) (w : World) (K : PySem.W.Frag) (tg : Expr) (J : It) (fp : List Addr) (it : Addr) (tn : Nat → Heap → Prop) : Prop where
  mem : it ∈ fp
  obj : ∀ i h, tn i h → ∀ b ∈ fp, ∃ o, h.get? b = some o ∧ ∀ v, o.data ≠ .cell v
  keep : ∀ i h h', tn i h → (∀ b ∈ fp, ∀ o, h.get? b = some o → h'.get? b = some o) → tn i h'
  item : ∀ (X : Cx), X.prog = P → X.w = w → X.K = K → X.calm = true → ∀ (i : Nat) (pins : List (Addr × Obj)) (s : Shared) (σ : St) (H : Hp) (E : Value → Shared → Prop), Inv X pins σ H s → (∀ b ∈ fp, FpOk X pins H b) → tn i s.heap → J.go i H →
    wpAny (model P w) X.A (pyNext (.ref it)) (fun r s1 => ∃ u, r = some u ∧
      wpAny (model P w) X.A (letOwnedTupleGo tg (.ref it) u) (fun _ s2 => ∃ x H', Inv X pins σ H' s2 ∧ RelV x u ∧ J.yld i H x H' ∧ tn (i + 1) s2.heap ∧ ∀ b ∈ fp, H' b = none) E s1) E s
  done : ∀ (X : Cx), X.prog = P → X.w = w → X.K = K → X.calm = true → ∀ (i : Nat) (pins : List (Addr × Obj)) (s : Shared) (σ : St) (H : Hp) (E : Value → Shared → Prop), Inv X pins σ H s → (∀ b ∈ fp, FpOk X pins H b) → tn i s.heap → J.stop i H →
    wpAny (model P w) X.A (pyNext (.ref it)) (fun r s1 => r = none ∧ Inv X pins σ H s1) E s
  self : ∀ (A : Around) (i : Nat) (s : Shared) (Q : Value → Shared → Prop) (E : Value → Shared → Prop), tn i s.heap → Q (.ref it) s → wpAny (model P w) A (pyIter (.ref it)) Q E s
abbrev TI := St → Hp → (It → Hp → Prop) → Prop
/-- an iterator has come -/
def PIE (X : Cx) (pins : List (Addr × Obj)) (σ : St) (tg : Expr) (R : It → Hp → Prop) (itv : Value) (s2 : Shared) : Prop :=
  ∃ (it : Addr) (fp : List Addr) (tn : Nat → Heap → Prop) (J : It) (H' : Hp), itv = .ref it ∧ Inv X pins σ H' s2 ∧ Turn X.prog X.w X.K tg J fp it tn ∧ tn 0 s2.heap ∧ (∀ b ∈ fp, FpOk X pins H' b) ∧ R J H'
def PI (X : Cx) (tg iter : Expr) (wi : TI) : Prop :=
  ∀ (pins : List (Addr × Obj)) (s : Shared) (σ : St) (H : Hp) (R : It → Hp → Prop), Inv X pins σ H s → wi σ H R →
    wpAny (model X.prog X.w) X.A (eval iter X.env) (fun v s1 => wpAny (model X.prog X.w) X.A (pyIter v) (PIE X pins σ tg R) X.xe s1) X.xe s

/-- the step ahead of the store is nothing for an iterator that keeps no tuple -/
theorem go_of {M : Model} {A : Around} {E : Value → Shared → Prop} {s : Shared} {tg : Expr} {it : Addr} {u : Value} {o : Obj} {n : String} {vs : Array Value} {Q : Unit → Shared → Prop} (ho : s.heap.get? it = some o) (hc : o.cls = .type n) (hd : o.data = .fields vs)
    (hn : ["enumerate", "zip", "dict_itemiterator", "dict_reverseitemiterator", "odict_iterator", "itertools.zip_longest", "itertools.pairwise"].contains n = false) (hQ : Q () s) : wpAny M A (letOwnedTupleGo tg (.ref it) u) Q E s := by
  unfold letOwnedTupleGo
  cases tg <;> first
    | exact wpAny_pure hQ
    | (cases u <;> first
        | exact wpAny_pure hQ
        | (refine wpAny_bind (wpAny_load ho ?_)
           rw [hc, hd]
           show wpAny M A (if (["enumerate", "zip", "dict_itemiterator", "dict_reverseitemiterator", "odict_iterator", "itertools.zip_longest", "itertools.pairwise"].contains n && vs[0]? == some (rawInt _)) = true then _ else _) Q E s
           rw [if_neg (by intro h; rw [hn, Bool.false_and] at h; cases h)]
           exact wpAny_pure hQ))

/-- the list at a, as it stands at each turn (a loop may append to it) -/
def Itl (K : PySem.W.Frag) (a : Addr) : It :=
  ⟨fun i H => ∃ xs x, SqL K H a xs ∧ xs[i]? = some x, fun i H x H' => H' = H ∧ ∀ xs, SqL K H a xs → xs[i]? = some x, fun i H => ∃ xs, SqL K H a xs ∧ xs.length ≤ i⟩
def Itt (K : PySem.W.Frag) (a : Addr) : It :=
  ⟨fun i H => ∃ xs x, SqT K H a xs ∧ xs[i]? = some x, fun i H x H' => H' = H ∧ ∀ xs, SqT K H a xs → xs[i]? = some x, fun i H => ∃ xs, SqT K H a xs ∧ xs.length ≤ i⟩
/-- lo, lo + 1, .. (n of them) -/
def Itr (lo : Int) (n : Nat) : It := ⟨fun i _ => i < n, fun i H x H' => H' = H ∧ x = .int (lo + i), fun i _ => n ≤ i⟩
theorem turn_list {P : Program} {w : World} {K : PySem.W.Frag} {tg : Expr} (a it : Addr) : Turn P w K tg (Itl K a) [it] it (fun i h => h.IsListIter it a i) where
  mem := by simp
  obj := fun i h st b hb => by
    have e : b = it := by simpa using hb
    subst e
    obtain ⟨o, e, c, d⟩ := st
    exact ⟨o, e, fun v z => by rw [d] at z; cases z⟩
  keep := fun i h h' st k => st.at fun o e => k it (by simp) o e
  item := by
    intro X hP hw hK hc i pins s σ H E I hf st hg
    subst hP hw hK
    obtain ⟨xs, x, hq, hx⟩ := hg
    obtain ⟨its, rv, p, hz⟩ := I.list hq
    obtain ⟨u, hu, ru⟩ := rv.get hx
    obtain ⟨f0, f1, f2, f3, f4, f5⟩ := hf it (by simp)
    refine wpAny_pyNext_list_item st p.isList (x := u) (by simpa using hu) fun h' st' sb => ?_
    have I1 : Inv X pins σ H { s with heap := h' } := I.turned (t' := s.toks) (fun b o hb e => (sb.2 b hb).trans e) f0 f1 f3 f4 f5
    obtain ⟨o, e, c, d⟩ := id st'
    exact ⟨u, rfl, go_of (s := { s with heap := h' }) e c d (by decide) ⟨x, H, I1, ru, ⟨rfl, fun ys hy => by rw [I.list_inj hy hq]; exact hx⟩, st', fun b hb => (hf b hb).1⟩⟩
  done := by
    intro X hP hw hK hc i pins s σ H E I hf st hg
    subst hP hw hK
    obtain ⟨xs, hq, hx⟩ := hg
    obtain ⟨its, rv, p, hz⟩ := I.list hq
    obtain ⟨f0, f1, f2, f3, f4, f5⟩ := hf it (by simp)
    have hl := rv.length
    exact wpAny_pyNext_list_end (I.ok.hd hc) st p.isList (by simp; omega) fun h' eb => ⟨rfl, I.turned (t' := s.toks) (fun b o hb e => eb b o hb e) f0 f1 f3 f4 f5⟩
  self := fun _ _ _ _ _ st h => wpAny_pyIter_listiter st h
theorem turn_tuple {P : Program} {w : World} {K : PySem.W.Frag} {tg : Expr} (a it : Addr) : Turn P w K tg (Itt K a) [it] it (fun i h => h.IsTupleIter it a i) where
  mem := by simp
  obj := fun i h st b hb => by
    have e : b = it := by simpa using hb
    subst e
    obtain ⟨o, e, c, d⟩ := st
    exact ⟨o, e, fun v z => by rw [d] at z; cases z⟩
  keep := fun i h h' st k => st.at fun o e => k it (by simp) o e
  item := by
    intro X hP hw hK hc i pins s σ H E I hf st hg
    subst hP hw hK
    obtain ⟨xs, x, hq, hx⟩ := hg
    obtain ⟨its, rv, p, hz⟩ := I.tuple hq
    obtain ⟨u, hu, ru⟩ := rv.get hx
    obtain ⟨f0, f1, f2, f3, f4, f5⟩ := hf it (by simp)
    refine wpAny_pyNext_tuple_item st (show s.heap.IsTuple a its.toArray from p) (x := u) (by simpa using hu) fun h' st' sb => ?_
    have I1 : Inv X pins σ H { s with heap := h' } := I.turned (t' := s.toks) (fun b o hb e => (sb.2 b hb).trans e) f0 f1 f3 f4 f5
    obtain ⟨o, e, c, d⟩ := id st'
    exact ⟨u, rfl, go_of (s := { s with heap := h' }) e c d (by decide) ⟨x, H, I1, ru, ⟨rfl, fun ys hy => by rw [I.tuple_inj hy hq]; exact hx⟩, st', fun b hb => (hf b hb).1⟩⟩
  done := by
    intro X hP hw hK hc i pins s σ H E I hf st hg
    subst hP hw hK
    obtain ⟨xs, hq, hx⟩ := hg
    obtain ⟨its, rv, p, hz⟩ := I.tuple hq
    obtain ⟨f0, f1, f2, f3, f4, f5⟩ := hf it (by simp)
    have hl := rv.length
    exact wpAny_pyNext_tuple_end (I.ok.hd hc) st (show s.heap.IsTuple a its.toArray from p) (by simp; omega) fun h' eb => ⟨rfl, I.turned (t' := s.toks) (fun b o hb e => eb b o hb e) f0 f1 f3 f4 f5⟩
  self := fun _ _ _ _ _ st h => wpAny_pyIter_tupleiter st h
theorem turn_range {P : Program} {w : World} {K : PySem.W.Frag} {tg : Expr} (it : Addr) (lo : Int) (n : Nat) : Turn P w K tg (Itr lo n) [it] it (fun i h => IsRangeIter h it (lo + (i : Nat) * 1) ((n : Int) - (i : Nat)) 1) where
  mem := by simp
  obj := fun i h st b hb => by
    have e : b = it := by simpa using hb
    subst e
    exact ⟨_, st, fun v z => by
      have z' : Data.fields _ = Data.cell v := z
      cases z'⟩
  keep := fun i h h' st k => k it (by simp) _ st
  item := by
    intro X hP hw hK hc i pins s σ H E I hf st hg
    subst hP hw hK
    obtain ⟨f0, f1, f2, f3, f4, f5⟩ := hf it (by simp)
    have W := Walks.range (prog := X.prog) (w := X.w) (I.ok.hd hc) it lo 1 n
    refine W.item i s _ _ hg st fun v h' tk hv st' kk => ?_
    obtain ⟨t, rfl⟩ := hv
    have I1 : Inv X pins σ H { s with heap := h', toks := tk } := I.turned (fun b o hb e => kk b o (by simpa using hb) e) f0 f1 f3 f4 f5
    refine ⟨_, rfl, go_of (s := { s with heap := h', toks := tk }) (n := "range_iterator") st' rfl rfl (by decide) ⟨.int (lo + i), H, I1, ⟨t, ?_⟩, ⟨rfl, rfl⟩, st', fun b hb => (hf b hb).1⟩⟩
    rw [Int.mul_one]
  done := by
    intro X hP hw hK hc i pins s σ H E I hf st hg
    subst hP hw hK
    obtain ⟨f0, f1, f2, f3, f4, f5⟩ := hf it (by simp)
    exact wpAny_pyNext_range_end (I.ok.hd hc) st (by have : n ≤ i := hg; omega) fun h' eb => ⟨rfl, I.turned (t' := s.toks) (fun b o hb e => eb b o hb e) f0 f1 f3 f4 f5⟩
  self := fun _ _ _ _ _ st h => wpAny_pyIter_rangeiter st h
end L2

namespace L2
open PySem PySem.Spec PyProof.Rows
section
variable {X : Cx} {tg : Expr}
def iList (K : PySem.W.Frag) (tl : TE) : TI := fun σ H R => tl σ H fun x H1 => ∃ a, x = .ref a ∧ (∃ xs, SqL K H1 a xs) ∧ R (Itl K a) H1
def iTup (K : PySem.W.Frag) (tl : TE) : TI := fun σ H R => tl σ H fun x H1 => ∃ a, x = .ref a ∧ (∃ xs, SqT K H1 a xs) ∧ R (Itt K a) H1
theorem pi_list {l : Expr} {tl : TE} (hl : PE X l tl) : PI X tg l (iList X.K tl) := by
  intro pins s σ H R I h
  refine thn (hl pins s σ H _ I h) fun v s1 ⟨x, H1, I1, r1, q1⟩ => ?_
  obtain ⟨a, e, ⟨xs, hq⟩, q⟩ := q1
  subst e
  cases r1
  obtain ⟨its, rv, p, hz⟩ := I1.list hq
  refine wpAny_pyIter_list p.isList ?_
  refine ⟨s1.heap.objs.size, [s1.heap.objs.size], _, _, H1, rfl, I1.kept (t' := s1.toks) fun b o e => Heap.get?_push_of_some _ e, turn_list a _, ⟨_, Heap.get?_push_size _ rfl, rfl, rfl⟩, fun b hb => ?_, q⟩
  have e : b = s1.heap.objs.size := by simpa using hb
  subst e
  exact I1.fpOk (Nat.le_refl _) (I1.hok.fresh (Nat.le_refl _))
theorem pi_tup {l : Expr} {tl : TE} (hl : PE X l tl) : PI X tg l (iTup X.K tl) := by
  intro pins s σ H R I h
  refine thn (hl pins s σ H _ I h) fun v s1 ⟨x, H1, I1, r1, q1⟩ => ?_
  obtain ⟨a, e, ⟨xs, hq⟩, q⟩ := q1
  subst e
  cases r1
  obtain ⟨its, rv, p, hz⟩ := I1.tuple hq
  refine wpAny_pyIter_tuple (show s1.heap.IsTuple a its.toArray from p) ?_
  refine ⟨s1.heap.objs.size, [s1.heap.objs.size], _, _, H1, rfl, I1.kept (t' := s1.toks) fun b o e => Heap.get?_push_of_some _ e, turn_tuple a _, ⟨_, Heap.get?_push_size _ rfl, rfl, rfl⟩, fun b hb => ?_, q⟩
  have e : b = s1.heap.objs.size := by simpa using hb
  subst e
  exact I1.fpOk (Nat.le_refl _) (I1.hok.fresh (Nat.le_refl _))
/-- a range object just made, walked -/
theorem range_it {pins : List (Addr × Obj)} {σ : St} {H : Hp} {s : Shared} {R : It → Hp → Prop} {E : Value → Shared → Prop} {lo hi : Int} {t u v : Tok} {tk : Nat} (I : Inv X pins σ H s) (h1 : -(2 ^ 62) ≤ lo) (h2 : lo < 2 ^ 62) (h3 : -(2 ^ 62) ≤ hi) (h4 : hi < 2 ^ 62)
    (q : R (Itr lo (hi - lo).toNat) H) : wpAny (model X.prog X.w) X.A (pyIter (.ref s.heap.objs.size)) (PIE X pins σ tg R) E { s with heap := s.heap.push { cls := .type "range", data := .fields #[.int lo t, .int hi u, .int 1 v] }, toks := tk } := by
  refine wpAny_pyIter_range (IsRange.new ..) (small_one h1 h2 h3 h4) ?_
  have I1 : Inv X pins σ H { s with heap := s.heap.push { cls := .type "range", data := .fields #[.int lo t, .int hi u, .int 1 v] }, toks := tk } := I.kept fun b o e => Heap.get?_push_of_some _ e
  refine ⟨(s.heap.push { cls := .type "range", data := .fields #[.int lo t, .int hi u, .int 1 v] }).objs.size, [(s.heap.push { cls := .type "range", data := .fields #[.int lo t, .int hi u, .int 1 v] }).objs.size], _, _, H, rfl,
    I1.kept (t' := tk) fun b o e => Heap.get?_push_of_some _ e, turn_range _ lo (hi - lo).toNat, ?_, fun b hb => ?_, q⟩
  · have e1 : lo + ((0 : Nat) : Int) * 1 = lo := by simp
    have e2 : (((hi - lo).toNat : Nat) : Int) - ((0 : Nat) : Int) = Builtin.Range.rangeSize lo hi 1 := by rw [rangeSize_one]; split <;> omega
    show IsRangeIter _ _ (lo + ((0 : Nat) : Int) * 1) ((((hi - lo).toNat : Nat) : Int) - ((0 : Nat) : Int)) 1
    rw [e1, e2]
    exact Heap.get?_push_size _ rfl
  · have e : b = (s.heap.push { cls := .type "range", data := .fields #[.int lo t, .int hi u, .int 1 v] }).objs.size := by simpa using hb
    subst e
    exact I1.fpOk (Nat.le_refl _) (I1.hok.fresh (Nat.le_refl _))
def iRng1 (ta : TA) : TI := fun σ H R => ta σ H fun vs H1 => ∃ j : Int, vs = [.int j] ∧ -(2 ^ 62) ≤ j ∧ j < 2 ^ 62 ∧ R (Itr 0 j.toNat) H1
def iRng2 (ta : TA) : TI := fun σ H R => ta σ H fun vs H1 => ∃ i j : Int, vs = [.int i, .int j] ∧ (-(2 ^ 62) ≤ i ∧ i < 2 ^ 62 ∧ -(2 ^ 62) ≤ j ∧ j < 2 ^ 62) ∧ R (Itr i (j - i).toNat) H1
theorem pi_range1 {a : Expr} {ta : TA} {p pos : Pos} (hg : Gl X "range") (hm : X.mg "range" = none) (ha : PA X [a] ta) (hs : starEach [a] X.env = [(false, eval a X.env)] := by rfl) : PI X tg (.Call (.Name "range" p) [a] [] pos) (iRng1 ta) := by
  intro pins s σ H R I h
  refine Call_ (ld_blt I hg hm boot_range (PyProof.Rows.callWith_type1 (thn (ha pos pins s σ H _ I h) fun us s1 ⟨vs, H1, I1, r1, q1⟩ => ?_) hs rfl))
  obtain ⟨j, e, q1, q2, q⟩ := q1
  subst e
  cases r1 with
  | cons r rr =>
    cases rr
    obtain ⟨t, rfl⟩ := r
    exact call_range_1 (range_it I1 (by omega) (by omega) q1 q2 (by simpa using q))
theorem pi_range2 {a b : Expr} {ta : TA} {p pos : Pos} (hg : Gl X "range") (hm : X.mg "range" = none) (ha : PA X [a, b] ta) (hs : starEach [a, b] X.env = [(false, eval a X.env), (false, eval b X.env)] := by rfl) (hs2 : starEach [b] X.env = [(false, eval b X.env)] := by rfl) :
    PI X tg (.Call (.Name "range" p) [a, b] [] pos) (iRng2 ta) := by
  intro pins s σ H R I h
  refine Call_ (ld_blt I hg hm boot_range (PyProof.Rows.callWith_type1 (thn (ha pos pins s σ H _ I h) fun us s1 ⟨vs, H1, I1, r1, q1⟩ => ?_) (by rw [hs, hs2]) (by rw [hs2]; rfl)))
  obtain ⟨i, j, e, ⟨q1, q2, q3, q4⟩, q⟩ := q1
  subst e
  cases r1 with
  | cons r rr =>
    cases rr with
    | cons r' rr =>
      cases rr
      obtain ⟨t, rfl⟩ := r
      obtain ⟨t', rfl⟩ := r'
      exact call_range_2 (range_it I1 q1 q2 q3 q4 q)

/-! ### for -/
/-- W: the invariant by the turn and a measure; N: what the body is to reach -/
def tFor (wi : TI) (g : TG) (tb : TS) : TS := fun D σ H => wi σ H fun J H1 => ∃ W : Nat → Nat → St → Hp → Prop, (∃ m, W 0 m σ H1) ∧ ∀ i m σ H, W i m σ H →
  (J.stop i H ∧ D.nx σ H) ∨ (J.go i H ∧ ∃ N : St → Hp → Prop, (∀ σ' H', N σ' H' → ∃ m', m' < m ∧ W (i + 1) m' σ' H') ∧ ∀ x H', J.yld i H x H' → g x σ H' fun σ2 H2 => tb { D with nx := N, ct := N, bk := D.nx } σ2 H2)
/-- the records at fp as they stand -/
def pinsAt (fp : List Addr) (h : Heap) : List (Addr × Obj) := fp.filterMap fun b => (h.get? b).map fun o => (b, o)
theorem mem_pinsAt {fp : List Addr} {h : Heap} {b : Addr} {o : Obj} (hb : b ∈ fp) (e : h.get? b = some o) : (b, o) ∈ pinsAt fp h := List.mem_filterMap.mpr ⟨b, hb, by rw [e]; rfl⟩
theorem of_pinsAt {fp : List Addr} {h : Heap} {p : Addr × Obj} (hp : p ∈ pinsAt fp h) : p.1 ∈ fp ∧ h.get? p.1 = some p.2 := by
  obtain ⟨b, hb, e⟩ := List.mem_filterMap.mp hp
  cases q : h.get? b with
  | none => rw [q] at e; cases e
  | some o =>
    rw [q] at e
    have e' : (b, o) = p := Option.some.inj e
    subst e'
    exact ⟨hb, q⟩
theorem Inv.pinned {pins : List (Addr × Obj)} {σ : St} {H : Hp} {s : Shared} {fp : List Addr} (I : Inv X pins σ H s) (hf : ∀ b ∈ fp, FpOk X pins H b) (ho : ∀ b ∈ fp, ∃ o, s.heap.get? b = some o ∧ ∀ v, o.data ≠ .cell v) : Inv X (pins ++ pinsAt fp s.heap) σ H s :=
  I.pins_of fun p hp => (List.mem_append.mp hp).elim (fun z => I.pin p (List.mem_append_right _ z)) fun z => by
    obtain ⟨hb, e⟩ := of_pinsAt z
    obtain ⟨f0, f1, f2, _⟩ := hf p.1 hb
    obtain ⟨o, e', d⟩ := ho p.1 hb
    rw [e] at e'; cases e'
    exact ⟨e, f0, f1, f2, d⟩
theorem Inv.unpinned {pins pl : List (Addr × Obj)} {σ : St} {H : Hp} {s : Shared} (I : Inv X (pins ++ pl) σ H s) : Inv X pins σ H s := I.pins_of fun p hp => I.pin p (List.mem_append_right _ (List.mem_append_left _ hp))
theorem ps_for {iter : Expr} {body : List Stmt} {wi : TI} {g : TG} {tb : TS} {pos : Pos} (hp : PassesOwn (model X.prog X.w) X.A X.env X.xe) (hc : X.calm = true) (hi : PI X tg iter wi) (hg : PG X tg g) (hb : PSs X body tb)
    (hs : ∀ x, foldedSetIterable iter X.env x = pure x := by intro _; rfl) : PS X (.For tg iter body [] pos) (tFor wi g tb) := by
  intro pins s σ H D I h
  refine wpAny_For (thn (hi pins s σ H _ I h) fun v s1 h1 => thn h1 fun itv s2 h2 => ?_) hs
  obtain ⟨it, fp, tn, J, H2, e, I2, T, st2, f2, W, ⟨m0, w0⟩, turn⟩ := h2
  subst e
  -- what stays true of the iterator's objects through the loop
  have stat : ∀ {H' : Hp}, (∀ b ∈ fp, H' b = none) → ∀ b ∈ fp, FpOk X pins H' b := fun hn b hb => ⟨hn b hb, (f2 b hb).2⟩
  refine codeAny_forLoop_any (fun n s' => ∃ i σ' H', Inv X pins σ' H' s' ∧ tn i s'.heap ∧ (∀ b ∈ fp, H' b = none) ∧ W i n σ' H') ?_ m0 ⟨0, σ, H2, I2, st2, fun b hb => (f2 b hb).1, w0⟩
  rintro n s3 ⟨i, σ3, H3, I3, st3, fr3, w3⟩
  rcases turn i n σ3 H3 w3 with ⟨stop, qn⟩ | ⟨go, N, hN, step⟩
  · refine wpAny_passesOwn hp (thn (T.done X rfl rfl rfl hc i pins s3 σ3 H3 X.xe I3 (stat fr3) st3 stop) fun r s4 ⟨hr, I4⟩ => ?_)
    subst hr
    exact wpAny_execs_nil ⟨σ3, H3, I4, qn⟩
  · refine wpAny_passesOwn hp (thn (T.item X rfl rfl rfl hc i pins s3 σ3 H3 X.xe I3 (stat fr3) st3 go) fun r s4 ⟨u, hr, h4⟩ => ?_)
    subst hr
    refine wpAny_passesOwn hp (thn h4 fun _ s5 ⟨x, H5, I5, r5, y5, st5, fr5⟩ => ?_)
    have I5' := I5.pinned (stat fr5) (T.obj _ _ st5)
    refine wpAny_passesOwn hp (thn (hg _ s5 σ3 H5 x u _ I5' r5 (step x H5 y5)) fun _ s6 ⟨σ6, H6, I6, q6⟩ => ?_)
    refine wpAny_passesOwn hp (thn (hb _ s6 σ6 H6 _ I6 q6) fun f s7 q7 => ?_)
    have again : ∀ {σ7 : St} {H7 : Hp}, Inv X (pins ++ pinsAt fp s5.heap) σ7 H7 s7 → N σ7 H7 → ∃ m, m < n ∧ ∃ i σ' H', Inv X pins σ' H' s7 ∧ tn i s7.heap ∧ (∀ b ∈ fp, H' b = none) ∧ W i m σ' H' := fun {σ7 H7} I7 n7 => by
      obtain ⟨m', hm, w7⟩ := hN σ7 H7 n7
      refine ⟨m', hm, i + 1, σ7, H7, I7.unpinned, T.keep _ _ _ st5 fun b hb o e => (I7.pin (b, o) (List.mem_append_right _ (List.mem_append_right _ (mem_pinsAt hb e)))).1, fun b hb => ?_, w7⟩
      obtain ⟨o, e, d⟩ := T.obj _ _ st5 b hb
      exact (I7.pin (b, o) (List.mem_append_right _ (List.mem_append_right _ (mem_pinsAt hb e)))).2.1
    cases f with
    | next => obtain ⟨σ7, H7, I7, n7⟩ := q7; exact again I7 n7
    | cont => obtain ⟨σ7, H7, I7, n7⟩ := q7; exact again I7 n7
    | brk => obtain ⟨σ7, H7, I7, q7⟩ := q7; exact ⟨σ7, H7, I7.unpinned, q7⟩
    | ret v => obtain ⟨x7, σ7, H7, I7, r7, q7⟩ := q7; exact ⟨x7, σ7, H7, I7.unpinned, r7, q7⟩
end

/-! ### the forms one uses -/
/-- over a list that the body leaves as it is -/
theorem for_list {K : PySem.W.Frag} {a : Addr} {xs : List V} {g : TG} {tb : TS} {D : Ends} {σ : St} {H : Hp} (Pv : Nat → St → Hp → Prop) (h0 : Pv 0 σ H) (hl : ∀ i σ H, i ≤ xs.length → Pv i σ H → SqL K H a xs)
    (hs : ∀ i x σ H, xs[i]? = some x → Pv i σ H → g x σ H fun σ2 H2 => tb { D with nx := Pv (i + 1), ct := Pv (i + 1), bk := D.nx } σ2 H2) (hd : ∀ σ H, Pv xs.length σ H → D.nx σ H) :
    ∃ W : Nat → Nat → St → Hp → Prop, (∃ m, W 0 m σ H) ∧ ∀ i m σ H, W i m σ H →
      ((Itl K a).stop i H ∧ D.nx σ H) ∨ ((Itl K a).go i H ∧ ∃ N : St → Hp → Prop, (∀ σ' H', N σ' H' → ∃ m', m' < m ∧ W (i + 1) m' σ' H') ∧ ∀ x H', (Itl K a).yld i H x H' → g x σ H' fun σ2 H2 => tb { D with nx := N, ct := N, bk := D.nx } σ2 H2) := by
  refine ⟨fun i m σ H => m = xs.length - i ∧ i ≤ xs.length ∧ Pv i σ H, ⟨xs.length, by simp, Nat.zero_le _, h0⟩, ?_⟩
  rintro i m σ H ⟨rfl, hi, p⟩
  have q := hl i σ H hi p
  by_cases hlt : i < xs.length
  · refine .inr ⟨⟨xs, xs[i], q, by simp [hlt]⟩, Pv (i + 1), fun σ' H' p' => ⟨xs.length - (i + 1), by omega, rfl, hlt, p'⟩, fun x H' y => ?_⟩
    obtain ⟨e, y⟩ := y
    subst e
    exact hs i x σ _ (y xs q) p
  · have e : i = xs.length := by omega
    subst e
    exact .inl ⟨⟨xs, q, Nat.le_refl _⟩, hd σ H p⟩
theorem for_tup {K : PySem.W.Frag} {a : Addr} {xs : List V} {g : TG} {tb : TS} {D : Ends} {σ : St} {H : Hp} (Pv : Nat → St → Hp → Prop) (h0 : Pv 0 σ H) (hl : ∀ i σ H, i ≤ xs.length → Pv i σ H → SqT K H a xs)
    (hs : ∀ i x σ H, xs[i]? = some x → Pv i σ H → g x σ H fun σ2 H2 => tb { D with nx := Pv (i + 1), ct := Pv (i + 1), bk := D.nx } σ2 H2) (hd : ∀ σ H, Pv xs.length σ H → D.nx σ H) :
    ∃ W : Nat → Nat → St → Hp → Prop, (∃ m, W 0 m σ H) ∧ ∀ i m σ H, W i m σ H →
      ((Itt K a).stop i H ∧ D.nx σ H) ∨ ((Itt K a).go i H ∧ ∃ N : St → Hp → Prop, (∀ σ' H', N σ' H' → ∃ m', m' < m ∧ W (i + 1) m' σ' H') ∧ ∀ x H', (Itt K a).yld i H x H' → g x σ H' fun σ2 H2 => tb { D with nx := N, ct := N, bk := D.nx } σ2 H2) := by
  refine ⟨fun i m σ H => m = xs.length - i ∧ i ≤ xs.length ∧ Pv i σ H, ⟨xs.length, by simp, Nat.zero_le _, h0⟩, ?_⟩
  rintro i m σ H ⟨rfl, hi, p⟩
  have q := hl i σ H hi p
  by_cases hlt : i < xs.length
  · refine .inr ⟨⟨xs, xs[i], q, by simp [hlt]⟩, Pv (i + 1), fun σ' H' p' => ⟨xs.length - (i + 1), by omega, rfl, hlt, p'⟩, fun x H' y => ?_⟩
    obtain ⟨e, y⟩ := y
    subst e
    exact hs i x σ _ (y xs q) p
  · have e : i = xs.length := by omega
    subst e
    exact .inl ⟨⟨xs, q, Nat.le_refl _⟩, hd σ H p⟩
theorem for_range {lo : Int} {n : Nat} {g : TG} {tb : TS} {D : Ends} {σ : St} {H : Hp} (Pv : Nat → St → Hp → Prop) (h0 : Pv 0 σ H)
    (hs : ∀ i σ H, i < n → Pv i σ H → g (.int (lo + i)) σ H fun σ2 H2 => tb { D with nx := Pv (i + 1), ct := Pv (i + 1), bk := D.nx } σ2 H2) (hd : ∀ σ H, Pv n σ H → D.nx σ H) :
    ∃ W : Nat → Nat → St → Hp → Prop, (∃ m, W 0 m σ H) ∧ ∀ i m σ H, W i m σ H →
      ((Itr lo n).stop i H ∧ D.nx σ H) ∨ ((Itr lo n).go i H ∧ ∃ N : St → Hp → Prop, (∀ σ' H', N σ' H' → ∃ m', m' < m ∧ W (i + 1) m' σ' H') ∧ ∀ x H', (Itr lo n).yld i H x H' → g x σ H' fun σ2 H2 => tb { D with nx := N, ct := N, bk := D.nx } σ2 H2) := by
  refine ⟨fun i m σ H => m = n - i ∧ i ≤ n ∧ Pv i σ H, ⟨n, by simp, Nat.zero_le _, h0⟩, ?_⟩
  rintro i m σ H ⟨rfl, hi, p⟩
  by_cases hlt : i < n
  · refine .inr ⟨hlt, Pv (i + 1), fun σ' H' p' => ⟨n - (i + 1), by omega, rfl, hlt, p'⟩, fun x H' y => ?_⟩
    obtain ⟨e, y⟩ := y
    subst e y
    exact hs i σ _ hlt p
  · have e : i = n := by omega
    subst e
    exact .inl ⟨Nat.le_refl _, hd σ H p⟩
/-- while, by a word and a measure of the state -/
theorem while_by {c : TT} {tb : TS} {D : Ends} {σ : St} {H : Hp} (Pv : St → Hp → Prop) (μ : St → Hp → Nat) (h0 : Pv σ H)
    (hs : ∀ σ H, Pv σ H → c σ H fun b H1 => if b = true then tb { D with nx := fun σ' H' => Pv σ' H' ∧ μ σ' H' < μ σ H, ct := fun σ' H' => Pv σ' H' ∧ μ σ' H' < μ σ H, bk := D.nx } σ H1 else D.nx σ H1)
    (mono : ∀ σ H Q Q', (∀ b H1, Q b H1 → Q' b H1) → c σ H Q → c σ H Q') : tWhile c tb D σ H := by
  refine ⟨fun m σ H => m = μ σ H ∧ Pv σ H, ⟨_, rfl, h0⟩, ?_⟩
  rintro m σ H ⟨rfl, p⟩
  refine mono σ H _ _ (fun b H1 q => ?_) (hs σ H p)
  cases b with
  | true => exact ⟨_, fun σ' H' ⟨p', l⟩ => ⟨_, l, rfl, p'⟩, q⟩
  | false => exact q
end L2

namespace L2
open PySem PySem.Spec PyProof.Rows

abbrev R2 := V → V → Hp → VK → Prop
/-- a two-place operation on values: f is binaryOp op, inplaceOp op or compareOp op -/
def OpR (X : Cx) (f : Value → Value → Sem Value) (r : R2) : Prop :=
  ∀ (pins : List (Addr × Obj)) (s : Shared) (σ : St) (H : Hp) (x y : V) (v u : Value) (Q : VK), Inv X pins σ H s → RelV x v → RelV y u → r x y H Q →
    wpAny (model X.prog X.w) X.A (f v u) (EP X pins σ Q) X.xe s
/-- a one-place operation -/
def UnR (X : Cx) (f : Value → Sem Value) (r : V → Hp → VK → Prop) : Prop :=
  ∀ (pins : List (Addr × Obj)) (s : Shared) (σ : St) (H : Hp) (x : V) (v : Value) (Q : VK), Inv X pins σ H s → RelV x v → r x H Q →
    wpAny (model X.prog X.w) X.A (f v) (EP X pins σ Q) X.xe s
/-- a call of a value that is known (a builtin, a type) with values -/
def CallR (X : Cx) (f : Value) (r : List V → Hp → VK → Prop) : Prop :=
  ∀ (pins : List (Addr × Obj)) (s : Shared) (σ : St) (H : Hp) (xs : List V) (us : List Value) (Q : VK), Inv X pins σ H s → Vals xs us → r xs H Q →
    wpAny (model X.prog X.w) X.A (call f us) (EP X pins σ Q) X.xe s
/-- a value's truth -/
def TruR (X : Cx) (r : V → Hp → (Bool → Hp → Prop) → Prop) : Prop :=
  ∀ (pins : List (Addr × Obj)) (s : Shared) (σ : St) (H : Hp) (x : V) (v : Value) (Q : Bool → Hp → Prop), Inv X pins σ H s → RelV x v → r x H Q →
    wpAny (model X.prog X.w) X.A (truthy v) (TP X pins σ Q) X.xe s

def tOp (r : R2) (ta tb : TE) : TE := fun σ H Q => ta σ H fun x H1 => tb σ H1 fun y H2 => r x y H2 Q
def tUn (r : V → Hp → VK → Prop) (ta : TE) : TE := fun σ H Q => ta σ H fun x H1 => r x H1 Q
/-- ints in, under C, and a value out -/
def rI (C : Int → Int → Prop) (g : Int → Int → V) : R2 := fun x y H Q => ∃ i j, x = .int i ∧ y = .int j ∧ C i j ∧ Q (g i j) H
def rI0 (g : Int → Int → V) : R2 := fun x y H Q => ∃ i j, x = .int i ∧ y = .int j ∧ Q (g i j) H
def rU (g : Int → V) : V → Hp → VK → Prop := fun x H Q => ∃ i, x = .int i ∧ Q (g i) H

section
variable {X : Cx} {a b c : Expr} {ta tb tc : TE} {pos : Pos}

theorem binT (ha : PE X a ta) (hb : PE X b tb) {pins : List (Addr × Obj)} {s : Shared} {σ : St} {H : Hp} {R : V → V → Hp → Prop} (I : Inv X pins σ H s)
    (h : ta σ H fun x H1 => tb σ H1 fun y H2 => R x y H2) {Q : Value → Shared → Prop} {f : Value → Value → Sem Value}
    (hf : ∀ v u s2 x y H2, Inv X pins σ H2 s2 → RelV x v → RelV y u → R x y H2 → wpAny (model X.prog X.w) X.A (f v u) Q X.xe s2) :
    wpAny (model X.prog X.w) X.A (eval a X.env) (fun v s₁ => wpAny (model X.prog X.w) X.A (eval b X.env) (fun u s₂ => wpAny (model X.prog X.w) X.A (f v u) Q X.xe s₂) X.xe s₁) X.xe s := by
  refine thn (ha pins s σ H _ I h) fun v s1 ⟨x, H1, I1, r1, q1⟩ => ?_
  refine thn (hb pins s1 σ H1 _ I1 q1) fun u s2 ⟨y, H2, I2, r2, q2⟩ => ?_
  exact hf v u s2 x y H2 I2 r1 r2 q2

theorem pe_op {op : Operator} {r : R2} (ho : OpR X (binaryOp op) r) (ha : PE X a ta) (hb : PE X b tb) : PE X (.BinOp a op b pos) (tOp r ta tb) := by
  intro pins s σ H Q I h
  exact wpAny_BinOp (binT ha hb I h fun v u s2 x y H2 I2 rx ry q => ho pins s2 σ H2 x y v u Q I2 rx ry q)
theorem pe_un {op : UnaryOp} {r : V → Hp → VK → Prop} (ho : UnR X (unaryOp op) r) (ha : PE X a ta) : PE X (.UnaryOp op a pos) (tUn r ta) := by
  intro pins s σ H Q I h
  exact UnaryOp_ (thn (ha pins s σ H _ I h) fun v s1 ⟨x, H1, I1, r1, q1⟩ => ho pins s1 σ H1 x v Q I1 r1 q1)
/-- a op= e at a name: the name's slot i -/
theorem augR {op : Operator} {r : R2} (ho : OpR X (inplaceOp op) r) {pins : List (Addr × Obj)} {s : Shared} {σ : St} {H : Hp} {x y : V} {v u : Value} {Q : VK} (I : Inv X pins σ H s)
    (rx : RelV x v) (ry : RelV y u) (q : r x y H Q) : wpAny (model X.prog X.w) X.A (inplaceOp op v u) (EP X pins σ Q) X.xe s := ho pins s σ H x y v u Q I rx ry q

/-! ### ints -/
theorem opI {f : Value → Value → Sem Value} {C : Int → Int → Prop} {g : Int → Int → Int}
    (rule : ∀ (i j : Int) (t u : Tok) (s : Shared) (Q : Value → Shared → Prop) (E : Value → Shared → Prop), C i j → Q (.int (g i j) s.toks) { s with toks := s.toks + 1 } → wpAny (model X.prog X.w) X.A (f (.int i t) (.int j u)) Q E s) :
    OpR X f (rI C fun i j => .int (g i j)) := by
  intro pins s σ H x y v u Q I rx ry h
  obtain ⟨i, j, rfl, rfl, hc, q⟩ := h
  obtain ⟨t, rfl⟩ := rx
  obtain ⟨t', rfl⟩ := ry
  exact rule i j t t' s _ _ hc ⟨.int (g i j), H, I.tok _, ⟨_, rfl⟩, q⟩
theorem opI0 {f : Value → Value → Sem Value} {g : Int → Int → Int}
    (rule : ∀ (i j : Int) (t u : Tok) (s : Shared) (Q : Value → Shared → Prop) (E : Value → Shared → Prop), Q (.int (g i j) s.toks) { s with toks := s.toks + 1 } → wpAny (model X.prog X.w) X.A (f (.int i t) (.int j u)) Q E s) :
    OpR X f (rI0 fun i j => .int (g i j)) := by
  intro pins s σ H x y v u Q I rx ry h
  obtain ⟨i, j, rfl, rfl, q⟩ := h
  obtain ⟨t, rfl⟩ := rx
  obtain ⟨t', rfl⟩ := ry
  exact rule i j t t' s _ _ ⟨.int (g i j), H, I.tok _, ⟨_, rfl⟩, q⟩
theorem opB0 {f : Value → Value → Sem Value} {g : Int → Int → Bool}
    (rule : ∀ (i j : Int) (t u : Tok) (s : Shared) (Q : Value → Shared → Prop) (E : Value → Shared → Prop), Q (.bool (g i j)) s → wpAny (model X.prog X.w) X.A (f (.int i t) (.int j u)) Q E s) :
    OpR X f (rI0 fun i j => .bl (g i j)) := by
  intro pins s σ H x y v u Q I rx ry h
  obtain ⟨i, j, rfl, rfl, q⟩ := h
  obtain ⟨t, rfl⟩ := rx
  obtain ⟨t', rfl⟩ := ry
  exact rule i j t t' s _ _ ⟨.bl (g i j), H, I, rfl, q⟩

def CDiv (i j : Int) : Prop := 0 < j ∧ j < 1073741824
def CDivN (i j : Int) : Prop := j ≠ 0 ∧ j.natAbs < 1073741824
def CPow (i j : Int) : Prop := 0 ≤ j ∧ j ≤ 1000000 ∧ i.natAbs < 2 ^ 64
def CMul (i j : Int) : Prop := (-(2 ^ 64) < i ∧ i < 2 ^ 64) ∨ (-(2 ^ 64) < j ∧ j < 2 ^ 64)
theorem CMul.ok {i j : Int} (h : CMul i j) : IntMulOk i j := by
  rcases h with ⟨h1, h2⟩ | ⟨h1, h2⟩
  · exact .of_left (intBits_le_64 h1 h2)
  · exact .of_right (intBits_le_64 h1 h2)
theorem two_pow_nn (k : Nat) : (0 : Int) ≤ 2 ^ k := by
  rw [two_pow_cast]
  exact Int.natCast_nonneg _

theorem op_add : OpR X (binaryOp .Add) (rI0 fun i j => .int (i + j)) := opI0 fun _ _ _ _ _ _ _ q => add_int q
theorem op_sub : OpR X (binaryOp .Sub) (rI0 fun i j => .int (i - j)) := opI0 fun _ _ _ _ _ _ _ q => sub_int q
theorem op_mul : OpR X (binaryOp .Mult) (rI CMul fun i j => .int (i * j)) := opI fun _ _ _ _ _ _ _ hc q => mul_int q hc.ok
/-- // by a positive divisor -/
theorem op_fdiv : OpR X (binaryOp .FloorDiv) (rI CDiv fun i j => .int (i / j)) := opI fun i j _ _ _ _ _ hc q => by
  have h1 : (0 : Int) < j := hc.1
  have h2 : j < 1073741824 := hc.2
  exact floordiv_int (by omega) (by rw [Int.fdiv_eq_ediv_of_nonneg i (by omega)]; exact q) (.inl (PyProof.noPylong_small (by omega)))
theorem op_fdivN : OpR X (binaryOp .FloorDiv) (rI CDivN fun i j => .int (i.fdiv j)) := opI fun _ _ _ _ _ _ _ hc q => floordiv_int hc.1 q (.inl (PyProof.noPylong_small hc.2))
/-- % by a positive divisor of any size -/
theorem op_mod : OpR X (binaryOp .Mod) (rI (fun _ j => 0 < j) fun i j => .int (i % j)) := opI fun i j _ _ _ _ _ hc q => by
  have h1 : (0 : Int) < j := hc
  exact mod_int' (by omega) (by rw [Int.fmod_eq_emod_of_nonneg i (by omega)]; exact q)
theorem op_modN : OpR X (binaryOp .Mod) (rI (fun _ j => j ≠ 0) fun i j => .int (i.fmod j)) := opI fun _ _ _ _ _ _ _ hc q => mod_int' hc q
theorem op_pow : OpR X (binaryOp .Pow) (rI CPow fun i j => .int (i ^ j.toNat)) := opI fun _ _ _ _ _ _ _ hc q => pow_int_small hc.1 hc.2.1 hc.2.2 q
theorem op_shl : OpR X (binaryOp .LShift) (rI CPow fun i j => .int (i * 2 ^ j.toNat)) := opI fun _ _ _ _ _ _ _ hc q => lshift_int_small hc.1 hc.2.1 hc.2.2 q
theorem op_shr : OpR X (binaryOp .RShift) (rI (fun _ j => 0 ≤ j) fun i j => .int (i / 2 ^ j.toNat)) := opI fun i j _ _ _ _ _ hc q =>
  rshift_int hc (by rw [Int.fdiv_eq_ediv_of_nonneg i (two_pow_nn _)]; exact q)
theorem op_and : OpR X (binaryOp .BitAnd) (rI0 fun i j => .int (Builtin.bitAnd i j)) := opI0 fun _ _ _ _ _ _ _ q => and_int q
theorem op_or : OpR X (binaryOp .BitOr) (rI0 fun i j => .int (Builtin.bitOr i j)) := opI0 fun _ _ _ _ _ _ _ q => or_int q
theorem op_xor : OpR X (binaryOp .BitXor) (rI0 fun i j => .int (Builtin.bitXor i j)) := opI0 fun _ _ _ _ _ _ _ q => xor_int q

theorem iop_add : OpR X (inplaceOp .Add) (rI0 fun i j => .int (i + j)) := opI0 fun _ _ _ _ _ _ _ q => iadd_int q
theorem iop_sub : OpR X (inplaceOp .Sub) (rI0 fun i j => .int (i - j)) := opI0 fun _ _ _ _ _ _ _ q => isub_int q
theorem iop_mul : OpR X (inplaceOp .Mult) (rI CMul fun i j => .int (i * j)) := opI fun _ _ _ _ _ _ _ hc q => imul_int q hc.ok
theorem iop_fdiv : OpR X (inplaceOp .FloorDiv) (rI CDiv fun i j => .int (i / j)) := opI fun i j _ _ _ _ _ hc q => by
  have h1 : (0 : Int) < j := hc.1
  have h2 : j < 1073741824 := hc.2
  exact ifloordiv_int (by omega) (by rw [Int.fdiv_eq_ediv_of_nonneg i (by omega)]; exact q) (.inl (PyProof.noPylong_small (by omega)))
theorem iop_mod : OpR X (inplaceOp .Mod) (rI (fun _ j => 0 < j) fun i j => .int (i % j)) := opI fun i j _ _ _ _ _ hc q => by
  have h1 : (0 : Int) < j := hc
  exact imod_int (by omega) (by rw [Int.fmod_eq_emod_of_nonneg i (by omega)]; exact q)
theorem iop_shl : OpR X (inplaceOp .LShift) (rI CPow fun i j => .int (i * 2 ^ j.toNat)) := opI fun _ _ _ _ _ _ _ hc q => ilshift_int_small hc.1 hc.2.1 hc.2.2 q
theorem iop_shr : OpR X (inplaceOp .RShift) (rI (fun _ j => 0 ≤ j) fun i j => .int (i / 2 ^ j.toNat)) := opI fun i j _ _ _ _ _ hc q =>
  irshift_int hc (by rw [Int.fdiv_eq_ediv_of_nonneg i (two_pow_nn _)]; exact q)
theorem iop_and : OpR X (inplaceOp .BitAnd) (rI0 fun i j => .int (Builtin.bitAnd i j)) := opI0 fun _ _ _ _ _ _ _ q => iand_int q
theorem iop_or : OpR X (inplaceOp .BitOr) (rI0 fun i j => .int (Builtin.bitOr i j)) := opI0 fun _ _ _ _ _ _ _ q => ior_int q
theorem iop_xor : OpR X (inplaceOp .BitXor) (rI0 fun i j => .int (Builtin.bitXor i j)) := opI0 fun _ _ _ _ _ _ _ q => ixor_int q

theorem unI {f : Value → Sem Value} {g : Int → Int}
    (rule : ∀ (i : Int) (t : Tok) (s : Shared) (Q : Value → Shared → Prop) (E : Value → Shared → Prop), Q (.int (g i) s.toks) { s with toks := s.toks + 1 } → wpAny (model X.prog X.w) X.A (f (.int i t)) Q E s) :
    UnR X f (rU fun i => .int (g i)) := by
  intro pins s σ H x v Q I rx h
  obtain ⟨i, rfl, q⟩ := h
  obtain ⟨t, rfl⟩ := rx
  exact rule i t s _ _ ⟨.int (g i), H, I.tok _, ⟨_, rfl⟩, q⟩
theorem un_neg : UnR X (unaryOp .USub) (rU fun i => .int (-i)) := unI fun _ _ _ _ _ q => neg_int q
theorem un_inv : UnR X (unaryOp .Invert) (rU fun i => .int (Builtin.bitNot i)) := unI fun _ _ _ _ _ q => invert_int q

/-! ### bools among ints: n += (a < b) -/
theorem op_add_ib : OpR X (binaryOp .Add) (fun x y H Q => ∃ i k, x = .int i ∧ y = .bl k ∧ Q (.int (i + b2i k)) H) := by
  intro pins s σ H x y v u Q I rx ry h
  obtain ⟨i, k, rfl, rfl, q⟩ := h
  obtain ⟨t, rfl⟩ := rx
  cases ry
  exact add_int_bool ⟨.int (i + b2i k), H, I.tok _, ⟨_, rfl⟩, q⟩
end

/-! ### comparisons -/
/-- the scalars that == tells apart as data does -/
def scal : V → V → Bool
  | .non, .non => true | .non, .int _ => true | .int _, .non => true | .non, .bl _ => true | .bl _, .non => true | .non, .str _ => true | .str _, .non => true
  | .int _, .int _ => true | .bl _, .bl _ => true | .str _, .str _ => true | .byt _, .byt _ => true
  | .int _, .str _ => true | .str _, .int _ => true | .bl _, .str _ => true | .str _, .bl _ => true
  | _, _ => false
def rEq : R2 := fun x y H Q => scal x y = true ∧ Q (.bl (decide (x = y))) H
def rNe : R2 := fun x y H Q => scal x y = true ∧ Q (.bl (!decide (x = y))) H

theorem dec_int {i j : Int} : decide (V.int i = V.int j) = (i == j) := by
  rw [Bool.eq_iff_iff]
  simp
theorem dec_bl {i j : Bool} : decide (V.bl i = V.bl j) = (i == j) := by
  rw [Bool.eq_iff_iff]
  simp
theorem dec_str {i j : Str} : decide (V.str i = V.str j) = (i == j) := by
  rw [Bool.eq_iff_iff]
  simp
theorem dec_byt {i j : Array UInt8} : decide (V.byt i = V.byt j) = (i.toList == j.toList) := by
  rw [Bool.eq_iff_iff]
  cases i
  cases j
  simp

section
variable {X : Cx} {a b c : Expr} {ta tb tc : TE} {pos : Pos}
theorem fin_bl {pins : List (Addr × Obj)} {σ : St} {H : Hp} {s : Shared} {Q : VK} {k k' : Bool} (I : Inv X pins σ H s) (q : Q (.bl k) H) (e : k = k') : EP X pins σ Q (.bool k') s := by
  subst e
  exact ⟨.bl k, H, I, rfl, q⟩
theorem op_eq : OpR X (compareOp .Eq) rEq := by
  intro pins s σ H x y v u Q I rx ry h
  obtain ⟨hs, q⟩ := h
  cases x with
  | non =>
    cases rx
    cases y with
    | non => cases ry; exact PySem.EqNone.eq_none_none (fin_bl I q (by simp))
    | bl j => cases ry; exact PySem.EqNone.eq_none_bool (fin_bl I q (by simp))
    | int j => obtain ⟨t', rfl⟩ := ry; exact PySem.EqNone.eq_none_int (fin_bl I q (by simp))
    | str j => obtain ⟨t', rfl⟩ := ry; exact PySem.EqNone.eq_none_str (fin_bl I q (by simp))
    | _ => exact absurd (show false = true from hs) Bool.false_ne_true
  | bl i =>
    cases rx
    cases y with
    | non => cases ry; exact PySem.EqNone.eq_bool_none (fin_bl I q (by simp))
    | bl j => cases ry; exact eq_bool (fin_bl I q dec_bl)
    | str j => obtain ⟨t', rfl⟩ := ry; exact PySem.EqMixed.eq_bool_str (fin_bl I q (by simp))
    | _ => exact absurd (show false = true from hs) Bool.false_ne_true
  | int i =>
    obtain ⟨t, rfl⟩ := rx
    cases y with
    | non => cases ry; exact PySem.EqNone.eq_int_none (fin_bl I q (by simp))
    | int j => obtain ⟨t', rfl⟩ := ry; exact eq_int (fin_bl I q dec_int)
    | str j => obtain ⟨t', rfl⟩ := ry; exact PySem.EqMixed.eq_int_str (fin_bl I q (by simp))
    | _ => exact absurd (show false = true from hs) Bool.false_ne_true
  | str i =>
    obtain ⟨t, rfl⟩ := rx
    cases y with
    | non => cases ry; exact PySem.EqNone.eq_str_none (fin_bl I q (by simp))
    | bl j => cases ry; exact PySem.EqMixed.eq_str_bool (fin_bl I q (by simp))
    | int j => obtain ⟨t', rfl⟩ := ry; exact PySem.EqMixed.eq_str_int (fin_bl I q (by simp))
    | str j => obtain ⟨t', rfl⟩ := ry; exact eq_str (fin_bl I q dec_str)
    | _ => exact absurd (show false = true from hs) Bool.false_ne_true
  | byt i =>
    obtain ⟨t, rfl⟩ := rx
    cases y with
    | byt j => obtain ⟨t', rfl⟩ := ry; exact PySem.W.eq_bytes (fin_bl I q dec_byt)
    | _ => exact absurd (show false = true from hs) Bool.false_ne_true
  | _ => cases y <;> exact absurd (show false = true from hs) Bool.false_ne_true
theorem op_ne : OpR X (compareOp .NotEq) rNe := by
  intro pins s σ H x y v u Q I rx ry h
  obtain ⟨hs, q⟩ := h
  cases x with
  | non =>
    cases rx
    cases y with
    | non => cases ry; exact PySem.EqNone.ne_none_none (fin_bl I q (by simp))
    | bl j => cases ry; exact PySem.EqNone.ne_none_bool (fin_bl I q (by simp))
    | int j => obtain ⟨t', rfl⟩ := ry; exact PySem.EqNone.ne_none_int (fin_bl I q (by simp))
    | str j => obtain ⟨t', rfl⟩ := ry; exact PySem.EqNone.ne_none_str (fin_bl I q (by simp))
    | _ => exact absurd (show false = true from hs) Bool.false_ne_true
  | bl i =>
    cases rx
    cases y with
    | non => cases ry; exact PySem.EqNone.ne_bool_none (fin_bl I q (by simp))
    | bl j => cases ry; exact ne_bool (fin_bl I q (congrArg not dec_bl))
    | str j => obtain ⟨t', rfl⟩ := ry; exact PySem.EqMixed.ne_bool_str (fin_bl I q (by simp))
    | _ => exact absurd (show false = true from hs) Bool.false_ne_true
  | int i =>
    obtain ⟨t, rfl⟩ := rx
    cases y with
    | non => cases ry; exact PySem.EqNone.ne_int_none (fin_bl I q (by simp))
    | int j => obtain ⟨t', rfl⟩ := ry; exact ne_int (fin_bl I q (congrArg not dec_int))
    | str j => obtain ⟨t', rfl⟩ := ry; exact PySem.EqMixed.ne_int_str (fin_bl I q (by simp))
    | _ => exact absurd (show false = true from hs) Bool.false_ne_true
  | str i =>
    obtain ⟨t, rfl⟩ := rx
    cases y with
    | non => cases ry; exact PySem.EqNone.ne_str_none (fin_bl I q (by simp))
    | bl j => cases ry; exact PySem.EqMixed.ne_str_bool (fin_bl I q (by simp))
    | int j => obtain ⟨t', rfl⟩ := ry; exact PySem.EqMixed.ne_str_int (fin_bl I q (by simp))
    | str j => obtain ⟨t', rfl⟩ := ry; exact ne_str (fin_bl I q (congrArg not dec_str))
    | _ => exact absurd (show false = true from hs) Bool.false_ne_true
  | byt i =>
    obtain ⟨t, rfl⟩ := rx
    cases y with
    | byt j => obtain ⟨t', rfl⟩ := ry; exact PySem.W.ne_bytes (fin_bl I q (congrArg not dec_byt))
    | _ => exact absurd (show false = true from hs) Bool.false_ne_true
  | _ => cases y <;> exact absurd (show false = true from hs) Bool.false_ne_true

theorem op_lt : OpR X (compareOp .Lt) (rI0 fun i j => .bl (decide (i < j))) := opB0 fun _ _ _ _ _ _ _ q => lt_int q
theorem op_le : OpR X (compareOp .LtE) (rI0 fun i j => .bl (decide (i ≤ j))) := opB0 fun _ _ _ _ _ _ _ q => le_int q
theorem op_gt : OpR X (compareOp .Gt) (rI0 fun i j => .bl (decide (j < i))) := opB0 fun _ _ _ _ _ _ _ q => gt_int q
theorem op_ge : OpR X (compareOp .GtE) (rI0 fun i j => .bl (decide (j ≤ i))) := opB0 fun _ _ _ _ _ _ _ q => ge_int q
theorem op_lt_str : OpR X (compareOp .Lt) (fun x y H Q => ∃ i j, x = .str i ∧ y = .str j ∧ Q (.bl (decide (i.cps.toList < j.cps.toList))) H) := by
  intro pins s σ H x y v u Q I rx ry h
  obtain ⟨i, j, rfl, rfl, q⟩ := h
  obtain ⟨t, rfl⟩ := rx
  obtain ⟨t', rfl⟩ := ry
  exact lt_str (fin_bl I q rfl)
/-- the one string within the other -/
theorem op_in_str : OpR X (compareOp .In) (fun x y H Q => ∃ i j, x = .str i ∧ y = .str j ∧ Q (.bl (!(Builtin.Str.occurrences j i 0 j.length 1).isEmpty)) H) := by
  intro pins s σ H x y v u Q I rx ry h
  obtain ⟨i, j, rfl, rfl, q⟩ := h
  obtain ⟨t, rfl⟩ := rx
  obtain ⟨t', rfl⟩ := ry
  exact in_str (fin_bl I q rfl)

/-- is None, is not None: the right side a value none -/
theorem op_isN : OpR X (compareOp .Is) (fun x y H Q => y = .non ∧ Q (.bl (decide (x = .non))) H) := by
  intro pins s σ H x y v u Q I rx ry h
  obtain ⟨rfl, q⟩ := h
  cases ry
  refine is_none_gen (fin_bl I q ?_)
  cases x <;> first
    | (cases rx; rfl)
    | (obtain ⟨t, rfl⟩ := rx; rfl)
theorem op_notN : OpR X (compareOp .IsNot) (fun x y H Q => y = .non ∧ Q (.bl (!decide (x = .non))) H) := by
  intro pins s σ H x y v u Q I rx ry h
  obtain ⟨rfl, q⟩ := h
  cases ry
  refine isnot_none_gen (fin_bl I q ?_)
  cases x <;> first
    | (cases rx; rfl)
    | (obtain ⟨t, rfl⟩ := rx; rfl)

theorem op_notin_str : OpR X (compareOp .NotIn) (fun x y H Q => ∃ i j, x = .str i ∧ y = .str j ∧ Q (.bl (!(!(Builtin.Str.occurrences j i 0 j.length 1).isEmpty))) H) := by
  intro pins s σ H x y v u Q I rx ry h
  obtain ⟨i, j, rfl, rfl, q⟩ := h
  obtain ⟨t, rfl⟩ := rx
  obtain ⟨t', rfl⟩ := ry
  exact notIn_str (fin_bl I q rfl)
/-- is, is not of two objects that are tracked lists or instances -/
def isObj : HO → Bool
  | .lst _ => true
  | .ins _ _ _ => true
  | _ => false
theorem obj_there {pins : List (Addr × Obj)} {s : Shared} {σ : St} {H : Hp} {a : Addr} {o : HO} (I : Inv X pins σ H s) (h : H a = some o) (p : isObj o = true) : ∃ ob, s.heap.get? a = some ob ∧ ob.cls ≠ .type "tuple" := by
  cases o with
  | lst xs =>
    obtain ⟨_, its, n, _, e⟩ : xs.length ≤ sizeLine ∧ ∃ (its : List Value) (n : Nat), Vals xs its ∧ s.heap.get? a = some { cls := .type "list", data := .seq its.toArray n } := I.hok a _ h
    exact ⟨_, e, (by show Value.type "list" ≠ .type "tuple"; decide +kernel)⟩
  | ins C dx fs =>
    have x := I.hok a _ h
    obtain ⟨_, _, _, e, _⟩ := x
    exact ⟨_, e, (by show Value.ref C ≠ .type "tuple"; exact fun z => by cases z)⟩
  | _ => exact absurd (show false = true from p) Bool.false_ne_true
theorem op_is_ref : OpR X (compareOp .Is) (fun x y H Q => ∃ a b oa ob, x = .ref a ∧ y = .ref b ∧ H a = some oa ∧ isObj oa = true ∧ H b = some ob ∧ isObj ob = true ∧ Q (.bl (decide (a = b))) H) := by
  intro pins s σ H x y v u Q I rx ry h
  obtain ⟨a, b, oa, ob, rfl, rfl, ha, pa, hb, pb, q⟩ := h
  cases rx
  cases ry
  obtain ⟨o1, e1, n1⟩ := obj_there I ha pa
  obtain ⟨o2, e2, _⟩ := obj_there I hb pb
  by_cases z : a = b
  · subst z
    exact wpAny_is_ref_self (fin_bl I q (by simp))
  · exact wpAny_is_ref_other z e1 e2 n1 (fin_bl I q (by simp [z]))
theorem op_isnot_ref : OpR X (compareOp .IsNot) (fun x y H Q => ∃ a b oa ob, x = .ref a ∧ y = .ref b ∧ H a = some oa ∧ isObj oa = true ∧ H b = some ob ∧ isObj ob = true ∧ Q (.bl (!decide (a = b))) H) := by
  intro pins s σ H x y v u Q I rx ry h
  obtain ⟨a, b, oa, ob, rfl, rfl, ha, pa, hb, pb, q⟩ := h
  cases rx
  cases ry
  obtain ⟨o1, e1, n1⟩ := obj_there I ha pa
  obtain ⟨o2, e2, _⟩ := obj_there I hb pb
  by_cases z : a = b
  · subst z
    exact wpAny_isNot_ref_self (fin_bl I q (by simp))
  · exact wpAny_isNot_ref_other z e1 e2 n1 (fin_bl I q (by simp [z]))

/-- two rules for one operation: by cases -/
theorem OpR.or {f : Value → Value → Sem Value} {r r' : R2} (h : OpR X f r) (h' : OpR X f r') : OpR X f (fun x y H Q => r x y H Q ∨ r' x y H Q) := by
  intro pins s σ H x y v u Q I rx ry q
  rcases q with q | q
  · exact h pins s σ H x y v u Q I rx ry q
  · exact h' pins s σ H x y v u Q I rx ry q

theorem nomark (b : Expr) {op : CmpOp} (h : op ≠ .In := by decide) (h2 : op ≠ .NotIn := by decide) : behindInMarks op b = false := by
  have e1 : (op == CmpOp.In) = false := by cases op <;> first | rfl | exact absurd rfl h
  have e2 : (op == CmpOp.NotIn) = false := by cases op <;> first | rfl | exact absurd rfl h2
  cases b <;> simp [behindInMarks, e1, e2]
/-- a comparison as a value; hm: nomark b, or (for in, not in) by with_unfolding_all rfl -/
theorem pe_cmpR {op : CmpOp} {r : R2} (ho : OpR X (compareOp op) r) (ha : PE X a ta) (hb : PE X b tb) (hm : behindInMarks op b = false) : PE X (.Compare a [op] [b] pos) (tOp r ta tb) := by
  intro pins s σ H Q I h
  exact wpAny_Compare1 (binT ha hb I h fun v u s2 x y H2 I2 rx ry q => ho pins s2 σ H2 x y v u Q I2 rx ry q) hm
/-- a reading of a value as a test -/
def tTest (t : TE) : TT := fun σ H Q => t σ H fun x H' => ∃ k, x = .bl k ∧ Q k H'
theorem pt_cmpR {op : CmpOp} {r : R2} (ho : OpR X (compareOp op) r) (ha : PE X a ta) (hb : PE X b tb) (hm : behindInMarks op b = false) : PT X (.Compare a [op] [b] pos) (tTest (tOp r ta tb)) := by
  intro pins s σ H Q I h
  refine wpAny_isTrue_Compare1 (thn (ha pins s σ H _ I h) fun v s1 ⟨x, H1, I1, r1, q1⟩ => thn (hb pins s1 σ H1 _ I1 q1) fun u s2 ⟨y, H2, I2, r2, q2⟩ =>
    thn (ho pins s2 σ H2 x y v u _ I2 r1 r2 q2) fun c s3 ⟨z, H3, I3, r3, k, e, q3⟩ => ?_) hm
  subst e
  cases r3
  exact wpAny_truthy_bool ⟨H3, I3, q3⟩
/-- a op1 b op2 c -/
def tChain (r r' : R2) (ta tb tc : TE) : TE := fun σ H Q => ta σ H fun x H1 => tb σ H1 fun y H2 => r x y H2 fun z H3 => ∃ k, z = .bl k ∧
  (if k = true then tc σ H3 fun w' H4 => r' y w' H4 Q else Q (.bl false) H3)
theorem pe_chain {op op' : CmpOp} {r r' : R2} (ho : OpR X (compareOp op) r) (ho' : OpR X (compareOp op') r') (ha : PE X a ta) (hb : PE X b tb) (hc : PE X c tc)
    (hm : lastMarks [op, op'] [b, c] = false := by with_unfolding_all rfl) : PE X (.Compare a [op, op'] [b, c] pos) (tChain r r' ta tb tc) := by
  intro pins s σ H Q I h
  refine Compare_chain (thn (ha pins s σ H _ I h) fun v s1 ⟨x, H1, I1, r1, q1⟩ => chain_link (thn (hb pins s1 σ H1 _ I1 q1) fun u s2 ⟨y, H2, I2, r2, q2⟩ =>
    thn (ho pins s2 σ H2 x y v u _ I2 r1 r2 q2) fun d s3 ⟨z, H3, I3, r3, k, e, q3⟩ => ?_)) hm
  subst e
  cases r3
  refine wpAny_truthy_bool ?_
  cases k with
  | false => exact ite_ff ⟨.bl false, H3, I3, rfl, q3⟩
  | true => exact ite_tt (chain_last (thn (hc pins s3 σ H3 _ I3 q3) fun w' s4 ⟨z', H4, I4, r4, q4⟩ => ho' pins s4 σ H4 y z' u w' Q I4 r2 r4 q4))
theorem pt_chain {op op' : CmpOp} {r r' : R2} (ho : OpR X (compareOp op) r) (ho' : OpR X (compareOp op') r') (ha : PE X a ta) (hb : PE X b tb) (hc : PE X c tc)
    (hm : lastMarks [op, op'] [b, c] = false := by with_unfolding_all rfl) : PT X (.Compare a [op, op'] [b, c] pos) (tTest (tChain r r' ta tb tc)) := by
  intro pins s σ H Q I h
  refine isTrue_chain (thn (ha pins s σ H _ I h) fun v s1 ⟨x, H1, I1, r1, q1⟩ => test_link (thn (hb pins s1 σ H1 _ I1 q1) fun u s2 ⟨y, H2, I2, r2, q2⟩ =>
    thn (ho pins s2 σ H2 x y v u _ I2 r1 r2 q2) fun d s3 ⟨z, H3, I3, r3, k, e, q3⟩ => ?_)) hm
  subst e
  cases r3
  refine wpAny_truthy_bool ?_
  cases k with
  | false =>
    obtain ⟨k', e', q'⟩ := q3
    cases e'
    exact ite_ff ⟨H3, I3, q'⟩
  | true =>
    refine ite_tt (test_last (thn (hc pins s3 σ H3 _ I3 q3) fun w' s4 ⟨z', H4, I4, r4, q4⟩ => thn (ho' pins s4 σ H4 y z' u w' _ I4 r2 r4 q4) fun d' s5 ⟨z2, H5, I5, r5, k2, e2, q5⟩ => ?_))
    subst e2
    cases r5
    exact wpAny_truthy_bool ⟨H5, I5, q5⟩

/-! ### truth -/
/-- a value's truth by the abstract heap -/
def TruV (K : PySem.W.Frag) (x : V) (H : Hp) (k : Bool) : Prop :=
  match x with
  | .non => k = false
  | .bl b => k = b
  | .int i => k = (i != 0)
  | .str y => y.length ≤ sizeLine ∧ k = ((y.length : Int) != 0)
  | .byt y => y.size ≤ sizeLine ∧ k = ((y.size : Int) != 0)
  | .ref p => (∃ xs, SqL K H p xs ∧ k = !xs.isEmpty) ∨ (∃ xs, SqT K H p xs ∧ k = !xs.isEmpty) ∨ ∃ kvs, H p = some (.dK kvs) ∧ k = !kvs.isEmpty
  | _ => False
theorem isEmpty_kv {κ : Type} {kvs : List (κ × V)} {vs : List (κ × Value)} (r : KV kvs vs) : (!vs.isEmpty) = !kvs.isEmpty := by
  cases r <;> rfl
theorem isEmpty_of {xs : List V} {its : List Value} (r : Vals xs its) : (!its.toArray.isEmpty) = !xs.isEmpty := by
  cases r <;> simp
theorem line63 : (sizeLine : Nat) < 2 ^ 63 := by rw [sizeLine_eq]; decide
theorem tru_ok : TruR X (fun x H Q => ∃ k, TruV X.K x H k ∧ Q k H) := by
  intro pins s σ H x v Q I rx h
  obtain ⟨k, e, q⟩ := h
  have hl := line63
  have hs : sizeLine = 16777216 := sizeLine_eq
  cases x with
  | non =>
    cases rx
    have e' : k = false := e
    subst e'
    exact truthy_none ⟨H, I, q⟩
  | bl b =>
    cases rx
    have e' : k = b := e
    subst e'
    exact wpAny_truthy_bool ⟨H, I, q⟩
  | int i =>
    obtain ⟨t, rfl⟩ := rx
    have e' : k = (i != 0) := e
    subst e'
    exact PySem.P.truthy_int ⟨H, I, q⟩
  | str y =>
    obtain ⟨t, rfl⟩ := rx
    obtain ⟨hy, e'⟩ : y.length ≤ sizeLine ∧ k = ((y.length : Int) != 0) := e
    subst e'
    exact PySem.P.truthy_str (by omega) ⟨H, I.tok _, q⟩
  | byt y =>
    obtain ⟨t, rfl⟩ := rx
    obtain ⟨hy, e'⟩ : y.size ≤ sizeLine ∧ k = ((y.size : Int) != 0) := e
    subst e'
    exact PySem.W.truthy_bytes (by omega) ⟨H, I.tok _, q⟩
  | ref p =>
    cases rx
    have e' : (∃ xs, SqL X.K H p xs ∧ k = !xs.isEmpty) ∨ (∃ xs, SqT X.K H p xs ∧ k = !xs.isEmpty) ∨ ∃ kvs, H p = some (.dK kvs) ∧ k = !kvs.isEmpty := e
    rcases e' with ⟨xs, hx, e'⟩ | ⟨xs, hx, e'⟩ | ⟨kvs, hx, e'⟩
    · subst e'
      obtain ⟨its, r, pl, hz⟩ := I.list hx
      have hlen := r.length
      exact wpAny_truthy_list pl.isList (by simp only [List.size_toArray]; omega) ⟨H, I.tok _, by rw [isEmpty_of r]; exact q⟩
    · subst e'
      obtain ⟨its, r, pl, hz⟩ := I.tuple hx
      have hlen := r.length
      exact truthy_tuple pl (by simp only [List.size_toArray]; omega) ⟨H, I.tok _, by rw [isEmpty_of r]; exact q⟩
    · subst e'
      obtain ⟨hz, hS, vs, r, m⟩ : kvs.length ≤ sizeLine ∧ (p == sysModules) = false ∧ ∃ vs, KV kvs vs ∧ s.heap.DictOf (mixKind X.prog X.w) p vs := I.hok p _ hx
      have hlen : kvs.length = vs.length := Paired.length r
      exact wpAny_truthy_dict hS m (by omega) ⟨H, I.tok _, by rw [isEmpty_kv r]; exact q⟩
  | _ => exact (show False from e).elim
/-- any expression whose test is its value's truth (a name, a call, a subscript, a field ..: he by fun _ => rfl) -/
theorem pt_truth (ha : PE X a ta) (he : ∀ whole, isTrue a X.env whole = (do let v ← whole; standAt a.pos; holding [v] (truthy v))) :
    PT X a (fun σ H Q => ta σ H fun x H' => ∃ k, TruV X.K x H' k ∧ Q k H') := by
  intro pins s σ H Q I h
  exact isTrue_plain (thn (ha pins s σ H _ I h) fun v s1 ⟨x, H1, I1, r1, q1⟩ => tru_ok pins s1 σ H1 x v Q I1 r1 q1) (he _)

/-! ### strs and bytes -/
theorem pe_byt {x : List UInt8} {k : Nat} : PE X (.Constant (.bytes x) k pos) (fun _ H Q => Q (.byt x.toArray) H) := fun _ _ _ H _ I h => PySem.W.Constant_bytes ⟨.byt x.toArray, H, I.tok _, ⟨_, rfl⟩, h⟩
theorem op_add_str : OpR X (binaryOp .Add) (fun x y H Q => ∃ i j, x = .str i ∧ y = .str j ∧ i.length + j.length ≤ sizeLine ∧ Q (.str (i ++ j)) H) := by
  intro pins s σ H x y v u Q I rx ry h
  obtain ⟨i, j, rfl, rfl, hz, q⟩ := h
  obtain ⟨t, rfl⟩ := rx
  obtain ⟨t', rfl⟩ := ry
  exact add_str (fun t' tk => ⟨.str (i ++ j), H, I.tok _, ⟨_, rfl⟩, q⟩) hz
theorem iop_add_str : OpR X (inplaceOp .Add) (fun x y H Q => ∃ i j, x = .str i ∧ y = .str j ∧ i.length + j.length ≤ sizeLine ∧ Q (.str (i ++ j)) H) := by
  intro pins s σ H x y v u Q I rx ry h
  obtain ⟨i, j, rfl, rfl, hz, q⟩ := h
  obtain ⟨t, rfl⟩ := rx
  obtain ⟨t', rfl⟩ := ry
  exact iadd_str (fun t' tk => ⟨.str (i ++ j), H, I.tok _, ⟨_, rfl⟩, q⟩) hz
theorem op_add_byt : OpR X (binaryOp .Add) (fun x y H Q => ∃ i j, x = .byt i ∧ y = .byt j ∧ i.size + j.size ≤ 16777216 ∧ Q (.byt (i ++ j)) H) := by
  intro pins s σ H x y v u Q I rx ry h
  obtain ⟨i, j, rfl, rfl, hz, q⟩ := h
  obtain ⟨t, rfl⟩ := rx
  obtain ⟨t', rfl⟩ := ry
  exact PySem.W.KBy.add_bytes hz (fun t' tk => ⟨.byt (i ++ j), H, I.tok _, ⟨_, rfl⟩, q⟩)

def PlainIxT (b : Expr) : Prop := ∀ o i, subscripted b false o i = operate [o, i] (getItem o i)
/-- s[i], 0 ≤ i < len -/
theorem pe_item_str (ha : PE X a ta) (hb : PE X b tb) (hs : PlainIxT b) :
    PE X (.Subscript a b pos) (tOp (fun x y H Q => ∃ z i c, x = .str z ∧ y = .int i ∧ 0 ≤ i ∧ i < 2 ^ 63 ∧ i < z.length ∧ z.cps[i.toNat]? = some c ∧ Q (.str ⟨#[c]⟩) H) ta tb) := by
  intro pins s σ H Q I h
  refine Subscript_ (binT ha hb I h fun v u s2 x y H2 I2 rx ry q => ?_)
  obtain ⟨z, i, c, rfl, rfl, h0, h63, h1, hc, q⟩ := q
  obtain ⟨t, rfl⟩ := rx
  obtain ⟨t', rfl⟩ := ry
  have e : seqIndex? i z.length = some i.toNat := PySem.StrLaws.seqIndex_nonneg h0 h1
  exact tail_any (typeIs_str s2 z t) slot_str_getitem.lookup (getItem_str (c := c) (by
    have e1 : decide (i < -(2 ^ 63 : Int)) = false := decide_eq_false (by omega)
    have e2 : decide (i ≥ 2 ^ 63) = false := decide_eq_false (by omega)
    rw [e1, e2] <;> rfl) (by rw [e]; exact hc) ⟨.str ⟨#[c]⟩, H2, I2.tok _, ⟨_, rfl⟩, q⟩) (hs _ _)
/-- b[i], 0 ≤ i < len -/
theorem pe_item_byt (ha : PE X a ta) (hb : PE X b tb) (hs : PlainIxT b) :
    PE X (.Subscript a b pos) (tOp (fun x y H Q => ∃ (z : List UInt8) (i : Int), x = .byt z.toArray ∧ y = .int i ∧ z.length ≤ sizeLine ∧ 0 ≤ i ∧ i < z.length ∧ Q (.int ((z.getD i.toNat 0).toNat : Nat)) H) ta tb) := by
  intro pins s σ H Q I h
  refine Subscript_ (binT ha hb I h fun v u s2 x y H2 I2 rx ry q => ?_)
  obtain ⟨z, i, rfl, rfl, hz, h0, h1, q⟩ := q
  obtain ⟨t, rfl⟩ := rx
  obtain ⟨t', rfl⟩ := ry
  have hl : sizeLine = 16777216 := sizeLine_eq
  exact tail_any (PySem.W.typeIs_bytes s2 z.toArray t) PySem.W.FB.slot_bytes_getitem.lookup (PySem.W.getItem_bytes (by omega) h0 h1 ⟨.int ((z.getD i.toNat 0).toNat : Nat), H2, I2.tok _, ⟨_, rfl⟩, q⟩) (hs _ _)

/-! ### scalar builtins, by CallR -/
theorem vals1 {x : V} {us : List Value} (r : Vals [x] us) : ∃ u, us = [u] ∧ RelV x u := by
  cases r with
  | cons r1 r2 => cases r2; exact ⟨_, rfl, r1⟩
theorem vals2 {x y : V} {us : List Value} (r : Vals [x, y] us) : ∃ u w', us = [u, w'] ∧ RelV x u ∧ RelV y w' := by
  cases r with
  | cons r1 r2 =>
    cases r2 with
    | cons r3 r4 => cases r4; exact ⟨_, _, rfl, r1, r3⟩
theorem call_abs : CallR X (.builtin "abs") (fun xs H Q => ∃ i, xs = [.int i] ∧ Q (.int (if i < 0 then -i else i)) H) := by
  intro pins s σ H xs us Q I r h
  obtain ⟨i, rfl, q⟩ := h
  obtain ⟨u, rfl, t, rfl⟩ := vals1 r
  exact call_abs_int fun u tk => ⟨.int (if i < 0 then -i else i), H, I.tok _, ⟨_, rfl⟩, q⟩
theorem call_max2 (hc : X.calm = true) : CallR X (.builtin "max") (fun xs H Q => ∃ i j, xs = [.int i, .int j] ∧ Q (.int (if j > i then j else i)) H) := by
  intro pins s σ H xs us Q I r h
  obtain ⟨i, j, rfl, q⟩ := h
  obtain ⟨u, w', rfl, ⟨t, rfl⟩, ⟨t', rfl⟩⟩ := vals2 r
  refine max_two_ints (I.ok.hd hc) fun h' tk k => ⟨_, H, I.kept k, ?_, q⟩
  by_cases hj : j > i
  · rw [if_pos hj, if_pos hj]; exact ⟨_, rfl⟩
  · rw [if_neg hj, if_neg hj]; exact ⟨_, rfl⟩
theorem call_min2 (hc : X.calm = true) : CallR X (.builtin "min") (fun xs H Q => ∃ i j, xs = [.int i, .int j] ∧ Q (.int (if j < i then j else i)) H) := by
  intro pins s σ H xs us Q I r h
  obtain ⟨i, j, rfl, q⟩ := h
  obtain ⟨u, w', rfl, ⟨t, rfl⟩, ⟨t', rfl⟩⟩ := vals2 r
  refine min_two_ints (I.ok.hd hc) fun h' tk k => ⟨_, H, I.kept k, ?_, q⟩
  by_cases hj : j < i
  · rw [if_pos hj, if_pos hj]; exact ⟨_, rfl⟩
  · rw [if_neg hj, if_neg hj]; exact ⟨_, rfl⟩
theorem call_int1 : CallR X (.type "int") (fun xs H Q => (∃ i, xs = [.int i] ∧ Q (.int i) H) ∨ ∃ k, xs = [.bl k] ∧ Q (.int (if k then 1 else 0)) H) := by
  intro pins s σ H xs us Q I r h
  rcases h with ⟨i, rfl, q⟩ | ⟨k, rfl, q⟩
  · obtain ⟨u, rfl, t, rfl⟩ := vals1 r
    exact call_int_int ⟨.int i, H, I, ⟨_, rfl⟩, q⟩
  · obtain ⟨u, rfl, r1⟩ := vals1 r
    cases r1
    exact call_int_bool ⟨.int (if k then 1 else 0), H, I.tok _, ⟨_, rfl⟩, q⟩
theorem call_bool1 : CallR X (.type "bool") (fun xs H Q => (∃ i, xs = [.int i] ∧ Q (.bl (i != 0)) H) ∨ ∃ k, xs = [.bl k] ∧ Q (.bl k) H) := by
  intro pins s σ H xs us Q I r h
  rcases h with ⟨i, rfl, q⟩ | ⟨k, rfl, q⟩
  · obtain ⟨u, rfl, t, rfl⟩ := vals1 r
    exact call_bool_int ⟨.bl (i != 0), H, I, rfl, q⟩
  · obtain ⟨u, rfl, r1⟩ := vals1 r
    cases r1
    exact call_bool_bool ⟨.bl k, H, I, rfl, q⟩
theorem call_str_int : CallR X (.type "str") (fun xs H Q => ∃ i, xs = [.int i] ∧ i.natAbs.log2 < 1920 ∧ Q (.str (toString i)) H) := by
  intro pins s σ H xs us Q I r h
  obtain ⟨i, rfl, hz, q⟩ := h
  obtain ⟨u, rfl, t, rfl⟩ := vals1 r
  exact PySem.P.str_of_int hz ⟨.str _, H, I.tok _, ⟨_, rfl⟩, q⟩
theorem call_ord : CallR X (.builtin "ord") (fun xs H Q => ∃ x, xs = [.str x] ∧ x.length = 1 ∧ Q (.int (x.cps.getD 0 0 : Nat)) H) := by
  intro pins s σ H xs us Q I r h
  obtain ⟨x, rfl, hz, q⟩ := h
  obtain ⟨u, rfl, t, rfl⟩ := vals1 r
  exact ord_of_one hz ⟨.int _, H, I.tok _, ⟨_, rfl⟩, q⟩
theorem call_chr : CallR X (.builtin "chr") (fun xs H Q => ∃ i, xs = [.int i] ∧ 0 ≤ i ∧ i ≤ 1114111 ∧ Q (.str ⟨#[i.toNat]⟩) H) := by
  intro pins s σ H xs us Q I r h
  obtain ⟨i, rfl, h0, h1, q⟩ := h
  obtain ⟨u, rfl, t, rfl⟩ := vals1 r
  exact chr_of_range h0 h1 ⟨.str _, H, I.tok _, ⟨_, rfl⟩, q⟩
/-- len of a str, a bytes, a list, a tuple -/
def LenV (K : PySem.W.Frag) (x : V) (H : Hp) (n : Nat) : Prop :=
  match x with
  | .str y => y.length ≤ sizeLine ∧ n = y.length
  | .byt y => y.size ≤ sizeLine ∧ n = y.size
  | .ref p => (∃ xs, SqL K H p xs ∧ n = xs.length) ∨ ∃ xs, SqT K H p xs ∧ n = xs.length
  | _ => False
theorem call_len : CallR X (.builtin "len") (fun xs H Q => ∃ x n, xs = [x] ∧ LenV X.K x H n ∧ Q (.int n) H) := by
  intro pins s σ H xs us Q I r h
  obtain ⟨x, n, rfl, e, q⟩ := h
  obtain ⟨u, rfl, rx⟩ := vals1 r
  have hl := line63
  have hs : sizeLine = 16777216 := sizeLine_eq
  cases x with
  | str y =>
    obtain ⟨t, rfl⟩ := rx
    obtain ⟨hy, e'⟩ : y.length ≤ sizeLine ∧ n = y.length := e
    subst e'
    exact len_str (by omega) ⟨.int _, H, I.tok _, ⟨_, rfl⟩, q⟩
  | byt y =>
    obtain ⟨t, rfl⟩ := rx
    obtain ⟨hy, e'⟩ : y.size ≤ sizeLine ∧ n = y.size := e
    subst e'
    exact PySem.W.len_bytes (by omega) ⟨.int _, H, I.tok _, ⟨_, rfl⟩, q⟩
  | ref p =>
    cases rx
    have e' : (∃ xs, SqL X.K H p xs ∧ n = xs.length) ∨ ∃ xs, SqT X.K H p xs ∧ n = xs.length := e
    rcases e' with ⟨xs, hx, e'⟩ | ⟨xs, hx, e'⟩
    · subst e'
      obtain ⟨its, r', pl, hz⟩ := I.list hx
      have hlen := r'.length
      exact Calls.call_len_list pl.isList (by simp only [List.size_toArray]; omega) ⟨.int xs.length, H, I.tok _, ⟨_, by simp only [List.size_toArray]; rw [hlen]⟩, q⟩
    · subst e'
      obtain ⟨its, r', pl, hz⟩ := I.tuple hx
      have hlen := r'.length
      exact len_tuple pl (by simp only [List.size_toArray]; omega) ⟨.int xs.length, H, I.tok _, ⟨_, by simp only [List.size_toArray]; rw [hlen]⟩, q⟩
  | _ => exact (show False from e).elim
/-- divmod: a new tuple -/
theorem call_divmod : CallR X (.builtin "divmod") (fun xs H Q => ∃ i j, xs = [.int i, .int j] ∧ CDiv i j ∧ ∀ p, H p = none → Q (.ref p) (upd H p (.tup [.int (i / j), .int (i % j)]))) := by
  intro pins s σ H xs us Q I r h
  obtain ⟨i, j, rfl, ⟨h1, h2⟩, q⟩ := h
  obtain ⟨u, w', rfl, ⟨t, rfl⟩, ⟨t', rfl⟩⟩ := vals2 r
  refine divmod_int (by omega) ?_ (.inl (PyProof.noPylong_small (by omega)))
  rw [Int.fdiv_eq_ediv_of_nonneg i (by omega), Int.fmod_eq_emod_of_nonneg i (by omega)]
  have hn : H s.heap.objs.size = none := I.hok.fresh (Nat.le_refl _)
  refine ⟨.ref s.heap.objs.size, _, ?_, rfl, q _ hn⟩
  refine I.laid (fun b o e => Heap.get?_push_of_some _ e) (Nat.le_refl _) ⟨by simp only [List.length_cons, List.length_nil]; rw [sizeLine_eq]; decide, [.int (i / j) s.toks, .int (i % j) (s.toks + 1)], .cons ⟨_, rfl⟩ (.cons ⟨_, rfl⟩ .nil), ?_⟩
  exact ⟨_, Heap.get?_push_size s.heap rfl, rfl, 0, rfl⟩
end
end L2

namespace L2
open PySem PySem.Spec PyProof.Rows

/-! ### an instance, its attributes a map -/
structure ObjM (h : Heap) (x dx C : Addr) (mA : Str → Option Value) : Prop where
  obj : h.get? x = some (PySem.W.instObj C dx)
  ns : h.Ns1 dx mA
  ne : dx ≠ x

theorem lookIn_ns {h : Heap} {dx : Addr} {mA : Str → Option Value} (n : h.Ns1 dx mA) : ∃ od, h.get? dx = some od ∧ ∀ name, PySem.W.lookIn name od = some (mA name) := by
  obtain ⟨o, es, ep, ho, hd, hk, _, hm⟩ := n
  refine ⟨o, ho, fun name => ?_⟩
  have e := hm name
  unfold nsFind findBy at e
  rw [← Array.find?_toList] at e
  unfold PySem.W.lookIn
  rw [hd]
  dsimp only
  split
  · rename_i y q
    rw [q] at e
    exact congrArg some e
  · rename_i q
    rw [q] at e
    have a : es.toList.any (·.refKey) = false := by
      rw [List.any_eq_false]
      intro y hy
      obtain ⟨z, t, hkey⟩ := hk y (Array.mem_toList_iff.mp hy)
      simp [DictEntry.refKey, hkey]
    have a' : ¬ es.toList.any (·.refKey) = true := by rw [a]; exact Bool.false_ne_true
    rw [if_neg a']
    exact congrArg some e

theorem ObjM.look {h : Heap} {x dx C : Addr} {mA : Str → Option Value} (I : ObjM h x dx C mA) : ∃ od, PySem.W.InstAt h x (PySem.W.instObj C dx) C (some od) ∧ ∀ name, PySem.W.lookIn name od = some (mA name) :=
  let ⟨od, ho, hl⟩ := lookIn_ns I.ns
  ⟨od, ⟨I.obj, rfl, rfl, ho⟩, hl⟩

section
variable {prog : Program} {w : World} {A : Around} {E : Value → Shared → Prop} {s : Shared} {K : PySem.W.Frag} {x dx C f : Addr} {mA : Str → Option Value} {name : Str} {v : Value}

theorem get_map {expr : Bool} {Q : Value → Shared → Prop} (X : K.In s.heap) (I : ObjM s.heap x dx C mA) (hg : PySem.W.plainGet K C name = true) (hh : PySem.W.hasDictIn K C = true)
    (ha : PySem.W.findIn K (.ref C) name = some none) (hv : mA name = some v) (hv' : PySem.W.handedIn v = true) (h : Q v { s with toks := s.toks + 1 }) :
    wpAny (model prog w) A (getAttr (.ref x) name expr) Q E s := by
  obtain ⟨od, J, hl⟩ := I.look
  exact PySem.W.get_value X J (PySem.W.plainGet_of hg).1 (PySem.W.findObj_own hh ha rfl (by rw [hl, hv])) hv' h

theorem get_const {expr : Bool} {a : Value} {Q : Value → Shared → Prop} (X : K.In s.heap) (I : ObjM s.heap x dx C mA) (hg : PySem.W.plainGet K C name = true) (hh : PySem.W.hasDictIn K C = true)
    (ha : PySem.W.findIn K (.ref C) name = some (some a)) (hn : PySem.W.specialIn K a "__get__" = some none) (hc : PySem.W.copiedNames.contains name = false) (hv : mA name = none) (hv' : PySem.W.handedIn a = true)
    (h : Q a { s with toks := s.toks + 1 }) : wpAny (model prog w) A (getAttr (.ref x) name expr) Q E s := by
  obtain ⟨od, J, hl⟩ := I.look
  exact PySem.W.get_value X J (PySem.W.plainGet_of hg).1 (PySem.W.findObj_cls hh ha hn hv' hc (by rw [hl, hv])) hv' h

theorem get_meth {pl : Sem Bool} {Q : Value × List Value → Shared → Prop} (X : K.In s.heap) (I : ObjM s.heap x dx C mA) (hg : PySem.W.plainGet K C name = true)
    (hf : PySem.W.findIn K (.ref C) name = some (some (.ref f))) (ht : PySem.W.isFn K (.ref f) = true) (hv : mA name = none) (h : Q (.ref f, [.ref x]) s) :
    wpAny (model prog w) A (getMethod (.ref x) name pl) Q E s := by
  obtain ⟨od, J, hl⟩ := I.look
  exact PySem.W.method_fn X J (PySem.W.plainGet_of hg).1 (PySem.W.plainGet_of hg).2 hf (beq_iff_eq.mp ht) (by show (PySem.W.lookIn name od).map (·.isSome) = some false; rw [hl, hv]; rfl) h

theorem set_map {ns : List Str} {Q : Unit → Shared → Prop} (X : K.In s.heap) (I : ObjM s.heap x dx C mA)
    (hs : PySem.W.findIn K (.ref C) "__setattr__" = some (some (.builtin "object.__setattr__"))) (hp : PySem.W.plainOver K C = true) (ht : PySem.W.takerIn K C name = some none) (hh : PySem.W.hasDictIn K C = true)
    (hw : PySem.Within mA ns) (hsz : ns.length ≤ sizeLine)
    (h : ∀ h', ObjM h' x dx C (fun y => if y = name then some v else mA y) → Heap.SameBut dx s.heap h' → Q () { s with heap := h', toks := s.toks + 2 }) :
    wpAny (model prog w) A (setAttr (.ref x) name v) Q E s := by
  obtain ⟨od, J, hl⟩ := I.look
  refine PySem.W.set_plain X J hs (PySem.W.osa_open (s := { s with toks := s.toks + 1 }) (r := none) X J hp ht fun b => ?_)
  obtain ⟨cd, hc, hd'⟩ := PySem.W.any_some hh
  have hx : s.heap.get? x = some ⟨.ref C, some dx, .plain, #[]⟩ := I.obj
  refine wpAny_bind (wpAny_pure (wpAny_bind (wpAny_bind (wpAny_loadPart hx (wpAny_bind (PySem.W.Looks.here (s := { s with toks := s.toks + 1 }) (PySem.W.looks_clsIn X hc) ?_))))))
  rw [hd']
  refine wpAny_pure (a := some dx) (wpAny_bind (wpAny_pure (wpAny_bind ?_)))
  refine wpAny_nsSet1 (s := { s with toks := s.toks + 1 }) I.ns fun h' hn2 hs2 => ?_
  obtain ⟨oD, esD, epD, hoD, hdD, hcD⟩ := hn2.count (PySem.Within.cons name v hw)
  refine wpAny_bind (wpAny_lookBehind hoD (by rw [hdD]; exact pastItsLine_dict (Nat.le_trans hcD (by rw [List.length_cons]; omega))) ?_)
  exact wpAny_pure (h _ ⟨(hs2.2 _ (Ne.symm I.ne)).trans I.obj, hn2, I.ne⟩ hs2)

/-- C(..): the dict at the heap's end, the instance behind it; then its __init__ -/
theorem make_map {R : Result → Shared → Prop} {vs : List Value} {kw : List (Str × Value)} (X : K.In s.heap) (hm : PySem.W.makesIn K C = true)
    (hi : PySem.W.findIn K (.ref C) "__init__" = some (some (.ref f))) (hf : PySem.W.typeIn K (.ref f) = some (.type "function"))
    (h : codeAny (model prog w) (A.under (.builtin "type.__call__" ⟨.ref C :: vs, kw⟩)) (.call (.ref f) ⟨.ref (s.heap.objs.size + 1) :: vs, kw⟩) (PySem.W.InitBack (s.heap.objs.size + 1) R)
      { s with heap := (s.heap.push PySem.W.emptyDict).push (PySem.W.instObj C s.heap.objs.size) }) :
    codeAny (model prog w) A (.call (.ref C) ⟨vs, kw⟩) R s := by
  obtain ⟨hh, g, d, t, os⟩ := s
  exact PySem.W.make_core (PySem.W.makes_of X hm) (PySem.W.looks_findIn X hi) (fun self => PySem.W.bind_fn X self hf) (.inl rfl) h
/-- C() where there is no __init__ but object's -/
theorem make_map0 {R : Result → Shared → Prop} (X : K.In s.heap) (hm : PySem.W.makesIn K C = true)
    (hi : PySem.W.findIn K (.ref C) "__init__" = some (some (.builtin "object.__init__")))
    (hb : ∀ self, PySem.W.Looks (model prog w) s.heap (bindSpecial (.builtin "object.__init__") self) (.builtin "object.__init__", [self]))
    (h : codeAny (model prog w) (A.under (.builtin "type.__call__" ⟨[.ref C], []⟩)) (.call (.builtin "object.__init__") ⟨[.ref (s.heap.objs.size + 1)], []⟩) (PySem.W.InitBack (s.heap.objs.size + 1) R)
      { s with heap := (s.heap.push PySem.W.emptyDict).push (PySem.W.instObj C s.heap.objs.size) }) :
    codeAny (model prog w) A (.call (.ref C) ⟨[], []⟩) R s := by
  obtain ⟨hh, g, d, t, os⟩ := s
  exact PySem.W.make_core (PySem.W.makes_of X hm) (PySem.W.looks_findIn X hi) hb (.inr ⟨rfl, rfl⟩) h
end

/-! ### the attributes as a list of pairs -/
def putF (f : Str) (v : V) : List (Str × V) → List (Str × V)
  | [] => [(f, v)]
  | (g, x) :: r => if g = f then (g, v) :: r else (g, x) :: putF f v r
theorem lookup_putF (f g : Str) (v : V) : ∀ fs : List (Str × V), (putF f v fs).lookup g = if g = f then some v else fs.lookup g
  | [] => by
    show List.lookup g [(f, v)] = _
    by_cases h : g = f
    · have hb : (g == f) = true := beq_iff_eq.mpr h
      simp only [List.lookup, hb, if_pos h]
    · have hb : (g == f) = false := beq_eq_false_iff_ne.mpr h
      simp only [List.lookup, hb, if_neg h]
  | (k, x) :: r => by
    have ih := lookup_putF f g v r
    rw [show putF f v ((k, x) :: r) = (if k = f then (k, v) :: r else (k, x) :: putF f v r) from rfl]
    by_cases hk : k = f
    · rw [if_pos hk]
      by_cases h : g = k
      · have hb : (g == k) = true := beq_iff_eq.mpr h
        simp only [List.lookup, hb, if_pos (h.trans hk)]
      · have hb : (g == k) = false := beq_eq_false_iff_ne.mpr h
        simp only [List.lookup, hb, if_neg (fun e : g = f => h (e.trans hk.symm))]
    · rw [if_neg hk]
      by_cases h : g = k
      · have hb : (g == k) = true := beq_iff_eq.mpr h
        simp only [List.lookup, hb, if_neg (fun e : g = f => hk (h.symm.trans e))]
      · have hb : (g == k) = false := beq_eq_false_iff_ne.mpr h
        simp only [List.lookup, hb]
        exact ih
theorem keys_putF (f : Str) (v : V) : ∀ fs : List (Str × V), f ∈ (putF f v fs).map (·.1) ∧ ∀ g, g ∈ fs.map (·.1) → g ∈ (putF f v fs).map (·.1)
  | [] => ⟨by simp [putF], fun g h => by simp at h⟩
  | (k, x) :: r => by
    obtain ⟨i1, i2⟩ := keys_putF f v r
    rw [show putF f v ((k, x) :: r) = (if k = f then (k, v) :: r else (k, x) :: putF f v r) from rfl]
    by_cases hk : k = f
    · rw [if_pos hk]
      subst hk
      exact ⟨by simp, fun g h => by simpa using h⟩
    · rw [if_neg hk]
      refine ⟨?_, fun g h => ?_⟩
      · rw [List.map_cons]
        exact List.mem_cons_of_mem _ i1
      · rw [List.map_cons] at h ⊢
        rcases List.mem_cons.mp h with e | e
        · exact List.mem_cons.mpr (.inl e)
        · exact List.mem_cons_of_mem _ (i2 g e)
theorem length_putF (f : Str) (v : V) : ∀ fs : List (Str × V), (putF f v fs).length ≤ fs.length + 1
  | [] => by simp [putF]
  | (k, x) :: r => by
    have ih := length_putF f v r
    rw [show putF f v ((k, x) :: r) = (if k = f then (k, v) :: r else (k, x) :: putF f v r) from rfl]
    by_cases hk : k = f
    · rw [if_pos hk, List.length_cons, List.length_cons]; omega
    · rw [if_neg hk, List.length_cons, List.length_cons]; omega

theorem RelO.some_of {v : V} {o : Option Value} (r : RelO (some v) o) : ∃ u, o = some u ∧ RelV v u := by
  cases o with
  | none => exact (show False from r).elim
  | some u => exact ⟨u, rfl, r⟩
theorem RelO.none_of {o : Option Value} (r : RelO none o) : o = none := by
  cases o with
  | none => rfl
  | some u => exact (show False from r).elim
theorem handed_of {v : V} {u : Value} (r : RelV v u) : PySem.W.handedIn u = true := by
  cases v with
  | non => cases (show u = Value.none from r); rfl
  | bl b => cases (show u = Value.bool b from r); rfl
  | int i => obtain ⟨t, e⟩ := (show ∃ t, u = Value.int i t from r); cases e; rfl
  | str x => obtain ⟨t, e⟩ := (show ∃ t, u = Value.str x t from r); cases e; rfl
  | byt b => obtain ⟨t, e⟩ := (show ∃ t, u = Value.bytes b t from r); cases e; rfl
  | flt b => obtain ⟨t, e⟩ := (show ∃ t, u = Value.float b t from r); cases e; rfl
  | ref a => cases (show u = Value.ref a from r); rfl
  | ty n => cases (show u = Value.type n from r); rfl

section
variable {P : Program} {w : World} {H H' : Hp} {h h' : Heap} {a C dx : Addr} {fs fs' : List (Str × V)}
theorem ins_get (hok : HOk P w H h) (e : H a = some (.ins C dx fs)) : ∃ mA, ObjM h a dx C mA ∧ (∀ f, RelO (fs.lookup f) (mA f)) ∧ PySem.Within mA (fs.map (·.1)) ∧ fs.length ≤ 1000 ∧ H dx = some (.own a) := by
  obtain ⟨d, z, ne, ob, mA, n, r, q⟩ := (show ObjOk P w H h a (.ins C dx fs) from hok a _ e)
  exact ⟨mA, ⟨ob, n, ne⟩, r, q, z, d⟩
end

/-! ### what of the text a class must have -/
structure Cls (K : PySem.W.Frag) (C : Addr) : Prop where
  pg : PySem.W.plainGet K C Str.empty = true
  hd : PySem.W.hasDictIn K C = true
  po : PySem.W.plainOver K C = true
  sa : PySem.W.findIn K (.ref C) "__setattr__" = some (some (.builtin "object.__setattr__"))
theorem Cls.get {K : PySem.W.Frag} {C : Addr} (c : Cls K C) (f : Str) : PySem.W.plainGet K C f = true := c.pg
/-- no class of it has the name -/
def NoAttr (K : PySem.W.Frag) (C : Addr) (f : Str) : Prop := PySem.W.findIn K (.ref C) f = some none
theorem NoAttr.taker {K : PySem.W.Frag} {C : Addr} {f : Str} (n : NoAttr K C f) : PySem.W.takerIn K C f = some none := by
  unfold PySem.W.takerIn
  rw [show PySem.W.findIn K (.ref C) f = some none from n]
  rfl
/-- a constant of the class -/
structure Con (K : PySem.W.Frag) (C : Addr) (f : Str) (v : V) (u : Value) : Prop where
  at_ : PySem.W.findIn K (.ref C) f = some (some u)
  rel : RelV v u
  get : PySem.W.specialIn K u "__get__" = some none
  cp : PySem.W.copiedNames.contains f = false
/-- a method: a plain def of the class or of one above it -/
structure Meth (K : PySem.W.Frag) (C : Addr) (m : Str) (f : Addr) : Prop where
  at_ : PySem.W.findIn K (.ref C) m = some (some (.ref f))
  fn : PySem.W.isFn K (.ref f) = true
  kp : PySem.W.keepIn K (.ref f) = true

section
variable {X : Cx} {pins : List (Addr × Obj)} {σ : St} {H : Hp} {s : Shared} {a C dx : Addr} {fs : List (Str × V)} {f : Str} {v : V} {A : Around} {E : Value → Shared → Prop}

theorem getattr_ok {b : Bool} {Q : Value → Shared → Prop} (I : Inv X pins σ H s) (e : H a = some (.ins C dx fs)) (c : Cls X.K C) (n : NoAttr X.K C f) (l : fs.lookup f = some v)
    (h : ∀ u s', Inv X pins σ H s' → RelV v u → Q u s') : wpAny (model X.prog X.w) A (getAttr (.ref a) f b) Q E s := by
  obtain ⟨mA, O, r, _, _, _⟩ := ins_get I.hok e
  obtain ⟨u, hu, ru⟩ := RelO.some_of (v := v) (o := mA f) (by rw [← l]; exact r f)
  exact get_map I.kIn O (c.get f) c.hd n hu (handed_of ru) (h u _ (I.tok _) ru)

theorem getcon_ok {b : Bool} {u : Value} {Q : Value → Shared → Prop} (I : Inv X pins σ H s) (e : H a = some (.ins C dx fs)) (c : Cls X.K C) (k : Con X.K C f v u) (l : fs.lookup f = none)
    (h : ∀ s', Inv X pins σ H s' → Q u s') : wpAny (model X.prog X.w) A (getAttr (.ref a) f b) Q E s := by
  obtain ⟨mA, O, r, _, _, _⟩ := ins_get I.hok e
  have hn : mA f = none := RelO.none_of (by rw [← l]; exact r f)
  exact get_const I.kIn O (c.get f) c.hd k.at_ k.get k.cp hn (handed_of k.rel) (h _ (I.tok _))

theorem getmeth_ok {m : Str} {g : Addr} {pl : Sem Bool} {Q : Value × List Value → Shared → Prop} (I : Inv X pins σ H s) (e : H a = some (.ins C dx fs)) (c : Cls X.K C) (k : Meth X.K C m g) (l : fs.lookup m = none)
    (h : Q (.ref g, [.ref a]) s) : wpAny (model X.prog X.w) A (getMethod (.ref a) m pl) Q E s := by
  obtain ⟨mA, O, r, _, _, _⟩ := ins_get I.hok e
  have hn : mA m = none := RelO.none_of (by rw [← l]; exact r m)
  exact get_meth I.kIn O (c.get m) k.at_ k.fn hn h

theorem setattr_ok {y : V} {u : Value} {Q : Unit → Shared → Prop} (I : Inv X pins σ H s) (e : H a = some (.ins C dx fs)) (c : Cls X.K C) (n : NoAttr X.K C f) (hl : fs.length < 1000) (ry : RelV y u)
    (h : ∀ s', Inv X pins σ (upd H a (.ins C dx (putF f y fs))) s' → Q () s') : wpAny (model X.prog X.w) A (setAttr (.ref a) f u) Q E s := by
  obtain ⟨mA, O, r, wi, _, ho⟩ := ins_get I.hok e
  have hz : (fs.map (·.1)).length ≤ sizeLine := by rw [List.length_map, sizeLine_eq]; omega
  refine set_map I.kIn O c.sa c.po n.taker c.hd wi hz fun h' O' sb => h _ ?_
  have hd : ∃ o, h'.get? dx = some o := let ⟨o, _, _, e', _⟩ := O'.ns; ⟨o, e'⟩
  refine I.write (x := a) (e := dx) (by rw [e]; exact True.intro) (.inr ho) (fun b q hb z => (sb.2 b hb).trans z) hd ?_
  refine ⟨by rw [upd_ne O.ne]; exact ho, ?_, O.ne, O'.obj, _, O'.ns, fun g => ?_, fun g hg => ?_⟩
  · have := length_putF f y fs; omega
  · show RelO ((putF f y fs).lookup g) (if g = f then some u else mA g)
    rw [lookup_putF]
    by_cases q : g = f
    · rw [if_pos q, if_pos q]; exact ry
    · rw [if_neg q, if_neg q]; exact r g
  · by_cases q : g = f
    · rw [q]; exact (keys_putF f y fs).1
    · refine (keys_putF f y fs).2 g (wi g fun z => hg ?_)
      show (if g = f then some u else mA g) = none
      rw [if_neg q]; exact z

/-- a new instance, tracked, without attributes -/
theorem Inv.made (I : Inv X pins σ H s) : Inv X pins σ (upd (upd H s.heap.objs.size (.own (s.heap.objs.size + 1))) (s.heap.objs.size + 1) (.ins C s.heap.objs.size []))
    { s with heap := (s.heap.push PySem.W.emptyDict).push (PySem.W.instObj C s.heap.objs.size) } := by
  have e1 : (s.heap.push PySem.W.emptyDict).get? s.heap.objs.size = some PySem.W.emptyDict := Heap.get?_push_size s.heap rfl
  have e2 : ((s.heap.push PySem.W.emptyDict).push (PySem.W.instObj C s.heap.objs.size)).get? (s.heap.objs.size + 1) = some (PySem.W.instObj C s.heap.objs.size) := by
    have := Heap.get?_push_size (s.heap.push PySem.W.emptyDict) (o := PySem.W.instObj C s.heap.objs.size) rfl
    rwa [Heap.size_push] at this
  have e3 : (s.heap.push PySem.W.emptyDict).Ns s.heap.objs.size (fun _ => none) := ⟨PySem.W.emptyDict, #[], _, e1, rfl, (fun e he => absurd he (by simp)), fun _ => rfl⟩
  have I1 := I.laid (a := s.heap.objs.size) (o := .own (s.heap.objs.size + 1)) (h' := s.heap.push PySem.W.emptyDict) (t' := s.toks) (fun b u q => Heap.get?_push_of_some _ q) (Nat.le_refl _) ⟨_, e1⟩
  refine I1.laid (a := s.heap.objs.size + 1) (o := .ins C s.heap.objs.size []) (t' := s.toks) (fun b u q => Heap.get?_push_of_some _ q) (Nat.le_of_eq (Heap.size_push _ _)) ?_
  have ne : s.heap.objs.size ≠ s.heap.objs.size + 1 := Nat.ne_of_lt (Nat.lt_succ_self _)
  refine ⟨by rw [upd_ne ne, upd_same], Nat.zero_le _, ne, e2, fun _ => none, (Heap.Ns1.of_empty e3).at fun o q => Heap.get?_push_of_some _ q, fun _ => True.intro, fun y hy => absurd rfl hy⟩

/-- e.f where nothing but the object is asked: through attributeBase (super) and the last hold -/
theorem attr_of {prog : Program} {w : World} {env : Env} {e : Expr} {f : Str} {pos : Pos} {s : Shared} {Q : Value → Shared → Prop} (hb : attributeBase e f env (eval e env) = eval e env)
    (h : wpAny (model prog w) A (eval e env) (fun o s₁ => wpAny (model prog w) A (getAttr o f true) Q E s₁) E s) : wpAny (model prog w) A (eval (.Attribute e f pos) env) Q E s :=
  Attribute_any_ h (by rw [arm_eval_Attribute, hb])
end

/-! ### readings and rules -/
/-- e.f, an attribute of the instance -/
def tFld (K : PySem.W.Frag) (ta : TE) (f : Str) : TE := fun σ H Q => ta σ H fun x H1 => ∃ a C dx fs v, x = .ref a ∧ H1 a = some (.ins C dx fs) ∧ Cls K C ∧ NoAttr K C f ∧ fs.lookup f = some v ∧ Q v H1
/-- e.f, a constant of the class -/
def tCon (K : PySem.W.Frag) (ta : TE) (f : Str) : TE := fun σ H Q => ta σ H fun x H1 => ∃ a C dx fs v u, x = .ref a ∧ H1 a = some (.ins C dx fs) ∧ Cls K C ∧ Con K C f v u ∧ fs.lookup f = none ∧ Q v H1
/-- e.f = value -/
def sFld (K : PySem.W.Frag) (ta tv : TE) (f : Str) : TS := fun D σ H => tv σ H fun y H1 => ta σ H1 fun x H2 => ∃ a C dx fs, x = .ref a ∧ H2 a = some (.ins C dx fs) ∧ Cls K C ∧ NoAttr K C f ∧ fs.length < 1000 ∧
  D.nx σ (upd H2 a (.ins C dx (putF f y fs)))
/-- an augmented operator on two values -/
def InOp (X : Cx) (op : Operator) (rd : V → V → Hp → VK → Prop) : Prop :=
  ∀ (pins : List (Addr × Obj)) (s : Shared) (σ : St) (H : Hp) (x y : V) (u v : Value) (Q : VK), Inv X pins σ H s → RelV x u → RelV y v → rd x y H Q → wpAny (model X.prog X.w) X.A (inplaceOp op u v) (EP X pins σ Q) X.xe s
/-- e.f op= value -/
def sFldAug (K : PySem.W.Frag) (ta tv : TE) (rd : V → V → Hp → VK → Prop) (f : Str) : TS := fun D σ H => ta σ H fun x H1 => ∃ a C dx fs v, x = .ref a ∧ H1 a = some (.ins C dx fs) ∧ Cls K C ∧ NoAttr K C f ∧ fs.lookup f = some v ∧
  tv σ H1 fun y H2 => rd v y H2 fun z H3 => ∃ dx' fs', H3 a = some (.ins C dx' fs') ∧ fs'.length < 1000 ∧ D.nx σ (upd H3 a (.ins C dx' (putF f z fs')))

section
variable {X : Cx} {o e value : Expr} {f : Str} {pos pos' tpos : Pos} {ta tv : TE}
theorem pe_fld (he : PE X e ta) (hb : attributeBase e f X.env (eval e X.env) = eval e X.env) : PE X (.Attribute e f pos) (tFld X.K ta f) := by
  intro pins s σ H Q I h
  refine attr_of hb (thn (he pins s σ H _ I h) fun u s1 ⟨x, H1, I1, rx, a, C, dx, fs, v, ex, ea, c, n, l, q⟩ => ?_)
  subst ex
  obtain rfl : u = Value.ref a := rx
  exact getattr_ok I1 ea c n l fun u' s2 I2 ru => ⟨v, H1, I2, ru, q⟩
theorem pe_con (he : PE X e ta) (hb : attributeBase e f X.env (eval e X.env) = eval e X.env) : PE X (.Attribute e f pos) (tCon X.K ta f) := by
  intro pins s σ H Q I h
  refine attr_of hb (thn (he pins s σ H _ I h) fun u s1 ⟨x, H1, I1, rx, a, C, dx, fs, v, u0, ex, ea, c, k, l, q⟩ => ?_)
  subst ex
  obtain rfl : u = Value.ref a := rx
  exact getcon_ok I1 ea c k l fun s2 I2 => ⟨v, H1, I2, k.rel, q⟩
theorem ps_fld (ha : PE X o ta) (hv : PE X value tv) (hs : swapsWith value (some (.Attribute o f pos')) pos.line X.env = pure false) : PS X (.Assign [.Attribute o f pos'] value pos) (sFld X.K ta tv f) := by
  intro pins s σ H D I h
  refine plainObj_wpAny_Assign_Attribute (thn (hv pins s σ H _ I h) fun u s1 ⟨y, H1, I1, ry, q⟩ => thn (ha pins s1 σ H1 _ I1 q) fun ov s2 ⟨x, H2, I2, rx, a, C, dx, fs, ex, ea, c, n, l, q2⟩ => ?_) hs
  subst ex
  obtain rfl : ov = Value.ref a := rx
  exact setattr_ok I2 ea c n l ry fun s3 I3 => ⟨σ, _, I3, q2⟩
theorem ps_fldaug {op : Operator} {rd : V → V → Hp → VK → Prop} (ha : PE X o ta) (hv : PE X value tv) (hop : InOp X op rd) : PS X (.AugAssign (.Attribute o f tpos) op value pos) (sFldAug X.K ta tv rd f) := by
  intro pins s σ H D I h
  refine wpAny_AugAssign_AttributeAny (thn (ha pins s σ H _ I h) fun ov s1 ⟨x, H1, I1, rx, a, C, dx, fs, v, ex, ea, c, n, l, q⟩ => ?_)
  subst ex
  obtain rfl : ov = Value.ref a := rx
  refine getattr_ok I1 ea c n l fun u s2 I2 ru => thn (hv pins s2 σ H1 _ I2 q) fun w3 s3 ⟨y, H2, I3, ry, q3⟩ => thn (hop pins s3 σ H2 v y u w3 _ I3 ru ry q3) fun w4 s4 ⟨z, H3, I4, rz, dx', fs', ea', l', q4⟩ => ?_
  exact setattr_ok I4 ea' c n l' rz fun s5 I5 => ⟨σ, _, I5, q4⟩
def rAdd : V → V → Hp → VK → Prop := fun x y H Q => ∃ i j, x = .int i ∧ y = .int j ∧ Q (.int (i + j)) H
def rSub : V → V → Hp → VK → Prop := fun x y H Q => ∃ i j, x = .int i ∧ y = .int j ∧ Q (.int (i - j)) H
theorem in_add : InOp X .Add rAdd := by
  rintro pins s σ H x y u v Q I rx ry ⟨i, j, rfl, rfl, q⟩
  obtain ⟨t, rfl⟩ := (show ∃ t, u = Value.int i t from rx)
  obtain ⟨t', rfl⟩ := (show ∃ t', v = Value.int j t' from ry)
  exact PyProof.Rows.iadd_int ⟨.int (i + j), H, I.tok _, ⟨_, rfl⟩, q⟩
theorem in_sub : InOp X .Sub rSub := by
  rintro pins s σ H x y u v Q I rx ry ⟨i, j, rfl, rfl, q⟩
  obtain ⟨t, rfl⟩ := (show ∃ t, u = Value.int i t from rx)
  obtain ⟨t', rfl⟩ := (show ∃ t', v = Value.int j t' from ry)
  exact PyProof.Rows.isub_int ⟨.int (i - j), H, I.tok _, ⟨_, rfl⟩, q⟩

/-- what is between an instance and its method: the tree of a method call -/
theorem methcall_of {pl : Sem Bool} {m : Str} {apos : Pos} {args : List Expr} {pins : List (Addr × Obj)} {s : Shared} {σ : St} {H : Hp} {Q : Value → Shared → Prop} {te : TE} (he : PE X e te) (I : Inv X pins σ H s)
    (h : te σ H fun x H1 => ∃ a C dx fs g, x = .ref a ∧ H1 a = some (.ins C dx fs) ∧ Cls X.K C ∧ Meth X.K C m g ∧ fs.lookup m = none ∧
      ∀ s1, Inv X pins σ H1 s1 → wpAny (model X.prog X.w) X.A (callWith pos (.ref g) [.ref a] (backTo pos (starEach args X.env)) (backToKw pos (keywordEach [] X.env))) Q X.xe s1)
    (ht : eval (.Call (.Attribute e m apos) args [] pos) X.env = (do
      let ov ← eval e X.env
      standAt apos.atName
      let (f, first) ← holding [ov] (getMethod ov m pl)
      callWith pos f first (backTo pos (starEach args X.env)) (backToKw pos (keywordEach [] X.env)))) :
    wpAny (model X.prog X.w) X.A (eval (.Call (.Attribute e m apos) args [] pos) X.env) Q X.xe s := by
  refine PySem.W.methodCall_KW (pl := pl) (thn (he pins s σ H _ I h) fun u s1 ⟨x, H1, I1, rx, a, C, dx, fs, g, ex, ea, c, k, l, q⟩ => ?_) ht
  subst ex
  obtain rfl : u = Value.ref a := rx
  exact getmeth_ok I1 ea c k l (q s1 I1)
end

/-! ### isinstance -/
section
variable {X : Cx} {pins : List (Addr × Obj)} {σ : St} {H : Hp} {s : Shared} {A : Around} {E : Value → Shared → Prop} {Q : Value → Shared → Prop} {c : Value} {b : Bool}
/-- the type of a value, as the fragment's deciders take it; for an instance its class -/
inductive TyOf (K : PySem.W.Frag) (H : Hp) : V → Value → Prop where
  | non : TyOf K H .non (.type "NoneType")
  | bl (x : Bool) : TyOf K H (.bl x) (.type "bool")
  | int (i : Int) : TyOf K H (.int i) (.type "int")
  | str (x : Str) : TyOf K H (.str x) (.type "str")
  | flt (x : UInt64) : TyOf K H (.flt x) (.type "float")
  | lst {a : Addr} {xs : List V} (e : H a = some (.lst xs)) : TyOf K H (.ref a) (.type "list")
  | frz {a : Addr} {o : Obj} {xs : List V} (e : H a = some (.frz o (.lst xs))) : TyOf K H (.ref a) (.type "list")
  | tup {a : Addr} {xs : List V} (e : H a = some (.tup xs)) : TyOf K H (.ref a) (.type "tuple")
  | dK {a : Addr} {kvs : List (Key × V)} (e : H a = some (.dK kvs)) : TyOf K H (.ref a) (.type "dict")
  | dT {a : Addr} {kvs : List (List Key × V)} (e : H a = some (.dT kvs)) : TyOf K H (.ref a) (.type "dict")
  | ins {a C dx : Addr} {fs : List (Str × V)} (e : H a = some (.ins C dx fs)) (cl : Cls K C) (ha : PySem.W.findIn K (.ref C) "__class__" = some (some (.builtin "object.__class__")))
      (hn : PySem.W.specialIn K (.builtin "object.__class__") "__get__" = some (some (.builtin "getset_descriptor.__get__"))) (htk : PySem.W.takesIn K (.builtin "object.__class__") = some true)
      (hm : PySem.W.mroIn K C (.type "object") = some true) : TyOf K H (.ref a) (.ref C)
/-- isinstance(x, c) for one class c, a built-in or an own one: kitOne's answer -/
theorem isinst_ok {x : V} {u t : Value} (I : Inv X pins σ H s) (rx : RelV x u) (ty : TyOf X.K H x t) (e : PySem.W.kitOne X.K t c = some b) (h : ∀ tk, Q (.bool b) { s with toks := tk }) :
    wpAny (model X.prog X.w) A (call (.builtin "isinstance") [u, c]) Q E s := by
  cases ty with
  | non => cases (show u = Value.none from rx); exact PySem.W.kia_one PySem.W.kitx_none I.kIn True.intro e (fun z => nomatch z) h
  | bl y => cases (show u = Value.bool y from rx); exact PySem.W.kia_one PySem.W.kitx_bool I.kIn True.intro e (fun z => nomatch z) h
  | int i => obtain ⟨t, q⟩ := (show ∃ t, u = Value.int i t from rx); cases q; exact PySem.W.kia_one PySem.W.kitx_int I.kIn True.intro e (fun z => nomatch z) h
  | str y => obtain ⟨t, q⟩ := (show ∃ t, u = Value.str y t from rx); cases q; exact PySem.W.kia_one PySem.W.kitx_str I.kIn True.intro e (fun z => nomatch z) h
  | flt y => obtain ⟨t, q⟩ := (show ∃ t, u = Value.float y t from rx); cases q; exact PySem.W.kia_one PySem.W.kitx_float I.kIn True.intro e (fun z => nomatch z) h
  | @lst a xs ea =>
    cases (show u = Value.ref a from rx)
    obtain ⟨_, _, n, _, h1⟩ := (show ObjOk X.prog X.w H s.heap a (.lst xs) from I.hok a _ ea)
    exact PySem.W.kia_one PySem.W.kitx_list I.kIn ⟨_, h1, rfl⟩ e (fun z => nomatch z) h
  | @frz a ob xs ea =>
    cases (show u = Value.ref a from rx)
    obtain ⟨_, _, _, n, _, h1⟩ := (show ObjOk X.prog X.w H s.heap a (.frz ob (.lst xs)) from I.hok a _ ea)
    exact PySem.W.kia_one PySem.W.kitx_list I.kIn ⟨_, h1, rfl⟩ e (fun z => nomatch z) h
  | @tup a xs ea =>
    cases (show u = Value.ref a from rx)
    obtain ⟨_, _, _, p⟩ := (show ObjOk X.prog X.w H s.heap a (.tup xs) from I.hok a _ ea)
    obtain ⟨o, h1, h2, _⟩ := p
    exact PySem.W.kia_one PySem.W.kitx_tuple I.kIn ⟨o, h1, h2⟩ e (fun z => nomatch z) h
  | @dK a kvs ea =>
    cases (show u = Value.ref a from rx)
    obtain ⟨_, _, vs, _, p⟩ := (show ObjOk X.prog X.w H s.heap a (.dK kvs) from I.hok a _ ea)
    obtain ⟨o, es, ep, h1, h2, _⟩ := p
    exact PySem.W.kia_one PySem.W.kitx_dict I.kIn ⟨o, h1, h2.1⟩ e (fun z => nomatch z) h
  | @dT a kvs ea =>
    cases (show u = Value.ref a from rx)
    obtain ⟨_, _, xs, _, o, es, ep, h1, h2, _⟩ := (show ObjOk X.prog X.w H s.heap a (.dT kvs) from I.hok a _ ea)
    exact PySem.W.kia_one PySem.W.kitx_dict I.kIn ⟨o, h1, h2.1⟩ e (fun z => nomatch z) h
  | @ins a C dx fs ea cl ha hn htk hm =>
    cases (show u = Value.ref a from rx)
    obtain ⟨mA, O, _⟩ := ins_get I.hok ea
    obtain ⟨od, J, _⟩ := O.look
    exact PySem.W.kia_one (PySem.W.kitx_own (cl.get _) cl.hd ha hn htk hm) I.kIn J e (fun z => nomatch z) h
end
end L2

namespace L2
open PySem PySem.Spec PyProof.Rows

/-! ### room -/
structure Room (k : Nat) (A : Around) : Prop where
  hd : A.handled = none
  dp : A.depth + 3 * k + 5 < recursionLimit
  un : A.units + 16 * k + 200 < cLine
  gd : A.guards = some []
theorem Room.mono {j k : Nat} {A : Around} (r : Room k A) (h : j ≤ k) : Room j A := ⟨r.hd, by have := r.dp; omega, by have := r.un; omega, r.gd⟩
theorem Room.deeper {k : Nat} {A : Around} (r : Room (k + 1) A) (env : Env) : Room k (A.deeper env) :=
  ⟨r.hd, by have := r.dp; show A.depth + 1 + 3 * k + 5 < _; omega, by have := r.un; show A.units + 3 + 16 * k + 200 < _; omega, r.gd⟩
theorem Room.in1 {k : Nat} {A : Around} (r : Room (k + 1) A) : Room k A.in1 :=
  ⟨r.hd, by have := r.dp; show A.depth + 3 * k + 5 < _; omega, by have := r.un; show A.units + 1 + 16 * k + 200 < _; omega, r.gd⟩
theorem make_depth {A : Around} {C : Addr} {us : List Value} {kw : List (Str × Value)} : (A.under (.builtin "type.__call__" ⟨.ref C :: us, kw⟩)).depth = A.depth + 1 := by
  first | rfl | simp [Around.under, Code.weight, Code.isCreation, Code.isGuard, Code.isCaller, Code.frames, Code.isFrame, guardIds]
theorem make_units {A : Around} {C : Addr} {us : List Value} {kw : List (Str × Value)} : (A.under (.builtin "type.__call__" ⟨.ref C :: us, kw⟩)).units = A.units + 1 := by
  first | rfl | simp [Around.under, Code.cUnits, Code.frames, Code.isFrame]
theorem make_guards {A : Around} {C : Addr} {us : List Value} {kw : List (Str × Value)} : (A.under (.builtin "type.__call__" ⟨.ref C :: us, kw⟩)).guards = A.guards := by
  first | rfl | simp [Around.under]
theorem Room.make {k : Nat} {A : Around} (r : Room (k + 1) A) (C : Addr) (us : List Value) (kw : List (Str × Value)) : Room k (A.under (.builtin "type.__call__" ⟨.ref C :: us, kw⟩)) :=
  ⟨r.hd, by have := r.dp; rw [make_depth]; omega, by have := r.un; rw [make_units]; omega, make_guards.trans r.gd⟩
theorem Room.depth {k : Nat} {A : Around} (r : Room k A) : A.depth < recursionLimit := by have := r.dp; omega
theorem Room.units {k : Nat} {A : Around} (r : Room k A) : A.units + 64 < cLine := by have := r.un; omega
theorem Room.units0 {k : Nat} {A : Around} (r : Room k A) : A.units < cLine := by have := r.un; omega

/-! ### argument lists and displays -/
def tNil : TA := fun _ H Q => Q [] H
def tCons (ta : TE) (tr : TA) : TA := fun σ H Q => ta σ H fun x H1 => tr σ H1 fun xs H2 => Q (x :: xs) H2
section
variable {X : Cx} {e : Expr} {es : List Expr} {te : TE} {t : TA} {pos : Pos}
theorem pa_nil : PA X [] tNil := fun _ _ _ _ H Q I h => Calls.spliced_nil ⟨[], H, I, .nil, h⟩
theorem pa_cons (ha : PE X e te) (hr : PA X es t) (hs : starEach (e :: es) X.env = (false, eval e X.env) :: starEach es X.env := by rfl) : PA X (e :: es) (tCons te t) := by
  intro pos pins s σ H Q I h
  rw [hs]
  show wpAny _ _ (spliced ((false, eval e X.env) :: backTo pos (starEach es X.env))) _ _ s
  refine Calls.spliced_cons (thn (ha pins s σ H _ I h) fun u s1 ⟨x, H1, I1, r1, q1⟩ => ?_)
  exact thn (hr pos pins s1 σ H1 _ I1 q1) fun us s2 ⟨xs, H2, I2, r2, q2⟩ => ⟨x :: xs, H2, I2, .cons r1 r2, q2⟩

/-- a tuple, a list of written items -/
def tTup (t : TA) : TE := fun σ H Q => t σ H fun xs H1 => xs.length ≤ sizeLine ∧ ∀ p, H1 p = none → Q (.ref p) (upd H1 p (.tup xs))
def tLst (t : TA) : TE := fun σ H Q => t σ H fun xs H1 => xs.length ≤ sizeLine ∧ ∀ p, H1 p = none → Q (.ref p) (upd H1 p (.lst xs))
theorem pe_tup {x1} (h : PA X es t) : PE X (.Tuple es x1 pos) (tTup t) := by
  intro pins s σ H Q I hq
  refine wpAny_Tuple_spliced (thn (h pos pins s σ H _ I hq) fun us s1 ⟨xs, H1, I1, r, z, q⟩ => ⟨by rw [← r.length]; exact z, ?_⟩)
  have hf : H1 s1.heap.objs.size = none := I1.hok.fresh (Nat.le_refl _)
  refine ⟨.ref s1.heap.objs.size, upd H1 s1.heap.objs.size (.tup xs), I1.laid (t' := s1.toks) (fun b u e => Heap.get?_push_of_some _ e) (Nat.le_refl _) ?_, rfl, q _ hf⟩
  exact ⟨z, us, r, ⟨_, Heap.get?_push_size _ rfl, rfl, _, rfl⟩⟩
theorem pe_lst (h : PA X es t) : PE X (.List es pos) (tLst t) := by
  intro pins s σ H Q I hq
  refine wpAny_List_spliced (thn (h pos pins s σ H _ I hq) fun us s1 ⟨xs, H1, I1, r, z, q⟩ => ⟨by rw [← r.length]; exact z, ?_⟩)
  have hf : H1 s1.heap.objs.size = none := I1.hok.fresh (Nat.le_refl _)
  refine ⟨.ref s1.heap.objs.size, upd H1 s1.heap.objs.size (.lst xs), I1.laid (t' := s1.toks) (fun b u e => Heap.get?_push_of_some _ e) (Nat.le_refl _) ?_, rfl, q _ hf⟩
  exact ⟨z, us, 0, r, Heap.get?_push_size _ rfl⟩
end

/-! ### what a def promises -/
/-- a def's promise: the bound arguments in the parameters' order, the heap, the wanted end, the wanted exception -/
abbrev Sp := List V → Hp → VK → XK → Prop
/-- how an exception lies behind a call (file 08 gives it): the callers' frames, abstract heap and state ahead of the call, the wish, the exception, the state -/
abbrev CXT := List Env → Hp → Shared → XK → Value → Shared → Prop

/-- the state at a call -/
structure Env0 (P : Program) (w : World) (K : PySem.W.Frag) (mg : Str → Option Value) (base : Heap) (A : Around) (outer : List Env) (s : Shared) (H : Hp) : Prop where
  frames : A.frames = some outer
  mod : Mod K mg base
  bs : ∀ b o, base.get? b = some o → s.heap.get? b = some o ∧ H b = none
  bsz : base.objs.size ≤ s.heap.objs.size
  funs : s.heap.FunFrames base outer
  frf : ∀ b ∈ frs outer, H b = none
  hok : HOk P w H s.heap
  bare : AllBare s.gens
/-- a call's end -/
def CE (outer : List Env) (P : Program) (w : World) (H : Hp) (s : Shared) (Q : VK) (u : Value) (s' : Shared) : Prop :=
  ∃ v H', s'.os = s.os ∧ AllBare s'.gens ∧ Un (frs outer) [] H H' s.heap s'.heap ∧ HOk P w H' s'.heap ∧ RelV v u ∧ Q v H'
def CR (CX : CXT) (outer : List Env) (P : Program) (w : World) (H : Hp) (s : Shared) (Q : VK) (E : XK) (r : Result) (s' : Shared) : Prop :=
  match r with
  | .ok (.ret u) => CE outer P w H s Q u s'
  | .ok _ => False
  | .error e => CX outer H s E e s'
structure FnOk (P : Program) (w : World) (K : PySem.W.Frag) (mg : Str → Option Value) (base : Heap) (CX : CXT) (k : Nat) (f : Addr) (fd : FuncData) (ps : List Str) (sp : Sp) : Prop where
  len : ∀ vs H Q E, sp vs H Q E → vs.length = ps.length
  run : ∀ (A : Around) (outer : List Env) (s : Shared) (H : Hp) (args : Args) (us : List Value) (vs : List V) (Q : VK) (E : XK), Room k A → Env0 P w K mg base A outer s H → BindsTo s fd args (ps.zip us) → Vals vs us → sp vs H Q E →
    codeAny (model P w) A (.call (.ref f) args) (CR CX outer P w H s Q E) s
theorem FnOk.mono {P : Program} {w : World} {K : PySem.W.Frag} {mg : Str → Option Value} {base : Heap} {CX : CXT} {j k : Nat} {f : Addr} {fd : FuncData} {ps : List Str} {sp : Sp} (F : FnOk P w K mg base CX j f fd ps sp) (h : j ≤ k) :
    FnOk P w K mg base CX k f fd ps sp := ⟨F.len, fun A outer s H args us vs Q E hr => F.run A outer s H args us vs Q E (hr.mono h)⟩
/-- a weaker promise -/
theorem FnOk.imp {P : Program} {w : World} {K : PySem.W.Frag} {mg : Str → Option Value} {base : Heap} {CX : CXT} {k : Nat} {f : Addr} {fd : FuncData} {ps : List Str} {sp sp' : Sp} (F : FnOk P w K mg base CX k f fd ps sp)
    (h : ∀ vs H Q E, sp' vs H Q E → sp vs H Q E) : FnOk P w K mg base CX k f fd ps sp' :=
  ⟨fun vs H Q E q => F.len vs H Q E (h _ _ _ _ q), fun A outer s H args us vs Q E hr he hb hv hs => F.run A outer s H args us vs Q E hr he hb hv (h _ _ _ _ hs)⟩

theorem Env0.make {P : Program} {w : World} {K : PySem.W.Frag} {mg : Str → Option Value} {base : Heap} {A : Around} {outer : List Env} {s : Shared} {H : Hp} (e : Env0 P w K mg base A outer s H) (C : Addr) (us : List Value) (kw : List (Str × Value)) :
    Env0 P w K mg base (A.under (.builtin "type.__call__" ⟨.ref C :: us, kw⟩)) outer s H := ⟨by first | exact e.frames | (simpa [Around.under, Code.envs, Code.isFrame, pushEnvs] using e.frames), e.mod, e.bs, e.bsz, e.funs, e.frf, e.hok, e.bare⟩
theorem Env0.in1 {P : Program} {w : World} {K : PySem.W.Frag} {mg : Str → Option Value} {base : Heap} {A : Around} {outer : List Env} {s : Shared} {H : Hp} (e : Env0 P w K mg base A outer s H) :
    Env0 P w K mg base A.in1 outer s H := ⟨e.frames, e.mod, e.bs, e.bsz, e.funs, e.frf, e.hok, e.bare⟩

section
variable {X : Cx} {pins : List (Addr × Obj)} {σ : St} {H : Hp} {s s' : Shared}
/-- from a body: what a callee wants -/
theorem Inv.env0 (I : Inv X pins σ H s) : Env0 X.prog X.w X.K X.mg X.base X.A X.stack s H :=
  ⟨I.ok.frames, I.ok.mod, I.bs, Nat.le_trans I.ok.bsz I.sz, I.stack, I.stkFree, I.hok, I.bare⟩
/-- behind a call -/
theorem Inv.after {Q : VK} {u : Value} (I : Inv X pins σ H s) (h : CE X.stack X.prog X.w H s Q u s') : EP X pins σ Q u s' := by
  obtain ⟨v, H', os, bare, un, hok, r, q⟩ := h
  obtain ⟨hh, g, d, t, os'⟩ := s'
  obtain rfl : os' = s.os := os
  exact ⟨v, H', I.call (h' := hh) (g' := g) (d' := d) (t' := t) (ch := []) un hok bare (fun b z => absurd z (by simp)), r, q⟩
end

/-! ### calls -/
/-- f(..): the written arguments, then the defaults dvs; E: what is wanted of an exception -/
def tCall (sp : Sp) (dvs : List V) (E : XK) (t : TA) : TE := fun σ H Q => t σ H fun vs H1 => sp (vs ++ dvs) H1 Q E
/-- o.m(..) of an instance of the class at C -/
def tMeth (C : Addr) (m : Str) (sp : Sp) (dvs : List V) (E : XK) (ta : TE) (t : TA) : TE := fun σ H Q => ta σ H fun x H1 => ∃ a dx fs, x = .ref a ∧ H1 a = some (.ins C dx fs) ∧ fs.lookup m = none ∧
  t σ H1 fun vs H2 => sp (x :: (vs ++ dvs)) H2 Q E
/-- C(..): a new instance and its dict, then __init__ -/
def tMake (C : Addr) (sp : Sp) (dvs : List V) (E : XK) (t : TA) : TE := fun σ H Q => t σ H fun vs H1 => ∀ x dx, H1 x = none → H1 dx = none → dx ≠ x →
  sp (.ref x :: (vs ++ dvs)) (upd (upd H1 dx (.own x)) x (.ins C dx [])) (fun v H2 => v = .non ∧ Q (.ref x) H2) E

/-- how the parameters are bound: us the positional arguments, kw the keywords' values by name, ds the defaults that fill up -/
def Binds (K : PySem.W.Frag) (fd : FuncData) (ps : List Str) (ds : List Value) : Prop :=
  ∀ (s : Shared) (us : List Value), K.In s.heap → (us ++ ds).length = ps.length → BindsTo s fd ⟨us, []⟩ (ps.zip (us ++ ds))
/-- every parameter is given -/
theorem Binds.all {K : PySem.W.Frag} {fd : FuncData} {ps : List Str} (h : ∀ us : List Value, us.length = ps.length → bindArgs fd ⟨us, []⟩ = pure (ps.zip us)) : Binds K fd ps [] := fun s us _ hl => by
  rw [List.append_nil] at hl ⊢
  exact .of_eq (h us hl)

/-- an exception of a callee reaches what this body wants of exceptions -/
def Passes (CX : CXT) (X : Cx) (E : XK) : Prop := ∀ (pins : List (Addr × Obj)) (σ : St) (H : Hp) (s : Shared) (e : Value) (s' : Shared), Inv X pins σ H s → CX X.stack H s E e s' → X.xe e s'

section
variable {X : Cx} {CX : CXT} {k : Nat} {f C : Addr} {fd : FuncData} {ps : List Str} {sp : Sp} {dvs : List V} {ds : List Value} {E : XK} {x m : Str} {p pos apos : Pos} {e o : Expr} {es : List Expr} {ta : TE} {t : TA}

/-- the callee runs -/
theorem run_fn {pins : List (Addr × Obj)} {σ : St} {H : Hp} {s : Shared} {Q : VK} {us : List Value} {vs : List V} (F : FnOk X.prog X.w X.K X.mg X.base CX k f fd ps sp) (hr : Room k X.A) (hb : Binds X.K fd ps ds) (hd : Vals dvs ds) (hx : Passes CX X E)
    (I : Inv X pins σ H s) (r : Vals vs us) (h : sp (vs ++ dvs) H Q E) : wpAny (model X.prog X.w) X.A (call (.ref f) us) (EP X pins σ Q) X.xe s := by
  have r2 : Vals (vs ++ dvs) (us ++ ds) := r.append hd
  have hl : (us ++ ds).length = ps.length := by rw [← r2.length]; exact F.len _ _ _ _ h
  refine wpAny_call (codeAny_mono (F.run X.A X.stack s H ⟨us, []⟩ (us ++ ds) (vs ++ dvs) Q E hr I.env0 (hb s us I.kIn hl) r2 h) fun r s' hq => ?_)
  cases r with
  | error e => exact hx pins σ H s e s' I hq
  | ok fl =>
    cases fl with
    | ret u => exact I.after hq
    | next => exact False.elim hq
    | brk => exact False.elim hq
    | cont => exact False.elim hq

theorem pe_call (F : FnOk X.prog X.w X.K X.mg X.base CX k f fd ps sp) (hr : Room k X.A) (hg : Gl X x) (hm : X.mg x = some (.ref f)) (hk : PySem.W.keepIn X.K (.ref f) = true) (hb : Binds X.K fd ps ds) (hd : Vals dvs ds) (hx : Passes CX X E)
    (ha : PA X (e :: es) t) (hdb : (x == ("__debug__" : Str)) = false := by decide) (he : starEach (e :: es) X.env = (false, eval e X.env) :: starEach es X.env := by rfl) (hpl : (backTo pos (starEach es X.env)).any (·.1) = false := by rfl) :
    PE X (.Call (.Name x p) (e :: es) [] pos) (tCall sp dvs E t) := by
  intro pins s σ H Q I h
  refine wpAny_Call_Name_kw (ld_glob I hg hm ?_ hdb)
  refine PySem.W.callWith_K (h₀ := X.base) I.ok.mod.kin hk (thn (ha pos pins s σ H _ I h) fun us s1 ⟨vs, H1, I1, r, q⟩ => ⟨I1.kIn, ?_⟩) he hpl
  exact run_fn F hr hb hd hx I1 r q
theorem pe_call0 (F : FnOk X.prog X.w X.K X.mg X.base CX k f fd ps sp) (hr : Room k X.A) (hg : Gl X x) (hm : X.mg x = some (.ref f)) (hk : PySem.W.keepIn X.K (.ref f) = true) (hb : Binds X.K fd ps ds) (hd : Vals dvs ds) (hx : Passes CX X E)
    (hdb : (x == ("__debug__" : Str)) = false := by decide) : PE X (.Call (.Name x p) [] [] pos) (tCall sp dvs E tNil) := by
  intro pins s σ H Q I h
  refine wpAny_Call_Name_kw (ld_glob I hg hm ?_ hdb)
  exact PySem.W.callWith_K0 I.kIn hk (run_fn (us := []) F hr hb hd hx I .nil h)

/-- o.m(e, ..) -/
theorem pe_meth {pl : Sem Bool} (he : PE X o ta) (c : Cls X.K C) (hm : Meth X.K C m f) (F : FnOk X.prog X.w X.K X.mg X.base CX k f fd ps sp) (hr : Room k X.A) (hb : Binds X.K fd ps ds) (hd : Vals dvs ds) (hx : Passes CX X E) (ha : PA X (e :: es) t)
    (hst : starEach (e :: es) X.env = (false, eval e X.env) :: starEach es X.env := by rfl) (hpl : (backTo pos (starEach es X.env)).any (·.1) = false := by rfl)
    (ht : eval (.Call (.Attribute o m apos) (e :: es) [] pos) X.env = (do
      let ov ← eval o X.env
      standAt apos.atName
      let (f, first) ← holding [ov] (getMethod ov m pl)
      callWith pos f first (backTo pos (starEach (e :: es) X.env)) (backToKw pos (keywordEach [] X.env))) := by rfl) :
    PE X (.Call (.Attribute o m apos) (e :: es) [] pos) (tMeth C m sp dvs E ta t) := by
  intro pins s σ H Q I h
  refine PySem.W.methodCall_KW (pl := pl) (thn (he pins s σ H _ I h) fun u s1 ⟨x, H1, I1, rx, a, dx, fs, ex, ea, l, q⟩ => ?_) ht
  subst ex
  obtain rfl : u = Value.ref a := rx
  refine getmeth_ok I1 ea c hm l ?_
  refine PySem.W.callWith_K (first := [.ref a]) (h₀ := X.base) I.ok.mod.kin hm.kp (thn (ha pos pins s1 σ H1 _ I1 q) fun us s2 ⟨vs, H2, I2, r, q2⟩ => ⟨I2.kIn, ?_⟩) hst hpl
  exact run_fn (us := .ref a :: us) (vs := .ref a :: vs) F hr hb hd hx I2 (.cons rfl r) q2
/-- o.m() -/
theorem pe_meth0 {pl : Sem Bool} (he : PE X o ta) (c : Cls X.K C) (hm : Meth X.K C m f) (F : FnOk X.prog X.w X.K X.mg X.base CX k f fd ps sp) (hr : Room k X.A) (hb : Binds X.K fd ps ds) (hd : Vals dvs ds) (hx : Passes CX X E)
    (ht : eval (.Call (.Attribute o m apos) [] [] pos) X.env = (do
      let ov ← eval o X.env
      standAt apos.atName
      let (f, first) ← holding [ov] (getMethod ov m pl)
      callWith pos f first (backTo pos (starEach [] X.env)) (backToKw pos (keywordEach [] X.env))) := by rfl) :
    PE X (.Call (.Attribute o m apos) [] [] pos) (tMeth C m sp dvs E ta tNil) := by
  intro pins s σ H Q I h
  refine PySem.W.methodCall_KW (pl := pl) (thn (he pins s σ H _ I h) fun u s1 ⟨x, H1, I1, rx, a, dx, fs, ex, ea, l, q⟩ => ?_) ht
  subst ex
  obtain rfl : u = Value.ref a := rx
  refine getmeth_ok I1 ea c hm l ?_
  exact PySem.W.callWith_K0 (first := [.ref a]) I1.kIn hm.kp (run_fn (us := [.ref a]) (vs := [.ref a]) F hr hb hd hx I1 (.cons rfl .nil) q)

/-- what a class must have to be made -/
structure Mk (K : PySem.W.Frag) (C f : Addr) : Prop where
  makes : PySem.W.makesIn K C = true
  init : PySem.W.findIn K (.ref C) "__init__" = some (some (.ref f))
  fn : PySem.W.isFn K (.ref f) = true
  kp : PySem.W.keepIn K (.ref C) = true

theorem run_make {pins : List (Addr × Obj)} {σ : St} {H : Hp} {s : Shared} {Q : VK} {us : List Value} {vs : List V} (M : Mk X.K C f) (F : FnOk X.prog X.w X.K X.mg X.base CX k f fd ps sp) (hr : Room (k + 1) X.A) (hb : Binds X.K fd ps ds) (hd : Vals dvs ds)
    (hx : Passes CX X E) (I : Inv X pins σ H s) (r : Vals vs us)
    (h : ∀ x dx, H x = none → H dx = none → dx ≠ x → sp (.ref x :: (vs ++ dvs)) (upd (upd H dx (.own x)) x (.ins C dx [])) (fun v H2 => v = .non ∧ Q (.ref x) H2) E) :
    wpAny (model X.prog X.w) X.A (call (.ref C) us) (EP X pins σ Q) X.xe s := by
  have hq := h (s.heap.objs.size + 1) s.heap.objs.size (I.hok.fresh (Nat.le_succ _)) (I.hok.fresh (Nat.le_refl _)) (Nat.ne_of_lt (Nat.lt_succ_self _))
  have I2 := Inv.made (C := C) I
  have r2 : Vals (V.ref (s.heap.objs.size + 1) :: (vs ++ dvs)) (Value.ref (s.heap.objs.size + 1) :: (us ++ ds)) := .cons rfl (r.append hd)
  have hl : (Value.ref (s.heap.objs.size + 1) :: us ++ ds).length = ps.length := by
    have e := r2.length
    rw [F.len _ _ _ _ hq] at e
    exact e.symm
  refine wpAny_call (make_map (f := f) I.kIn M.makes M.init (beq_iff_eq.mp M.fn) (codeAny_mono (F.run _ X.stack _ _ ⟨Value.ref (s.heap.objs.size + 1) :: us, []⟩ (Value.ref (s.heap.objs.size + 1) :: (us ++ ds)) _ _ E (hr.make C us [])
    (I2.env0.make C us []) (hb _ (Value.ref (s.heap.objs.size + 1) :: us) I2.kIn hl) r2 hq) fun r s' hq' => ?_))
  cases r with
  | error e => exact hx pins σ _ _ e s' I2 hq'
  | ok fl =>
    cases fl with
    | ret u =>
      obtain ⟨v, H', I3, rv, ev, q3⟩ := I2.after hq'
      subst ev
      exact ⟨rv, ⟨V.ref (s.heap.objs.size + 1), H', I3, rfl, q3⟩⟩
    | next => exact False.elim hq'
    | brk => exact False.elim hq'
    | cont => exact False.elim hq'
theorem pe_make (M : Mk X.K C f) (F : FnOk X.prog X.w X.K X.mg X.base CX k f fd ps sp) (hr : Room (k + 1) X.A) (hg : Gl X x) (hm : X.mg x = some (.ref C)) (hb : Binds X.K fd ps ds) (hd : Vals dvs ds) (hx : Passes CX X E)
    (ha : PA X (e :: es) t) (hdb : (x == ("__debug__" : Str)) = false := by decide) (he : starEach (e :: es) X.env = (false, eval e X.env) :: starEach es X.env := by rfl) (hpl : (backTo pos (starEach es X.env)).any (·.1) = false := by rfl) :
    PE X (.Call (.Name x p) (e :: es) [] pos) (tMake C sp dvs E t) := by
  intro pins s σ H Q I h
  refine wpAny_Call_Name_kw (ld_glob I hg hm ?_ hdb)
  refine PySem.W.callWith_K (h₀ := X.base) I.ok.mod.kin M.kp (thn (ha pos pins s σ H _ I h) fun us s1 ⟨vs, H1, I1, r, q⟩ => ⟨I1.kIn, ?_⟩) he hpl
  exact run_make M F hr hb hd hx I1 r q
theorem pe_make0 (M : Mk X.K C f) (F : FnOk X.prog X.w X.K X.mg X.base CX k f fd ps sp) (hr : Room (k + 1) X.A) (hg : Gl X x) (hm : X.mg x = some (.ref C)) (hb : Binds X.K fd ps ds) (hd : Vals dvs ds) (hx : Passes CX X E)
    (hdb : (x == ("__debug__" : Str)) = false := by decide) : PE X (.Call (.Name x p) [] [] pos) (tMake C sp dvs E tNil) := by
  intro pins s σ H Q I h
  refine wpAny_Call_Name_kw (ld_glob I hg hm ?_ hdb)
  exact PySem.W.callWith_K0 I.kIn M.kp (run_make (us := []) M F hr hb hd hx I .nil h)
end

/-! ### keywords -/
/-- the values of the keywords, from the left -/
def PK (X : Cx) (kws : List Keyword) (t : TA) : Prop :=
  ∀ (pos : Pos) (pins : List (Addr × Obj)) (s : Shared) (σ : St) (H : Hp) (Q : List V → Hp → Prop), Inv X pins σ H s → t σ H Q → wpAny (model X.prog X.w) X.A (evalAll ((backToKw pos (keywordEach kws X.env)).map (·.2))) (AP X pins σ Q) X.xe s
section
variable {X : Cx} {CX : CXT} {k : Nat} {f C : Addr} {fd : FuncData} {ps ks : List Str} {sp : Sp} {E : XK} {x m : Str} {p pos apos kpos : Pos} {e o : Expr} {es : List Expr} {kws : List Keyword} {te ta : TE} {t tk : TA} {nm : Option Str}
theorem pk_nil : PK X [] tNil := fun _ _ _ _ H Q I h => wpAny_evalAll_nil ⟨[], H, I, .nil, h⟩
theorem pk_cons (ha : PE X e te) (hr : PK X kws t) : PK X (⟨nm, e, kpos⟩ :: kws) (tCons te t) := by
  intro pos pins s σ H Q I h
  show wpAny _ _ (evalAll ((do let v ← eval e X.env; standAt pos; pure v) :: (backToKw pos (keywordEach kws X.env)).map (·.2))) _ _ s
  refine wpAny_evalAll_cons (wpAny_bind (thn (ha pins s σ H _ I h) fun u s1 ⟨x, H1, I1, r1, q1⟩ => wpAny_bind (wpAny_standAt (wpAny_pure ?_))))
  exact thn (hr pos pins s1 σ H1 _ I1 q1) fun us s2 ⟨xs, H2, I2, r2, q2⟩ => ⟨x :: xs, H2, I2, .cons r1 r2, q2⟩

/-- how a call with keywords binds: g puts the positional values us and the keywords' values ws (names ks) in the parameters' order, defaults among them -/
structure KBinds (K : PySem.W.Frag) (fd : FuncData) (ps ks : List Str) (g : List Value → List Value → List Value) (gV : List V → List V → List V) : Prop where
  to : ∀ (s : Shared) (us ws : List Value), K.In s.heap → (g us ws).length = ps.length → BindsTo s fd ⟨us, ks.zip ws⟩ (ps.zip (g us ws))
  rel : ∀ {vs : List V} {us : List Value} {zs : List V} {ws : List Value}, Vals vs us → Vals zs ws → Vals (gV vs zs) (g us ws)
def tCallK (sp : Sp) (gV : List V → List V → List V) (E : XK) (t tk : TA) : TE := fun σ H Q => t σ H fun vs H1 => tk σ H1 fun zs H2 => sp (gV vs zs) H2 Q E
variable {g : List Value → List Value → List Value} {gV : List V → List V → List V}
theorem run_fnk {pins : List (Addr × Obj)} {σ : St} {H : Hp} {s : Shared} {Q : VK} {us ws : List Value} {vs zs : List V} (F : FnOk X.prog X.w X.K X.mg X.base CX k f fd ps sp) (hr : Room k X.A) (hb : KBinds X.K fd ps ks g gV) (hx : Passes CX X E)
    (I : Inv X pins σ H s) (r : Vals vs us) (rz : Vals zs ws) (h : sp (gV vs zs) H Q E) : wpAny (model X.prog X.w) X.A (call (.ref f) us (ks.zip ws)) (EP X pins σ Q) X.xe s := by
  have r2 := hb.rel r rz
  have hl : (g us ws).length = ps.length := by rw [← r2.length]; exact F.len _ _ _ _ h
  refine wpAny_call (codeAny_mono (F.run X.A X.stack s H ⟨us, ks.zip ws⟩ (g us ws) (gV vs zs) Q E hr I.env0 (hb.to s us ws I.kIn hl) r2 h) fun r s' hq => ?_)
  cases r with
  | error e => exact hx pins σ H s e s' I hq
  | ok fl =>
    cases fl with
    | ret u => exact I.after hq
    | next => exact False.elim hq
    | brk => exact False.elim hq
    | cont => exact False.elim hq
/-- f(e, .., k = v, ..) -/
theorem pe_callK (F : FnOk X.prog X.w X.K X.mg X.base CX k f fd ps sp) (hr : Room k X.A) (hg : Gl X x) (hm : X.mg x = some (.ref f)) (hk : PySem.W.keepIn X.K (.ref f) = true) (hb : KBinds X.K fd ps ks g gV) (hx : Passes CX X E)
    (ha : PA X (e :: es) t) (hkw : PK X kws tk) (hall : (backToKw pos (keywordEach kws X.env)).all (·.1.isSome) = true := by rfl) (hks : (backToKw pos (keywordEach kws X.env)).filterMap (·.1) = ks := by rfl)
    (hdb : (x == ("__debug__" : Str)) = false := by decide) (he : starEach (e :: es) X.env = (false, eval e X.env) :: starEach es X.env := by rfl)
    (hpl : ((backTo pos (starEach (e :: es) X.env)).any (·.1) || (backToKw pos (keywordEach kws X.env)).any (·.1.isNone)) = false := by rfl) :
    PE X (.Call (.Name x p) (e :: es) kws pos) (tCallK sp gV E t tk) := by
  intro pins s σ H Q I h
  refine wpAny_Call_Name_kw (ld_glob I hg hm ?_ hdb)
  refine PySem.W.callWith_KW (h₀ := X.base) I.ok.mod.kin hk hall (thn (ha pos pins s σ H _ I h) fun us s1 ⟨vs, H1, I1, r, q⟩ => ?_) hpl he
  refine thn (hkw pos pins s1 σ H1 _ I1 q) fun ws s2 ⟨zs, H2, I2, rz, q2⟩ => ⟨I2.kIn, ?_⟩
  rw [hks]
  exact run_fnk F hr hb hx I2 r rz q2
end

/-! ### a def's body keeps its promise -/
/-- names: the parameters first -/
structure FnScope (N P : List Str) (sc : Scope) : Prop where
  kind : sc.kind = .function
  co : sc.isCoroutine = false
  gen : sc.isGenerator = false
  nd : N.Nodup
  pre : N.take P.length = P
  par : ∀ x ∈ P, sc.names.lookup x = some .local ∨ sc.names.lookup x = some .cell
  nofree : ∀ y ∈ sc.names, y.2 ≠ .free

theorem bindL_out {kindOf : Str → Option NameKind} {x : Str} : ∀ {binds : List (Str × Value)} {m : Str → Option Value}, (∀ v, (x, v) ∉ binds) → bindL kindOf binds m x = m x
  | [], _, _ => rfl
  | (n, v) :: r, m, h => by
    unfold bindL
    rw [bindL_out fun w hw => h w (List.mem_cons_of_mem _ hw)]
    split
    · have : x ≠ n := by rintro rfl; exact h v List.mem_cons_self
      simp [this]
    · rfl
theorem bindC_out {kindOf : Str → Option NameKind} {x : Str} : ∀ {binds : List (Str × Value)} {m : Str → Option Value}, (∀ v, (x, v) ∉ binds) → bindC kindOf binds m x = m x
  | [], _, _ => rfl
  | (n, v) :: r, m, h => by
    unfold bindC
    rw [bindC_out fun w hw => h w (List.mem_cons_of_mem _ hw)]
    split
    · rfl
    · have : x ≠ n := by rintro rfl; exact h v List.mem_cons_self
      simp [this]
theorem bindL_get {kindOf : Str → Option NameKind} {x : Str} {v : Value} : ∀ {P : List Str} {vs : List Value} {i : Nat} {m : Str → Option Value}, P.Nodup → P[i]? = some x → vs[i]? = some v → kindOf x = some .local →
    bindL kindOf (P.zip vs) m x = some v
  | [], _, _, _, _, h, _, _ => by simp at h
  | _ :: _, [], _, _, _, _, h, _ => by simp at h
  | p :: P, w :: vs, 0, m, nd, h1, h2, hk => by
    simp at h1 h2; subst h1; subst h2
    show bindL kindOf ((p, w) :: P.zip vs) m p = _
    unfold bindL
    rw [bindL_out fun v hv => (List.nodup_cons.mp nd).1 (List.of_mem_zip hv).1, if_pos hk]
    simp
  | p :: P, w :: vs, i + 1, m, nd, h1, h2, hk => by
    show bindL kindOf ((p, w) :: P.zip vs) m x = _
    unfold bindL
    exact bindL_get (i := i) (List.nodup_cons.mp nd).2 (by simpa using h1) (by simpa using h2) hk
theorem bindC_get {kindOf : Str → Option NameKind} {x : Str} {v : Value} : ∀ {P : List Str} {vs : List Value} {i : Nat} {m : Str → Option Value}, P.Nodup → P[i]? = some x → vs[i]? = some v → kindOf x ≠ some .local →
    bindC kindOf (P.zip vs) m x = some v
  | [], _, _, _, _, h, _, _ => by simp at h
  | _ :: _, [], _, _, _, _, h, _ => by simp at h
  | p :: P, w :: vs, 0, m, nd, h1, h2, hk => by
    simp at h1 h2; subst h1; subst h2
    show bindC kindOf ((p, w) :: P.zip vs) m p = _
    unfold bindC
    rw [bindC_out fun v hv => (List.nodup_cons.mp nd).1 (List.of_mem_zip hv).1, if_neg hk]
    simp
  | p :: P, w :: vs, i + 1, m, nd, h1, h2, hk => by
    show bindC kindOf ((p, w) :: P.zip vs) m x = _
    unfold bindC
    exact bindC_get (i := i) (List.nodup_cons.mp nd).2 (by simpa using h1) (by simpa using h2) hk

/-- the names' values at the entry -/
def start (N : List Str) (vs : List V) : St := vs.map some ++ List.replicate (N.length - vs.length) none

/-- the context of a def's body, at its entry; an exception leaves the frame, then lies as CX says -/
def cxOf (CX : CXT) (P : Program) (w : World) (K : PySem.W.Frag) (mg : Str → Option Value) (base : Heap) (N : List Str) (qual : Str) (scope : Scope) (f : Addr) (cd : Value) (A : Around) (outer : List Env) (s : Shared) (H : Hp) (E : XK) : Cx where
  prog := P
  w := w
  K := K
  mg := mg
  base := base
  A := A.deeper (envOfC qual scope s.heap.objs.size f cd)
  N := N
  s₀ := s
  H₀ := H
  env := envOfC qual scope s.heap.objs.size f cd
  outer := outer
  stack := envOfC qual scope s.heap.objs.size f cd :: outer
  ex := []
  calm := true
  fn := fun _ => true
  pn := []
  xe := fun e s' => wpAny (model P w) (A.deeper (envOfC qual scope s.heap.objs.size f cd)) (leaving (envOfC qual scope s.heap.objs.size f cd) e) (fun _ s'' => CX outer H s E e s'') (fun e' s'' => CX outer H s E e' s'') s'

theorem cell_has {sc : Scope} {n : Nat} {x : Str} (h : sc.names.lookup x = some .cell) : ∃ c, (cellsFrom n sc.names []).lookup x = some c := by
  have q := PySem.W.cellsFrom_some sc.names n [] (.inl h)
  exact Option.isSome_iff_exists.mp q

theorem inv_start {CX : CXT} {P : Program} {w : World} {K : PySem.W.Frag} {mg : Str → Option Value} {base : Heap} {N ps : List Str} {qual : Str} {scope : Scope} {f : Addr} {cd : Value} {A : Around} {outer : List Env} {s s1 : Shared} {H : Hp} {E : XK} {us : List Value} {vs : List V}
    (S : FnScope N ps scope) (hd : A.handled = none) (e0 : Env0 P w K mg base A outer s H) (hl : vs.length = ps.length) (r : Vals vs us)
    (x : InCallC s s.heap.objs.size (bindL (envOfC qual scope s.heap.objs.size f cd).kindOf (ps.zip us) fun _ => none) (cellsFrom (s.heap.objs.size + 1) scope.names []) (bindC (envOfC qual scope s.heap.objs.size f cd).kindOf (ps.zip us) fun _ => none) s1) :
    Inv (cxOf CX P w K mg base N qual scope f cd A outer s H E) [] (start N vs) H s1 := by
  have hpl : ps.length ≤ N.length := by have := congrArg List.length S.pre; rw [List.length_take] at this; omega
  obtain ⟨h1, tk, rfl, hk⟩ := x.done
  have noA : ∀ b : Addr, b ∉ (cxOf CX P w K mg base N qual scope f cd A outer s H E).ex := fun b z => absurd (show b ∈ ([] : List Addr) from z) (by simp)
  refine ⟨⟨e0.mod, S.kind, rfl, rfl, Nat.le_refl _, fun y z c h1 h2 => ?_, fun y hy => ?_, fun y c _ h => ?_, fun _ => hd, Around.frames_deeper e0.frames, .inr ⟨rfl, rfl⟩, fun b z => absurd z (noA b), e0.bs, e0.bsz, fun b _ _ => noA b, fun b z => absurd z (noA b), e0.funs, e0.frf⟩,
    rfl, e0.bare, Un.kept hk, ⟨_, x.toInCall.ns, fun i y v h1 h2 h3 => ?_⟩, fun y c h => ⟨_, x.cell y c h⟩, e0.hok.fresh (Nat.le_refl _), fun y c h => ?_, fun p hp => absurd (show p ∈ ([] : List (Addr × Obj)) from hp) (by simp), e0.hok.kept hk, ?_⟩
  · exact name_of_addr x.apart (PySem.mem_of_lookup h1) (PySem.mem_of_lookup h2)
  · have hy : scope.names.lookup y = some .cell ∨ scope.names.lookup y = some .free := hy
    rcases hy with hy | hy
    · exact cell_has hy
    · exact absurd rfl (S.nofree _ (PySem.mem_of_lookup hy))
  · exact Nat.le_of_lt (x.above y c (PySem.mem_of_lookup h))
  · have hi : i < vs.length := by
      unfold start at h2
      by_cases hi : i < vs.length
      · exact hi
      · rw [List.getElem?_append_right (by simpa using hi)] at h2
        rw [List.getElem?_replicate] at h2
        split at h2 <;> cases h2
    have ha : vs[i]? = some v := by
      unfold start at h2
      rw [List.getElem?_append_left (by simpa using hi), List.getElem?_map] at h2
      cases e : vs[i]? with
      | none => rw [e] at h2; cases h2
      | some a => rw [e] at h2; cases h2; rfl
    obtain ⟨u, hu, rv⟩ := r.get ha
    have hp : ps[i]? = some y := by
      rw [← S.pre, List.getElem?_take_of_lt (by omega)]; exact h1
    have ndP : ps.Nodup := by rw [← S.pre]; exact S.nd.sublist (List.take_sublist _ _)
    refine ⟨u, rv, ?_⟩
    rcases S.par y (List.mem_of_getElem? hp) with k | k
    · exact .inl ⟨k, bindL_get ndP hp hu k⟩
    · obtain ⟨c, e⟩ := cell_has (n := s.heap.objs.size + 1) k
      refine .inr ⟨.inl k, c, e, ?_⟩
      have q := x.cell y c e
      rw [bindC_get ndP hp hu (by show scope.names.lookup y ≠ _; rw [k]; decide)] at q
      exact q
  · exact e0.hok.fresh (Nat.le_of_lt (x.above y c (PySem.mem_of_lookup h)))
  · unfold start
    show _ = N.length
    rw [List.length_append, List.length_map, List.length_replicate]
    omega

/-- THE RULE: a def (or a method) of the text, by its body. The body's reading t is chosen for each entry; it is run at the parameters' values -/
theorem fn_of {CX : CXT} {P : Program} {w : World} {K : PySem.W.Frag} {mg : Str → Option Value} {base : Heap} {k : Nat} {f : Addr} {name qual : Str} {params : Arguments} {body : List Stmt} {scope : Scope} {dV kV doc pm cdv ct oc : Value} {an od : Option Addr}
    {osl : Array (Option Value)} {N ps : List Str} {sp : Sp} (lk : K.lookup f = some ⟨oc, od, .func (PySem.W.fnOf name qual params body scope dV kV doc pm an cdv ct), osl⟩) (hcd : PySem.W.codeIn K cdv qual = true) (S : FnScope N ps scope)
    (len : ∀ vs H Q E, sp vs H Q E → vs.length = ps.length)
    (hbody : ∀ (A : Around) (outer : List Env) (s : Shared) (H : Hp) (vs : List V) (Q : VK) (E : XK), Room k (A.deeper (envOfC qual scope s.heap.objs.size f cdv)) → sp vs H Q E →
      ∃ t, PSs (cxOf CX P w K mg base N qual scope f cdv A outer s H E) body t ∧ t { nx := fun _ H' => Q .non H', rt := Q } (start N vs) H) :
    FnOk P w K mg base CX (k + 1) f (PySem.W.fnOf name qual params body scope dV kV doc pm an cdv ct) ps sp := by
  refine ⟨len, fun A outer s H args us vs Q E hr e0 hb r hsp => ?_⟩
  have hl := len _ _ _ _ hsp
  have KX : K.In s.heap := e0.mod.kin.keeps fun b o e => (e0.bs b o e).1
  have lim : s.heap.NoLimit := e0.mod.nolimit.keeps fun b o e => (e0.bs b o e).1
  have hkind : ∀ y ∈ ps.zip us, scope.names.lookup y.1 = some .local ∨ (scope.names.lookup y.1 = some .cell ∧ ((cellsFrom (s.heap.objs.size + 1) scope.names []).lookup y.1).isSome = true) := fun ⟨n, v⟩ hy => by
    rcases S.par n (List.of_mem_zip hy).1 with q | q
    · exact .inl q
    · exact .inr ⟨q, PySem.W.cellsFrom_some _ _ _ (.inl q)⟩
  refine codeAny_call_function hr.depth (KX _ _ lk) rfl S.co S.gen rfl (PySem.W.codeRec_of KX hcd) (hb _ _ _ _ ?_)
  refine wpAny_newFunctionEnv_cells S.kind hkind fun env he s1 x => ?_
  subst he
  refine ⟨lim.keeps x.toInCall.keep, codeAny_func ?_⟩
  obtain ⟨t, ht, hq⟩ := hbody A outer s H vs Q E (hr.deeper _) hsp
  have I : Inv (cxOf CX P w K mg base N qual scope f cdv A outer s H E) [] (start N vs) H s1 := inv_start S hr.hd e0 hl r x
  refine wpAny_mono (ht [] s1 (start N vs) H _ I hq) (fun fl s' hs => ?_) fun e s' hs => hs
  have fin : ∀ {σ' : St} {H' : Hp} {v : V} {u : Value}, Inv (cxOf CX P w K mg base N qual scope f cdv A outer s H E) [] σ' H' s' → RelV v u → Q v H' → CE outer P w H s Q u s' :=
    fun {σ' H' v u} J rv q => ⟨v, H', J.os, J.bare, J.base, J.hok, rv, q⟩
  cases fl with
  | ret u =>
    obtain ⟨v, σ', H', J, rv, q⟩ := hs
    exact fin J rv q
  | next =>
    obtain ⟨σ', H', J, q⟩ := hs
    exact fin (v := V.non) (u := Value.none) J rfl q
  | brk =>
    obtain ⟨_, _, _, q⟩ := hs
    exact False.elim q
  | cont =>
    obtain ⟨_, _, _, q⟩ := hs
    exact False.elim q
end L2

namespace L2
open PySem PySem.Spec PyProof.Rows
section
variable {X : Cx} {x : Str} {p pos : Pos} {e : Expr} {es : List Expr} {t : TA} {id T : String} {r : List V → Hp → VK → Prop}

def tCB (r : List V → Hp → VK → Prop) (t : TA) : TE := fun σ H Q => t σ H fun vs H1 => r vs H1 Q
/-- f(e, ..), f a built-in function -/
theorem pe_callB (hc : CallR X (.builtin id) r) (hg : Gl X x) (hm : X.mg x = none) (hv : bootBuiltins x = some (.builtin id)) (ha : PA X (e :: es) t) (hn : x ≠ "__name__" := by decide) (hdb : (x == ("__debug__" : Str)) = false := by decide)
    (he : starEach (e :: es) X.env = (false, eval e X.env) :: starEach es X.env := by rfl) (hpl : (backTo pos (starEach es X.env)).any (·.1) = false := by rfl) : PE X (.Call (.Name x p) (e :: es) [] pos) (tCB r t) := by
  intro pins s σ H Q I h
  refine wpAny_Call_Name_kw (ld_blt I hg hm hv ?_ hn hdb)
  exact PyProof.Rows.callWith_builtin1 (thn (ha pos pins s σ H _ I h) fun us s1 ⟨vs, H1, I1, r1, q1⟩ => hc pins s1 σ H1 vs us Q I1 r1 q1) he hpl
/-- T(e, ..), T a built-in type -/
theorem pe_callTy (hc : CallR X (.type T) r) (hg : Gl X x) (hm : X.mg x = none) (hv : bootBuiltins x = some (.type T)) (ha : PA X (e :: es) t) (hn : x ≠ "__name__" := by decide) (hdb : (x == ("__debug__" : Str)) = false := by decide)
    (he : starEach (e :: es) X.env = (false, eval e X.env) :: starEach es X.env := by rfl) (hpl : (backTo pos (starEach es X.env)).any (·.1) = false := by rfl) : PE X (.Call (.Name x p) (e :: es) [] pos) (tCB r t) := by
  intro pins s σ H Q I h
  refine wpAny_Call_Name_kw (ld_blt I hg hm hv ?_ hn hdb)
  exact PyProof.Rows.callWith_type1 (thn (ha pos pins s σ H _ I h) fun us s1 ⟨vs, H1, I1, r1, q1⟩ => hc pins s1 σ H1 vs us Q I1 r1 q1) he hpl
/-- T() -/
theorem pe_callTy0 (hc : CallR X (.type T) r) (hg : Gl X x) (hm : X.mg x = none) (hv : bootBuiltins x = some (.type T)) (hn : x ≠ "__name__" := by decide) (hdb : (x == ("__debug__" : Str)) = false := by decide) :
    PE X (.Call (.Name x p) [] [] pos) (tCB r tNil) := by
  intro pins s σ H Q I h
  refine wpAny_Call_Name_kw (ld_blt I hg hm hv ?_ hn hdb)
  exact PyProof.Rows.callWith_type0 (hc pins s σ H [] [] Q I .nil h)
end
end L2

namespace HT
open PySem PyProof.Rows

/-- t < u of tuples of ints -/
def lexLt : List Int → List Int → Bool
  | [], [] => false
  | [], _ :: _ => true
  | _ :: _, [] => false
  | x :: xs, y :: ys => if x = y then lexLt xs ys else decide (x < y)
theorem lexLt_cons (x y : Int) (xs ys : List Int) : lexLt (x :: xs) (y :: ys) = if x = y then lexLt xs ys else decide (x < y) := rfl
theorem lexLt_nil_nil : lexLt [] [] = false := rfl
theorem lexLt_nil_cons (y : Int) (ys : List Int) : lexLt [] (y :: ys) = true := rfl
theorem lexLt_cons_nil (x : Int) (xs : List Int) : lexLt (x :: xs) [] = false := rfl

theorem eqAt_int (A : Around) (s : Shared) (a : Int) (t : Tok) (c : Int) (u : Tok) : ∃ e, SeqAt.EqAt A s (.int a t) (.int c u) e ∧ (e = true ↔ a = c) :=
  ⟨(a == c), SeqAt.EqAt.int_int a t c u, by simp⟩
theorem rcLt_int (A : Around) (s : Shared) (a : Int) (t : Tok) (c : Int) (u : Tok) (prog : Program) (w : World) (E : Value → Shared → Prop) (Q : Value → Shared → Prop) (h : Q (.bool (decide (a < c))) s) :
    wpAny (model prog w) A (richCompare .Lt (.int a t) (.int c u)) Q E s :=
  (PyProof.Rows.lt_int h : wpAny (model prog w) A (compareOp .Lt (.int a t) (.int c u)) Q E s)

section
open PySem.SeqAt
open PySem.AutoSeq1 (wpAny_loadPart')
open PySem.MeetsSeq PySem.MeetsSeq2 PySem.MeetsSeq3

theorem tuple_lt_ints (l b : Addr) (items items2 : Array Value) (n n2 : Nat) (dd dd2 : Option Addr) (sl sl2 : Array (Option Value)) (ns ms : List Int) (hi : IntsAre items.toList ns) (hj : IntsAre items2.toList ms) :
    Meets (Builtin.«tuple.__lt__» ⟨[.ref l, .ref b], []⟩)
      (fun _ R s => s.heap.get? l = some { cls := .type "tuple", dict := dd, data := .seq items n, slots := sl } ∧ s.heap.get? b = some { cls := .type "tuple", dict := dd2, data := .seq items2 n2, slots := sl2 } ∧
        R (.ok (.ret (.bool (lexLt ns ms)))) s) :=
  .of_wp fun prog w A R s h => by
    obtain ⟨hp, g, d, tk, os⟩ := s; obtain ⟨hl, hb, h⟩ := h
    have f2 := AutoSeq1.sub_tuple_tuple
    have z1 : items.size = ns.length := by rw [← hi.length]; simp
    have z2 : items2.size = ms.length := by rw [← hj.length]; simp
    wp_walk using wpAny_loadPart' hl, wpAny_loadPart' hb, wpAny_forIn_list _ (fun rest b s' => b.1 = none ∧ s' = ⟨hp, g, d, tk, os⟩ ∧ ∃ (vs ws : List Value) (ns' ms' : List Int), rest = vs.zip ws ∧
      IntsAre vs ns' ∧ IntsAre ws ms' ∧ ns'.length + items2.size = ms'.length + items.size ∧ R (.ok (.ret (.bool (lexLt ns' ms')))) ⟨hp, g, d, tk, os⟩) _
    case turn =>
      rintro ⟨y, x⟩ rest b s' ⟨hb', rfl, vs, ws, ns', ms', hz, hvi, hwi, hlen, hR⟩
      cases hvi with
      | nil => rw [List.zip_nil_left] at hz; cases hz
      | cons a t hvi' =>
        cases hwi with
        | nil => rw [List.zip_nil_right] at hz; cases hz
        | cons c u hwi' =>
          rw [List.zip_cons_cons] at hz
          injection hz with hyx hrest
          injection hyx with hy hx
          subst hy hx
          rw [lexLt_cons] at hR
          simp only [List.length_cons] at hlen
          obtain ⟨e, he, hiff⟩ := eqAt_int A.in1 ⟨hp, g, d, tk, os⟩ a t c u
          refine wpAny_bind (he prog w _ _ ?_)
          cases e with
          | true =>
            rw [if_pos (hiff.mp rfl)] at hR
            wp_walk
            exact ⟨rfl, rfl, _, _, _, _, hrest, hvi', hwi', by omega, hR⟩
          | false =>
            rw [if_neg (fun q => absurd (hiff.mpr q) Bool.false_ne_true)] at hR
            have hri := rcLt_int A.in1 ⟨hp, g, d, tk, os⟩ a t c u prog w
            wp_walk using hri
            exact ⟨_, rfl, by simpa using hR⟩
    case fin =>
      rintro ⟨b1, b2⟩ s' ⟨hb', rfl, vs, ws, ns', ms', hz, hvi, hwi, hlen, hR⟩
      simp only at hb'
      subst hb'
      have hv : lexLt ns' ms' = decide (items.size < items2.size) := by
        cases hvi with
        | nil =>
          cases hwi with
          | nil =>
            simp only [List.length_nil] at hlen
            rw [lexLt_nil_nil]
            exact (decide_eq_false (by omega)).symm
          | cons c u hw =>
            simp only [List.length_nil, List.length_cons] at hlen
            rw [lexLt_nil_cons]
            exact (decide_eq_true (by omega)).symm
        | cons a t hv =>
          cases hwi with
          | nil =>
            simp only [List.length_nil, List.length_cons] at hlen
            rw [lexLt_cons_nil]
            exact (decide_eq_false (by omega)).symm
          | cons c u hw =>
            rw [List.zip_cons_cons] at hz
            cases hz
      rw [hv] at hR
      wp_walk
      exact ⟨_, rfl, by simpa [Builtin.Tuple.tupleCompareSizes] using hR⟩
    case h =>
      exact ⟨rfl, rfl, items.toList, items2.toList, ns, ms, rfl, hi, hj, by omega, h⟩
end

section
variable {prog : Program} {w : World} {A : Around} {E : Value → Shared → Prop} {s : Shared}

theorem lt_tupInts {l b : Addr} {items items2 : Array Value} {ns ms : List Int} {Q : Value → Shared → Prop} (hl : IsTup s.heap l items) (hb : IsTup s.heap b items2) (hi : IntsAre items.toList ns) (hj : IntsAre items2.toList ms)
    (hu : A.units < cLine) (h : Q (.bool (lexLt ns ms)) s) : wpAny (model prog w) A (compareOp .Lt (.ref l) (.ref b)) Q E s := by
  obtain ⟨⟨cls, dd, data, sl⟩, ho, hc, n, hd⟩ := id hl
  obtain ⟨⟨cls2, dd2, data2, sl2⟩, ho2, hc2, n2, hd2⟩ := id hb
  simp only at hc hd hc2 hd2
  subst hc hd hc2 hd2
  exact richCompare_meets_room (op := .Lt) ⟨_, ho, rfl⟩ ⟨_, ho2, rfl⟩ PySem.F.slot_tuple_lt PySem.F.entry_tuple_lt (PySem.F.args_tuple_lt_2 _ _) (tuple_lt_ints l b items items2 n n2 dd dd2 sl sl2 ns ms hi hj)
    ⟨ho, ho2, show Value.bool (lexLt ns ms) ≠ Value.notImplemented ∧ Q (.bool (lexLt ns ms)) s from ⟨(fun x => nomatch x), h⟩⟩ hu

/-- t + u, t not empty -/
theorem cat_tup {t b : Addr} {vs ws : List Value} {Q : Value → Shared → Prop} (ht : IsTup s.heap t vs.toArray) (hb : IsTup s.heap b ws.toArray) (hv : vs ≠ [])
    (h1 : ws = [] → Q (.ref t) s) (h2 : ws ≠ [] → Q (.ref s.heap.objs.size) { s with heap := s.heap.push { cls := .type "tuple", data := .seq (vs ++ ws).toArray } })
    (hsz : vs.length + ws.length ≤ sizeLine) : wpAny (model prog w) A (binaryOp .Add (.ref t) (.ref b)) Q E s := by
  obtain ⟨⟨cls, dd, data, sl⟩, ho, hc, n, hd⟩ := id ht
  obtain ⟨⟨cls2, dd2, data2, sl2⟩, ho2, hc2, n2, hd2⟩ := id hb
  simp only at hc hd hc2 hd2
  subst hc hd hc2 hd2
  have e : vs.toArray ++ ws.toArray = (vs ++ ws).toArray := by simp
  by_cases hw : ws = []
  · exact concat_meets ⟨_, ho, rfl⟩ ⟨_, ho2, rfl⟩ noFill_tuple_add seq_tuple_add PySem.F.slot_tuple_add PySem.F.entry_tuple_add (PySem.F.args_tuple_add_2 _ _)
      (tuple_addW1 t b vs.toArray ws.toArray n n2 dd dd2 sl sl2 (by simpa using hv) (by simp [hw])) ⟨ho, ho2, h1 hw⟩
  · refine concat_meets ⟨_, ho, rfl⟩ ⟨_, ho2, rfl⟩ noFill_tuple_add seq_tuple_add PySem.F.slot_tuple_add PySem.F.entry_tuple_add (PySem.F.args_tuple_add_2 _ _)
      (tuple_addW2 t b vs.toArray ws.toArray n n2 dd dd2 sl sl2 (by simpa using hv) (by simpa using hw) (by rw [List.size_toArray, List.size_toArray]; exact hsz)) ⟨ho, ho2, ?_⟩
    rw [e]
    exact h2 hw

/-! ### t[a:b], not the whole -/
/-- a slice's bound as a place among n (d where it is left out) -/
def sIx (n d : Nat) : Option Int → Nat
  | none => d
  | some v => if v < 0 then (v + (n : Int)).toNat else min v.toNat n
theorem sIx_none (n d : Nat) : sIx n d none = d := rfl
theorem sIx_nat (n d k : Nat) : sIx n d (some (k : Int)) = min k n := by
  show (if (k : Int) < 0 then ((k : Int) + (n : Int)).toNat else min (k : Int).toNat n) = min k n
  rw [if_neg (by omega), Int.toNat_natCast]
theorem sIx_le (n d : Nat) (hd : d ≤ n) (o : Option Int) : sIx n d o ≤ n := by
  cases o with
  | none => exact hd
  | some v =>
    show (if v < 0 then (v + (n : Int)).toNat else min v.toNat n) ≤ n
    by_cases hv : v < 0
    · rw [if_pos hv]; omega
    · rw [if_neg hv]; exact Nat.min_le_right _ _
theorem clip_eq (v : Int) (n d : Nat) : (if v < 0 then max (v + (n : Int)) 0 else min v (n : Int)) = ((sIx n d (some v) : Nat) : Int) := by
  show (if v < 0 then max (v + (n : Int)) 0 else min v (n : Int)) = (((if v < 0 then (v + (n : Int)).toNat else min v.toNat n) : Nat) : Int)
  by_cases hv : v < 0
  · simp only [if_pos hv]; omega
  · simp only [if_neg hv]; omega
theorem adjust_gen (lo hi : Option Int) (n : Nat) : Builtin.Slice.sliceAdjust lo hi 1 (n : Int) = (((sIx n 0 lo : Nat) : Int), ((sIx n n hi : Nat) : Int)) := by
  have h1 : ¬ ((1 : Int) < 0) := by omega
  unfold Builtin.Slice.sliceAdjust
  simp only [h1, if_false]
  refine Prod.ext ?_ ?_
  · cases lo with
    | none => rfl
    | some v => exact clip_eq v n 0
  · cases hi with
    | none => rfl
    | some v => exact clip_eq v n n
theorem places_gen (i j : Nat) : Builtin.Slice.slicePlaces (i : Int) (j : Int) 1 = j - i := by
  unfold Builtin.Slice.slicePlaces
  have h1 : (1 : Int) > 0 := by omega
  simp only [h1, if_true, Int.ediv_one]
  split <;> omega
theorem slicePart_ {v : Value} {o : Option Int} {Q : Option Int → Shared → Prop} (p : IsPart v o) (h : Q o s) : wpAny (model prog w) A (Builtin.Slice.slicePartIndex v) Q E s := by
  cases p with
  | none => exact slicePart_none h
  | int i t => exact slicePart_int h
theorem sliceApplied_gen {sl : Addr} {vl vu : Value} {lo hi : Option Int} {n : Nat} {Q : Int × Int × Nat → Shared → Prop} (hs : s.heap.IsSliceOf sl vl vu .none) (pl : IsPart vl lo) (pu : IsPart vu hi)
    (h : Q (((sIx n 0 lo : Nat) : Int), 1, sIx n n hi - sIx n 0 lo) s) : wpAny (model prog w) A (Builtin.Slice.sliceApplied (.ref sl) (pure (n : Int))) Q E s := by
  obtain ⟨os, hos, hcs, hds⟩ := id hs
  unfold Builtin.Slice.sliceApplied Builtin.Slice.sliceFields
  refine wpAny_bind (wpAny_bind (wpAny_field hos hds (x := vl) rfl (wpAny_bind (wpAny_field hos hds (x := vu) rfl (wpAny_bind (wpAny_field hos hds (x := .none) rfl (wpAny_pure ?_)))))))
  refine wpAny_bind (slicePart_none ?_)
  show wpAny _ _ (if ((1 : Int) == 0) = true then _ else _) _ _ s
  rw [if_neg (by decide)]
  refine wpAny_bind (slicePart_ pl (wpAny_bind (slicePart_ pu (wpAny_bind (wpAny_pure ?_)))))
  show wpAny _ _ (match Builtin.Slice.sliceAdjust lo hi 1 (n : Int) with | (lo, hi) => pure (lo, (1 : Int), Builtin.Slice.slicePlaces lo hi 1)) _ _ s
  rw [adjust_gen lo hi n]
  show wpAny _ _ (pure (((sIx n 0 lo : Nat) : Int), (1 : Int), Builtin.Slice.slicePlaces ((sIx n 0 lo : Nat) : Int) ((sIx n n hi : Nat) : Int) 1)) _ _ s
  rw [places_gen]
  exact wpAny_pure h
theorem pick_gen (xs : Array Value) (i k : Nat) : ((List.range k).filterMap fun (m : Nat) => xs[((i : Int) + (m : Int) * 1).toNat]?).toArray = ((xs.toList.drop i).take k).toArray := by
  have e : (fun (m : Nat) => xs[((i : Int) + (m : Int) * 1).toNat]?) = fun m => xs[i + m]? := by
    funext m
    have : ((i : Int) + (m : Int) * 1).toNat = i + m := by omega
    rw [this]
  rw [e]
  have := pick_run xs i k
  rw [List.filterMap_map] at this
  have e2 : ((fun x => xs[x]?) ∘ fun x => i + x) = fun m => xs[i + m]? := rfl
  rw [e2] at this
  rw [this]

theorem getItem_tuple_cut {t sl : Addr} {items : Array Value} {vl vu : Value} {lo hi : Option Int} {Q : Value → Shared → Prop} (ht : IsTup s.heap t items) (hs : s.heap.IsSliceOf sl vl vu .none) (pl : IsPart vl lo) (pu : IsPart vu hi)
    (hw : ¬ (sIx items.size 0 lo = 0 ∧ sIx items.size items.size hi = items.size))
    (h : Q (.ref s.heap.objs.size) { s with heap := s.heap.push { cls := .type "tuple", data := .seq ((items.toList.drop (sIx items.size 0 lo)).take (sIx items.size items.size hi - sIx items.size 0 lo)).toArray } })
    (hsz : items.size ≤ sizeLine) : wpAny (model prog w) A (getItem (.ref t) (.ref sl)) Q E s := by
  have htake : sizeOk (.seq ((items.toList.drop (sIx items.size 0 lo)).take (sIx items.size items.size hi - sIx items.size 0 lo)).toArray) := by
    show ((items.toList.drop (sIx items.size 0 lo)).take (sIx items.size items.size hi - sIx items.size 0 lo)).toArray.size ≤ sizeLine
    rw [List.size_toArray, List.length_take, List.length_drop, Array.length_toList]
    omega
  have hj : sIx items.size items.size hi ≤ items.size := sIx_le _ _ (Nat.le_refl _) hi
  obtain ⟨os, hos, hcs, hds⟩ := id hs
  have hTs : s.TypeIs (.ref sl) "slice" := ⟨os, hos, hcs⟩
  unfold getItem
  try with_reducible refine wpAny_holding ?_
  first | refine wpAny_bind (wpAny_pure ?_) | skip
  refine wpAny_bind (wpAny_sequenceKey ht.typeIs (by decide) ?_)
  refine wpAny_bind (wpAny_callSpecial?_slot (name := Str.ofString "__getitem__") ht.typeIs PyProof.Rows.slot_tuple_getitem
    (wpAny_call_entry PyProof.Rows.slot_tuple_getitem ht.typeIs entry_tuple_getitem ?_ (args_tuple_getitem _ _)))
  show wpAny _ _ (Builtin.Tuple.tupleItemsOf (.ref t) >>= _) _ _ s
  refine wpAny_bind (tupleItemsOf_ ht ?_)
  refine wpAny_bind (wpAny_typeOf hTs ?_)
  rw [if_pos (by decide)]
  refine wpAny_bind (sliceApplied_gen hs pl pu ?_)
  have hno : ¬ ((((sIx items.size 0 lo : Nat) : Int) == 0 && (1 : Int) == 1 && (sIx items.size items.size hi - sIx items.size 0 lo) == items.size) = true) := by
    intro q
    rw [Bool.and_eq_true, Bool.and_eq_true] at q
    have q1 : ((sIx items.size 0 lo : Nat) : Int) = 0 := eq_of_beq q.1.1
    have q2 : sIx items.size items.size hi - sIx items.size 0 lo = items.size := eq_of_beq q.2
    exact hw ⟨by omega, by omega⟩
  show wpAny _ _ (if (((sIx items.size 0 lo : Nat) : Int) == 0 && (1 : Int) == 1 && (sIx items.size items.size hi - sIx items.size 0 lo) == items.size) = true then _ else _) _ _ s
  rw [if_neg hno, pick_gen]
  first
    | exact wpAny_bind (m := Builtin.Tuple.tupleExact _) (wpAny_newObj_type (wpAny_pure ⟨_, rfl, wpAny_pure h⟩) htake)
    | exact wpAny_bind (m := Builtin.Tuple.tupleExact _) (wpAny_newObj_type (wpAny_bind (wpAny_pure (wpAny_pure ⟨_, rfl, wpAny_pure h⟩))) htake)
    | exact wpAny_bind (wpAny_bind (m := Builtin.Tuple.tupleExact _) (wpAny_newObj_type (wpAny_pure (wpAny_pure ⟨_, rfl, wpAny_pure h⟩)) htake))
    | exact wpAny_bind (wpAny_bind (m := Builtin.Tuple.tupleExact _) (wpAny_newObj_type (wpAny_pure ⟨_, rfl, wpAny_pure h⟩) htake))
end
end HT

namespace L2
open PySem PySem.Spec PyProof.Rows

/-! ### the parts of a slice -/
abbrev TO := St → Hp → (Option Int → Hp → Prop) → Prop
/-- a slice's part (left out, or an int) -/
def PO (X : Cx) (e : Option Expr) (t : TO) : Prop :=
  ∀ (pins : List (Addr × Obj)) (s : Shared) (σ : St) (H : Hp) (Q : Option Int → Hp → Prop), Inv X pins σ H s → t σ H Q →
    wpAny (model X.prog X.w) X.A (evalPart e X.env) (fun u s' => ∃ o H', Inv X pins σ H' s' ∧ IsPart u o ∧ Q o H') X.xe s
def tNoPart : TO := fun _ H Q => Q none H
def tPart (t : TE) : TO := fun σ H Q => t σ H fun x H1 => ∃ i, x = .int i ∧ Q (some i) H1

theorem intsAre_of {ns : List Int} : ∀ {us : List Value}, Vals (ns.map V.int) us → IntsAre us ns := by
  induction ns with
  | nil => intro us r; rw [List.map_nil] at r; cases r; exact .nil
  | cons n ns ih =>
    intro us r
    rw [List.map_cons] at r
    cases r with
    | cons r1 r2 =>
      obtain ⟨t, e⟩ := r1
      subst e
      exact .cons n t (ih r2)

section
variable {X : Cx} {e : Expr} {te : TE} {lo hi : Option Expr} {tl th : TO} {pos p2 : Pos}

theorem po_none : PO X none tNoPart := by
  intro pins s σ H Q I h
  rw [evalPart_none]
  exact wpAny_pure ⟨none, H, I, .none, h⟩
theorem po_some (h : PE X e te) : PO X (some e) (tPart te) := by
  intro pins s σ H Q I hw
  rw [evalPart_some]
  refine thn (h pins s σ H _ I hw) fun u s1 ⟨x, H1, I1, r1, q1⟩ => ?_
  obtain ⟨i, rfl, q⟩ := q1
  obtain ⟨t, rfl⟩ := r1
  exact ⟨some i, H1, I1, .int i t, q⟩

/-- what a slice of a value is, by values: the slice object stands at sl -/
def SlR (X : Cx) (r : V → Option Int → Option Int → Hp → VK → Prop) : Prop :=
  ∀ (pins : List (Addr × Obj)) (s : Shared) (σ : St) (H : Hp) (x : V) (v vl vu : Value) (lo hi : Option Int) (sl : Addr) (Q : VK), Inv X pins σ H s → RelV x v → s.heap.IsSliceOf sl vl vu .none → IsPart vl lo → IsPart vu hi → r x lo hi H Q →
    ∃ T id, typeLookup (.type T) "__getitem__" = pure (some (.builtin id)) ∧ s.TypeIs v T ∧ wpAny (model X.prog X.w) X.A (getItem v (.ref sl)) (EP X pins σ Q) X.xe s
theorem SlR.or {r r' : V → Option Int → Option Int → Hp → VK → Prop} (h : SlR X r) (h' : SlR X r') : SlR X (fun x lo hi H Q => r x lo hi H Q ∨ r' x lo hi H Q) := by
  intro pins s σ H x v vl vu lo hi sl Q I rx hs pl pu q
  rcases q with q | q
  · exact h pins s σ H x v vl vu lo hi sl Q I rx hs pl pu q
  · exact h' pins s σ H x v vl vu lo hi sl Q I rx hs pl pu q
def tSl (r : V → Option Int → Option Int → Hp → VK → Prop) (te : TE) (tl th : TO) : TE := fun σ H Q => te σ H fun x H1 => tl σ H1 fun l H2 => th σ H2 fun u H3 => r x l u H3 Q
/-- a[lo:hi], any a -/
theorem pe_slice {r : V → Option Int → Option Int → Hp → VK → Prop} (hr : SlR X r) (he : PE X e te) (hl : PO X lo tl) (hu : PO X hi th) : PE X (.Subscript e (.Slice lo hi none p2) pos) (tSl r te tl th) := by
  intro pins s σ H Q I h
  refine Subscript_ (thn (he pins s σ H _ I h) fun v s1 ⟨x, H1, I1, r1, q1⟩ => ?_)
  refine wpAny_Slice (thn (hl pins s1 σ H1 _ I1 q1) fun vl s2 ⟨l, H2, I2, pl, q2⟩ => thn (hu pins s2 σ H2 _ I2 q2) fun vu s3 ⟨u, H3, I3, pu, q3⟩ => ?_)
  rw [evalPart_none]
  refine wpAny_pure ?_
  have I4 : Inv X pins σ H3 { s3 with heap := s3.heap.push { cls := .type "slice", data := .fields #[vl, vu, .none] } } := I3.kept (t' := s3.toks) fun b ob q => Heap.get?_push_of_some _ q
  obtain ⟨T, id, hT, ht, hg⟩ := hr pins { s3 with heap := s3.heap.push { cls := .type "slice", data := .fields #[vl, vu, .none] } } σ H3 x v vl vu l u s3.heap.objs.size Q I4 r1 (Heap.IsSliceOf.new ..) pl pu q3
  show wpAny (model X.prog X.w) X.A (subscriptTail e (.Slice lo hi none p2) v (.ref s3.heap.objs.size)) (EP X pins σ Q) X.xe { s3 with heap := s3.heap.push { cls := .type "slice", data := .fields #[vl, vu, .none] } }
  exact tail_any (ops := [.ref s3.heap.objs.size, v]) ht hT hg (by with_unfolding_all rfl)

/-- the items of xs[lo:hi] -/
def cutV (xs : List V) (lo hi : Option Int) : List V := (xs.drop (HT.sIx xs.length 0 lo)).take (HT.sIx xs.length xs.length hi - HT.sIx xs.length 0 lo)
theorem cutV_length (xs : List V) (lo hi : Option Int) : (cutV xs lo hi).length ≤ xs.length := by
  unfold cutV
  rw [List.length_take, List.length_drop]
  omega
/-- t[lo:hi], not the whole of it (the whole would be t itself) -/
def rSlT (K : PySem.W.Frag) : V → Option Int → Option Int → Hp → VK → Prop := fun x lo hi H Q => ∃ a xs, x = .ref a ∧ SqT K H a xs ∧
  ¬ (HT.sIx xs.length 0 lo = 0 ∧ HT.sIx xs.length xs.length hi = xs.length) ∧ ∀ p, H p = none → Q (.ref p) (upd H p (.tup (cutV xs lo hi)))
theorem sl_tup : SlR X (rSlT X.K) := by
  intro pins s σ H x v vl vu lo hi sl Q I rx hs pl pu h
  obtain ⟨a, xs, rfl, hx, hw, q⟩ := h
  cases rx
  obtain ⟨its, r, ht, hz⟩ := I.tuple hx
  have hlen : its.toArray.size = xs.length := by rw [List.size_toArray]; exact r.length.symm
  refine ⟨"tuple", _, PyProof.Rows.slot_tuple_getitem.lookup, ht.typeIs, ?_⟩
  refine HT.getItem_tuple_cut ht hs pl pu (by rw [hlen]; exact hw) ?_ (by rw [hlen]; exact hz)
  rw [hlen]
  refine ⟨.ref s.heap.objs.size, _, I.laid (t' := s.toks) (o := .tup (cutV xs lo hi)) (fun b ob q => Heap.get?_push_of_some _ q) (Nat.le_refl _) ?_, rfl, q _ (I.hok.fresh (Nat.le_refl _))⟩
  exact ⟨Nat.le_trans (cutV_length xs lo hi) hz, _, (r.drop (HT.sIx xs.length 0 lo)).take (HT.sIx xs.length xs.length hi - HT.sIx xs.length 0 lo), IsTup.new _ _⟩

/-! ### t < u, t + u -/
def rLtT (K : PySem.W.Frag) : R2 := fun x y H Q => ∃ a b ns ms, x = .ref a ∧ y = .ref b ∧ SqT K H a (ns.map V.int) ∧ SqT K H b (ms.map V.int) ∧ Q (.bl (HT.lexLt ns ms)) H
theorem op_ltT (hu : X.A.units < cLine) : OpR X (compareOp .Lt) (rLtT X.K) := by
  intro pins s σ H x y v u Q I rx ry h
  obtain ⟨a, b, ns, ms, rfl, rfl, ha, hb, q⟩ := h
  cases rx
  cases ry
  obtain ⟨its, r1, p1, _⟩ := I.tuple ha
  obtain ⟨its2, r2, p2, _⟩ := I.tuple hb
  have i1 : IntsAre its.toArray.toList ns := intsAre_of r1
  have i2 : IntsAre its2.toArray.toList ms := intsAre_of r2
  exact HT.lt_tupInts p1 p2 i1 i2 hu ⟨.bl (HT.lexLt ns ms), H, I, rfl, q⟩
/-- t + u, t not empty: u empty gives t itself -/
def rCatT (K : PySem.W.Frag) : R2 := fun x y H Q => ∃ a b xs ys, x = .ref a ∧ y = .ref b ∧ SqT K H a xs ∧ SqT K H b ys ∧ xs ≠ [] ∧ xs.length + ys.length ≤ sizeLine ∧
  (ys = [] → Q (.ref a) H) ∧ (ys ≠ [] → ∀ p, H p = none → Q (.ref p) (upd H p (.tup (xs ++ ys))))
theorem Vals.nil_iff {xs : List V} {us : List Value} (r : Vals xs us) : us = [] ↔ xs = [] := by
  cases r with
  | nil => simp
  | cons _ _ => simp
theorem op_catT : OpR X (binaryOp .Add) (rCatT X.K) := by
  intro pins s σ H x y v u Q I rx ry h
  obtain ⟨a, b, xs, ys, rfl, rfl, ha, hb, hx, hz, q1, q2⟩ := h
  cases rx
  cases ry
  obtain ⟨its, r1, p1, _⟩ := I.tuple ha
  obtain ⟨its2, r2, p2, _⟩ := I.tuple hb
  refine HT.cat_tup p1 p2 (fun z => hx (r1.nil_iff.mp z)) (fun z => ⟨.ref a, H, I, rfl, q1 (r2.nil_iff.mp z)⟩) (fun z => ?_) (by rw [← r1.length, ← r2.length]; exact hz)
  refine ⟨.ref s.heap.objs.size, _, I.laid (t' := s.toks) (o := .tup (xs ++ ys)) (fun b ob q => Heap.get?_push_of_some _ q) (Nat.le_refl _) ?_, rfl, q2 (fun w => z (r2.nil_iff.mpr w)) _ (I.hok.fresh (Nat.le_refl _))⟩
  exact ⟨by rw [List.length_append]; exact hz, _, r1.append r2, IsTup.new _ _⟩
/-- tuple(t) -/
theorem call_tupleT : CallR X (.type "tuple") (fun xs H Q => ∃ a ys, xs = [.ref a] ∧ SqT X.K H a ys ∧ Q (.ref a) H) := by
  intro pins s σ H xs us Q I r h
  obtain ⟨a, ys, rfl, ha, q⟩ := h
  obtain ⟨u, rfl, ru⟩ := vals1 r
  cases ru
  obtain ⟨its, _, p1, _⟩ := I.tuple ha
  exact call_tuple_same (items := its.toArray) p1 ⟨.ref a, H, I, rfl, q⟩
end
end L2

namespace L2
open PySem PySem.Spec PyProof.Rows

/-! ### places -/
/-- the place that an index of any sign means -/
def ixN (n : Nat) (i : Int) : Option Nat := if 0 ≤ i then (if i < n then some i.toNat else none) else if -(n : Int) ≤ i then some (i + n).toNat else none
def atI {α : Type} (xs : List α) (i : Int) : Option α := (ixN xs.length i).bind fun j => xs[j]?
theorem ixN_seq {n : Nat} {i : Int} {j : Nat} (h : ixN n i = some j) : seqIndex? i n = some j ∧ j < n ∧ -(n : Int) ≤ i ∧ i < n := by
  unfold ixN at h
  by_cases h0 : 0 ≤ i
  · rw [if_pos h0] at h
    by_cases h1 : i < n
    · rw [if_pos h1] at h
      have e : i.toNat = j := Option.some.inj h
      exact ⟨by rw [seqIndex_of h0 h1, e], by omega, by omega, h1⟩
    · rw [if_neg h1] at h; cases h
  · rw [if_neg h0] at h
    by_cases h1 : -(n : Int) ≤ i
    · rw [if_pos h1] at h
      have e : (i + n).toNat = j := Option.some.inj h
      exact ⟨by rw [seqIndex_neg (by omega) h1, e], by omega, h1, by omega⟩
    · rw [if_neg h1] at h; cases h
theorem atI_get {α : Type} {xs : List α} {i : Int} {v : α} (h : atI xs i = some v) : ∃ j, seqIndex? i xs.length = some j ∧ xs[j]? = some v ∧ j < xs.length ∧ -(xs.length : Int) ≤ i ∧ i < xs.length := by
  unfold atI at h
  cases e : ixN xs.length i with
  | none => rw [e] at h; cases h
  | some j =>
    rw [e] at h
    obtain ⟨h1, h2, h3, h4⟩ := ixN_seq e
    exact ⟨j, h1, h, h2, h3, h4⟩
theorem atI_nat {α : Type} {xs : List α} {j : Nat} {v : α} (h : xs[j]? = some v) : atI xs (j : Int) = some v := by
  have hj : j < xs.length := (List.getElem?_eq_some_iff.mp h).1
  have e : ixN xs.length (j : Int) = some j := by
    unfold ixN
    rw [if_pos (by omega), if_pos (by omega)]; simp
  unfold atI; rw [e]; exact h
theorem atI_last {α : Type} (xs : List α) (v : α) : atI (xs ++ [v]) (-1) = some v := by
  have hl : (xs ++ [v]).length = xs.length + 1 := by simp
  have e : ixN (xs ++ [v]).length (-1) = some xs.length := by
    unfold ixN
    rw [hl, if_neg (by decide), if_pos (by omega)]
    congr 1
    omega
  unfold atI
  rw [e]
  show (xs ++ [v])[xs.length]? = some v
  simp

/-! ### what may be subscripted -/
/-- what stands as an index of a plain subscript -/
def PlainIx (b : Expr) : Prop := ∀ o i, subscripted b false o i = operate [o, i] (getItem o i)
/-- a subscript by values -/
def IxR (X : Cx) (r : R2) : Prop :=
  ∀ (value slice : Expr) (pins : List (Addr × Obj)) (s : Shared) (σ : St) (H : Hp) (x y : V) (v u : Value) (Q : VK), Inv X pins σ H s → RelV x v → RelV y u → r x y H Q →
    subscripted slice false v u = operate [v, u] (getItem v u) → wpAny (model X.prog X.w) X.A (subscriptTail value slice v u) (EP X pins σ Q) X.xe s
/-- a call of a builtin's method by values: the receiver, the arguments -/
def MtR (X : Cx) (id : String) (r : V → List V → Hp → VK → Prop) : Prop :=
  ∀ (pins : List (Addr × Obj)) (s : Shared) (σ : St) (H : Hp) (x : V) (xs : List V) (v : Value) (us : List Value) (Q : VK), Inv X pins σ H s → RelV x v → Vals xs us → r x xs H Q →
    wpAny (model X.prog X.w) X.A (call (.builtin id) (v :: us)) (EP X pins σ Q) X.xe s
section
variable {X : Cx} {a b : Expr} {ta tb : TE} {pos : Pos}
theorem IxR.or {r r' : R2} (h : IxR X r) (h' : IxR X r') : IxR X (fun x y H Q => r x y H Q ∨ r' x y H Q) := by
  intro value slice pins s σ H x y v u Q I rx ry q hs
  rcases q with q | q
  · exact h value slice pins s σ H x y v u Q I rx ry q hs
  · exact h' value slice pins s σ H x y v u Q I rx ry q hs
theorem MtR.or {id : String} {r r' : V → List V → Hp → VK → Prop} (h : MtR X id r) (h' : MtR X id r') : MtR X id (fun x xs H Q => r x xs H Q ∨ r' x xs H Q) := by
  intro pins s σ H x xs v us Q I rx rs q
  rcases q with q | q
  · exact h pins s σ H x xs v us Q I rx rs q
  · exact h' pins s σ H x xs v us Q I rx rs q
/-- a[b] -/
theorem pe_ix {r : R2} (hr : IxR X r) (ha : PE X a ta) (hb : PE X b tb) (hs : PlainIx b) : PE X (.Subscript a b pos) (tOp r ta tb) := by
  intro pins s σ H Q I h
  exact Subscript_ (binT ha hb I h fun v u s2 x y H2 I2 rx ry q => hr a b pins s2 σ H2 x y v u Q I2 rx ry q (hs _ _))

def rIxL (K : PySem.W.Frag) : R2 := fun x y H Q => ∃ p xs i v, x = .ref p ∧ y = .int i ∧ SqL K H p xs ∧ atI xs i = some v ∧ Q v H
def rIxT (K : PySem.W.Frag) : R2 := fun x y H Q => ∃ p xs i v, x = .ref p ∧ y = .int i ∧ SqT K H p xs ∧ atI xs i = some v ∧ Q v H
def rIxS : R2 := fun x y H Q => ∃ z i c, x = .str z ∧ y = .int i ∧ z.length ≤ sizeLine ∧ atI z.cps.toList i = some c ∧ Q (.str ⟨#[c]⟩) H
theorem ix_list : IxR X (rIxL X.K) := by
  intro value slice pins s σ H x y v u Q I rx ry h hs
  obtain ⟨p, xs, i, z, rfl, rfl, hq, he, q⟩ := h
  cases rx
  obtain ⟨t, rfl⟩ := ry
  obtain ⟨its, r, pl, hz⟩ := I.list hq
  obtain ⟨j, h1, h2, h3, h4, h5⟩ := atI_get he
  obtain ⟨w, ew, rw'⟩ := r.get h2
  have hl := r.length
  have hn := line63
  have fin : EP X pins σ Q w s := ⟨z, H, I, rw', q⟩
  by_cases h0 : 0 ≤ i
  · have hj : i.toNat = j := by
      rw [seqIndex_of h0 h5] at h1
      exact Option.some.inj h1
    exact item_listR pl.isList h0 (by omega) (by rw [hj]; simpa using ew) fin hs
  · have hj : (i + (its.toArray.size : Int)).toNat = j := by
      rw [seqIndex_neg (by omega) h4] at h1
      rw [List.size_toArray, ← hl]
      exact Option.some.inj h1
    exact subscriptTail_builtinR (x := w) pl.isList.typeIs slot_list_getitem.lookup
      (wpAny_getItem_list_neg (Q := fun r s' => r = w ∧ EP X pins σ Q r s') pl.isList (by omega) (by rw [List.size_toArray] <;> omega) (by omega) (by rw [hj]; simpa using ew) ⟨rfl, fin⟩) hs
theorem ix_tup : IxR X (rIxT X.K) := by
  intro value slice pins s σ H x y v u Q I rx ry h hs
  obtain ⟨p, xs, i, z, rfl, rfl, hq, he, q⟩ := h
  cases rx
  obtain ⟨t, rfl⟩ := ry
  obtain ⟨its, r, pl, hz⟩ := I.tuple hq
  obtain ⟨j, h1, h2, h3, h4, h5⟩ := atI_get he
  obtain ⟨w, ew, rw'⟩ := r.get h2
  have hl := r.length
  have hn := line63
  have fin : EP X pins σ Q w s := ⟨z, H, I, rw', q⟩
  exact subscriptTail_builtinR (x := w) pl.typeIs slot_tuple_getitem.lookup
    (getItem_tuple (j := j) (Q := fun r s' => r = w ∧ EP X pins σ Q r s') pl (by omega) (by omega) (by rw [List.size_toArray, ← hl]; exact h1) (by simpa using ew) ⟨rfl, fin⟩) hs
theorem ix_str : IxR X rIxS := by
  intro value slice pins s σ H x y v u Q I rx ry h hs
  obtain ⟨z, i, c, rfl, rfl, hz, he, q⟩ := h
  obtain ⟨t, rfl⟩ := rx
  obtain ⟨t', rfl⟩ := ry
  obtain ⟨j, h1, h2, h3, h4, h5⟩ := atI_get he
  have hl : z.cps.toList.length = z.length := by simp [Str.length]
  rw [hl] at h1 h4 h5
  have hn := line63
  exact tail_any (typeIs_str s z t) slot_str_getitem.lookup (getItem_str (c := c) (by
    have e1 : decide (i < -(2 ^ 63 : Int)) = false := decide_eq_false (by omega)
    have e2 : decide (i ≥ 2 ^ 63) = false := decide_eq_false (by omega)
    rw [e1, e2, Bool.or_false]) (by rw [h1]; simpa using h2) ⟨.str ⟨#[c]⟩, H, I.tok _, ⟨_, rfl⟩, q⟩) hs
/-- list, tuple or str -/
def rIx (K : PySem.W.Frag) : R2 := fun x y H Q => rIxL K x y H Q ∨ rIxT K x y H Q ∨ rIxS x y H Q
theorem ix_seq : IxR X (rIx X.K) := ix_list.or (ix_tup.or ix_str)

/-! ### xs[i] = v, any sign -/
/-- the list's object behind a store -/
theorem mapSeq_set (its : List Value) (n j : Nat) (u : Value) : Obj.mapSeq (·.setIfInBounds j u) { cls := .type "list", data := .seq its.toArray n } = { cls := .type "list", data := .seq (its.set j u).toArray n } := by
  simp [Obj.mapSeq]
theorem Inv.lst {pins : List (Addr × Obj)} {σ : St} {H : Hp} {s : Shared} {p : Addr} {xs : List V} (I : Inv X pins σ H s) (h : H p = some (.lst xs)) :
    ∃ (its : List Value) (n : Nat), Vals xs its ∧ s.heap.get? p = some { cls := .type "list", data := .seq its.toArray n } ∧ xs.length ≤ sizeLine := by
  obtain ⟨z, its, n, r, e⟩ := I.hok p _ h
  exact ⟨its, n, r, e, z⟩
/-- the list at p is written by an update of its object -/
theorem Inv.lstUpd {pins : List (Addr × Obj)} {σ : St} {H : Hp} {s : Shared} {p : Addr} {xs ys : List V} {its its' : List Value} {n n' : Nat} {f : Obj → Obj} (I : Inv X pins σ H s) (h : H p = some (.lst xs))
    (ho : s.heap.get? p = some { cls := .type "list", data := .seq its.toArray n }) (hf : f { cls := .type "list", data := .seq its.toArray n } = { cls := .type "list", data := .seq its'.toArray n' }) (r : Vals ys its') (hz : ys.length ≤ sizeLine) (t : Nat) :
    Inv X pins σ (upd H p (.lst ys)) { s with heap := s.heap.update p f, toks := t } := by
  have e : (s.heap.update p f).get? p = some { cls := .type "list", data := .seq its'.toArray n' } := by
    rw [Heap.get?_update_self f ho (by rw [hf] <;> rfl), hf]
  refine I.write (x := p) (e := p) (by rw [h]; trivial) (.inl rfl) (fun b u hb q => (Heap.get?_update_other _ _ (Ne.symm hb)).trans q) ⟨_, e⟩ ?_
  exact ⟨hz, its', n', r, e⟩
def rSetL : V → V → V → Hp → (Hp → Prop) → Prop := fun o i v H Q => ∃ p xs k j, o = .ref p ∧ i = .int k ∧ H p = some (.lst xs) ∧ ixN xs.length k = some j ∧ Q (upd H p (.lst (xs.set j v)))
theorem set_list : PSet X rSetL := by
  intro pins s σ H o i v ov iv u Q I ro ri rv h
  obtain ⟨p, xs, k, j, rfl, rfl, hp, hj, q⟩ := h
  cases ro
  obtain ⟨t, rfl⟩ := ri
  obtain ⟨its, n, r, ho, hz⟩ := I.lst hp
  obtain ⟨h1, h2, h3, h4⟩ := ixN_seq hj
  have hl := r.length
  have hn := line63
  have I' : Inv X pins σ (upd H p (.lst (xs.set j v))) { s with heap := s.heap.update p (Obj.mapSeq (·.setIfInBounds j u)) } :=
    I.lstUpd hp ho (mapSeq_set its n j u) (r.set rv j) (by rw [List.length_set]; exact hz) s.toks
  by_cases h0 : 0 ≤ k
  · have hk : k.toNat = j := by
      rw [seqIndex_of h0 h4] at h1
      exact Option.some.inj h1
    exact PySem.W.ki_setAt ho h0 (by omega) (by rw [List.size_toArray, ← hl]; exact h4) (by rw [hk]; exact ⟨_, I', q⟩)
  · have hk : (k + (its.toArray.size : Int)).toNat = j := by
      rw [seqIndex_neg (by omega) h3] at h1
      rw [List.size_toArray, ← hl]
      exact Option.some.inj h1
    exact PySem.W.ki_setBack ho (by omega) (by rw [List.size_toArray, ← hl]; exact h3) (by omega) (by rw [hk]; exact ⟨_, I', q⟩)

/-! ### slices -/
theorem slice_bounds (lo hi : Option Int) (n : Nat) : (sliceBounds lo hi none n).1 = ((HT.sIx n 0 lo : Nat) : Int) ∧ (sliceBounds lo hi none n).2.1 = ((HT.sIx n n hi : Nat) : Int) ∧ (sliceBounds lo hi none n).2.2 = 1 := by
  refine ⟨?_, ?_, rfl⟩
  · cases lo with
    | none => simp [sliceBounds, HT.sIx]
    | some i =>
      simp only [sliceBounds, HT.sIx, Option.getD_none, show (1 : Int) > 0 by decide, if_true]
      by_cases h : i < 0
      · simp only [h, if_true] <;> omega
      · simp only [h, if_false] <;> omega
  · cases hi with
    | none => simp [sliceBounds, HT.sIx]
    | some i =>
      simp only [sliceBounds, HT.sIx, Option.getD_none, show (1 : Int) > 0 by decide, if_true]
      by_cases h : i < 0
      · simp only [h, if_true] <;> omega
      · simp only [h, if_false] <;> omega
theorem slicePick_cut (its : List Value) (lo hi : Option Int) : slicePick its.toArray lo hi none = ((its.drop (HT.sIx its.length 0 lo)).take (HT.sIx its.length its.length hi - HT.sIx its.length 0 lo)).toArray := by
  obtain ⟨h1, h2, h3⟩ := slice_bounds lo hi its.toArray.size
  unfold slicePick
  rw [h1, h2, h3]
  simp only [sliceRange_one, pick_run, List.size_toArray] <;> rfl
/-- xs[lo:hi] of a list: a new list -/
def rSlL (K : PySem.W.Frag) : V → Option Int → Option Int → Hp → VK → Prop := fun x lo hi H Q => ∃ a xs, x = .ref a ∧ SqL K H a xs ∧ ∀ p, H p = none → Q (.ref p) (upd H p (.lst (cutV xs lo hi)))
theorem sl_list : SlR X (rSlL X.K) := by
  intro pins s σ H x v vl vu lo hi sl Q I rx hs pl pu h
  obtain ⟨a, xs, rfl, hx, q⟩ := h
  cases rx
  obtain ⟨its, r, ht, hz⟩ := I.list hx
  have hlen := r.length
  refine ⟨"list", _, slot_list_getitem.lookup, ht.isList.typeIs, ?_⟩
  refine wpAny_getItem_list_slice ht.isList hs pl pu .none (by simp) ?_ (by rw [List.size_toArray] <;> omega)
  rw [slicePick_cut, ← hlen]
  refine ⟨.ref s.heap.objs.size, _, I.laid (t' := s.toks) (o := .lst (cutV xs lo hi)) (fun b ob q => Heap.get?_push_of_some _ q) (Nat.le_refl _) ?_, rfl, q _ (I.hok.fresh (Nat.le_refl _))⟩
  exact ⟨Nat.le_trans (cutV_length xs lo hi) hz, _, 0, (r.drop (HT.sIx xs.length 0 lo)).take (HT.sIx xs.length xs.length hi - HT.sIx xs.length 0 lo), Heap.get?_push_size _ rfl⟩

/-! ### in, not in: flat items -/
def flatV : V → Bool
  | .non => true
  | .bl _ => true
  | .int _ => true
  | .str _ => true
  | _ => false
/-- == of flat values -/
def eqV : V → V → Bool
  | .non, .non => true
  | .bl a, .bl b => a == b
  | .bl a, .int b => (if a then 1 else 0) == b
  | .int a, .bl b => a == (if b then 1 else 0)
  | .int a, .int b => a == b
  | .str a, .str b => a == b
  | _, _ => false
theorem eqAt_V {A : Around} {s : Shared} {y x : V} {u v : Value} (ry : RelV y u) (rx : RelV x v) (fy : flatV y = true) (fx : flatV x = true) : SeqAt.EqAt A s u v (eqV y x) := by
  cases y with
  | non =>
    cases ry
    cases x with
    | non => cases rx; exact SeqAt.EqAt.same _
    | bl b => cases rx; exact SeqAt.EqAt.none_bool b
    | int b => obtain ⟨t, rfl⟩ := rx; exact SeqAt.EqAt.none_int b t
    | str b => obtain ⟨t, rfl⟩ := rx; exact SeqAt.EqAt.none_str b t
    | _ => exact absurd (show false = true from fx) Bool.false_ne_true
  | bl a =>
    cases ry
    cases x with
    | non => cases rx; exact SeqAt.EqAt.bool_none a
    | bl b => cases rx; exact SeqAt.EqAt.bool_bool a b
    | int b => obtain ⟨t, rfl⟩ := rx; exact SeqAt.EqAt.bool_int a b t
    | str b => obtain ⟨t, rfl⟩ := rx; exact SeqAt.EqAt.bool_str a b t
    | _ => exact absurd (show false = true from fx) Bool.false_ne_true
  | int a =>
    obtain ⟨t', rfl⟩ := ry
    cases x with
    | non => cases rx; exact SeqAt.EqAt.int_none a t'
    | bl b => cases rx; exact SeqAt.EqAt.int_bool a t' b
    | int b => obtain ⟨t, rfl⟩ := rx; exact SeqAt.EqAt.int_int a t' b t
    | str b => obtain ⟨t, rfl⟩ := rx; exact SeqAt.EqAt.int_str a t' b t
    | _ => exact absurd (show false = true from fx) Bool.false_ne_true
  | str a =>
    obtain ⟨t', rfl⟩ := ry
    cases x with
    | non => cases rx; exact SeqAt.EqAt.str_none a t'
    | bl b => cases rx; exact SeqAt.EqAt.str_bool a t' b
    | int b => obtain ⟨t, rfl⟩ := rx; exact SeqAt.EqAt.str_int a t' b t
    | str b => obtain ⟨t, rfl⟩ := rx; exact SeqAt.EqAt.str_str a t' b t
    | _ => exact absurd (show false = true from fx) Bool.false_ne_true
  | _ => exact absurd (show false = true from fy) Bool.false_ne_true
/-- the items' answers, read off the values (a value's own answer does not lean on its token) -/
def eqU (x : V) (u : Value) : Bool := match u with
  | .none => eqV .non x
  | .bool b => eqV (.bl b) x
  | .int i _ => eqV (.int i) x
  | .str z _ => eqV (.str z) x
  | _ => false
theorem eqU_of {x y : V} {u : Value} (r : RelV y u) (f : flatV y = true) : eqU x u = eqV y x := by
  cases y with
  | non => cases r; rfl
  | bl b => cases r; rfl
  | int i => obtain ⟨t, rfl⟩ := r; rfl
  | str z => obtain ⟨t, rfl⟩ := r; rfl
  | _ => exact absurd (show false = true from f) Bool.false_ne_true
theorem any_eqU {x : V} : ∀ {xs : List V} {us : List Value}, Vals xs us → xs.all flatV = true → us.any (eqU x) = xs.any fun y => eqV y x
  | _, _, .nil, _ => rfl
  | y :: xs, u :: us, .cons r t, f => by
    rw [List.all_cons, Bool.and_eq_true] at f
    rw [List.any_cons, List.any_cons, eqU_of r f.1, any_eqU t f.2]
theorem mem_eqAt {A : Around} {s : Shared} {x : V} {v : Value} (rx : RelV x v) (fx : flatV x = true) : ∀ {xs : List V} {us : List Value}, Vals xs us → xs.all flatV = true → ∀ u ∈ us, SeqAt.EqAt A s u v (eqU x u)
  | _, _, .nil, _ => fun u hu => by cases hu
  | y :: xs, u :: us, .cons r t, f => fun u' hu => by
    rw [List.all_cons, Bool.and_eq_true] at f
    rcases List.mem_cons.mp hu with rfl | hu
    · rw [eqU_of r f.1]; exact eqAt_V r rx f.1 fx
    · exact mem_eqAt rx fx t f.2 u' hu
def inV (x : V) (xs : List V) : Bool := xs.any fun y => eqV y x
/-- x in a list or tuple of flat items -/
def rIn (K : PySem.W.Frag) (neg : Bool) : R2 := fun x y H Q => ∃ p xs, y = .ref p ∧ (SqL K H p xs ∨ SqT K H p xs) ∧ flatV x = true ∧ xs.all flatV = true ∧ Q (.bl (if neg then !inV x xs else inV x xs)) H
theorem op_in_seq : OpR X (compareOp .In) (rIn X.K false) := by
  intro pins s σ H x y v u Q I rx ry h
  obtain ⟨p, xs, rfl, hq, fx, fs, q⟩ := h
  cases ry
  rcases hq with hq | hq
  · obtain ⟨its, r, pl, hz⟩ := I.list hq
    refine SeqAt.in_listAt (eqU x) pl.isList (fun w hw => mem_eqAt rx fx r fs w (by simpa using hw)) ⟨.bl _, H, I, rfl, ?_⟩
    rw [show its.toArray.any (eqU x) = its.any (eqU x) by simp, any_eqU r fs]
    exact q
  · obtain ⟨its, r, pl, hz⟩ := I.tuple hq
    refine SeqAt.in_tupleAt (eqU x) pl (fun w hw => mem_eqAt rx fx r fs w (by simpa using hw)) ⟨.bl _, H, I, rfl, ?_⟩
    rw [show its.toArray.any (eqU x) = its.any (eqU x) by simp, any_eqU r fs]
    exact q
theorem op_notIn_seq : OpR X (compareOp .NotIn) (rIn X.K true) := by
  intro pins s σ H x y v u Q I rx ry h
  obtain ⟨p, xs, rfl, hq, fx, fs, q⟩ := h
  cases ry
  rcases hq with hq | hq
  · obtain ⟨its, r, pl, hz⟩ := I.list hq
    refine SeqAt.notIn_listAt (eqU x) pl.isList (fun w hw => mem_eqAt rx fx r fs w (by simpa using hw)) ⟨.bl _, H, I, rfl, ?_⟩
    rw [show its.toArray.any (eqU x) = its.any (eqU x) by simp, any_eqU r fs]
    exact q
  · obtain ⟨its, r, pl, hz⟩ := I.tuple hq
    refine SeqAt.notIn_tupleAt (eqU x) pl (fun w hw => mem_eqAt rx fx r fs w (by simpa using hw)) ⟨.bl _, H, I, rfl, ?_⟩
    rw [show its.toArray.any (eqU x) = its.any (eqU x) by simp, any_eqU r fs]
    exact q
theorem op_notIn_str : OpR X (compareOp .NotIn) (fun x y H Q => ∃ i j, x = .str i ∧ y = .str j ∧ Q (.bl (!(!(Builtin.Str.occurrences j i 0 j.length 1).isEmpty))) H) := by
  intro pins s σ H x y v u Q I rx ry h
  obtain ⟨i, j, rfl, rfl, q⟩ := h
  obtain ⟨t, rfl⟩ := rx
  obtain ⟨t', rfl⟩ := ry
  exact notIn_str ⟨.bl _, H, I, rfl, q⟩

/-! ### len, list(x), tuple(x) of any list or tuple that is read -/
theorem call_len_seq : CallR X (.builtin "len") (fun xs H Q => ∃ p ys, xs = [.ref p] ∧ (SqL X.K H p ys ∨ SqT X.K H p ys) ∧ Q (.int ys.length) H) := by
  intro pins s σ H xs us Q I r h
  obtain ⟨p, ys, rfl, hq, q⟩ := h
  obtain ⟨u, rfl, rx⟩ := vals1 r
  cases rx
  have hn := line63
  rcases hq with hq | hq
  · obtain ⟨its, r', pl, hz⟩ := I.list hq
    have hlen := r'.length
    exact Calls.call_len_list pl.isList (by simp only [List.size_toArray] <;> omega) ⟨.int ys.length, H, I.tok _, ⟨s.toks + 1, by rw [List.size_toArray, hlen]⟩, q⟩
  · obtain ⟨its, r', pl, hz⟩ := I.tuple hq
    have hlen := r'.length
    exact len_tuple pl (by simp only [List.size_toArray] <;> omega) ⟨.int ys.length, H, I.tok _, ⟨s.toks + 1, by rw [List.size_toArray, hlen]⟩, q⟩
theorem call_len_str : CallR X (.builtin "len") (fun xs H Q => ∃ z, xs = [.str z] ∧ z.length ≤ sizeLine ∧ Q (.int z.length) H) := by
  intro pins s σ H xs us Q I r h
  obtain ⟨z, rfl, hz, q⟩ := h
  obtain ⟨u, rfl, t, rfl⟩ := vals1 r
  have hn := line63
  exact len_str (by omega) ⟨.int z.length, H, I.tok _, ⟨_, rfl⟩, q⟩
theorem CallR.or {f : Value} {r r' : List V → Hp → VK → Prop} (h : CallR X f r) (h' : CallR X f r') : CallR X f (fun xs H Q => r xs H Q ∨ r' xs H Q) := by
  intro pins s σ H xs us Q I rs q
  rcases q with q | q
  · exact h pins s σ H xs us Q I rs q
  · exact h' pins s σ H xs us Q I rs q
theorem call_list_of : CallR X (.type "list") (fun xs H Q => ∃ p ys, xs = [.ref p] ∧ (SqL X.K H p ys ∨ SqT X.K H p ys) ∧ ∀ l, H l = none → Q (.ref l) (upd H l (.lst ys))) := by
  intro pins s σ H xs us Q I r h
  obtain ⟨p, ys, rfl, hq, q⟩ := h
  obtain ⟨u, rfl, rx⟩ := vals1 r
  cases rx
  have fin : ∀ (its : List Value), Vals ys its → ys.length ≤ sizeLine → ∀ (h' : Heap) (c' : Nat), (∀ b o', s.heap.get? b = some o' → h'.get? b = some o') →
      h'.get? s.heap.objs.size = some { cls := .type "list", dict := none, data := .seq its.toArray c', slots := #[] } → EP X pins σ Q (.ref s.heap.objs.size) { s with heap := h' } := fun its r' hz h' c' kp e =>
    ⟨.ref s.heap.objs.size, _, I.laid (t' := s.toks) kp (Nat.le_refl _) (show ObjOk X.prog X.w _ h' _ (.lst ys) from ⟨hz, its, c', r', e⟩), rfl, q _ (I.hok.fresh (Nat.le_refl _))⟩
  rcases hq with hq | hq
  · obtain ⟨its, r', pl, hz⟩ := I.list hq
    have hlen := r'.length
    obtain ⟨o, ho, hc, n, hd⟩ := pl.isList
    exact call_list_seq p (.inl rfl) ho hc hd (fun h' c' kp e => fin its r' hz h' c' kp e) (by simp only [List.size_toArray] <;> omega)
  · obtain ⟨its, r', pl, hz⟩ := I.tuple hq
    have hlen := r'.length
    obtain ⟨o, ho, hc, n, hd⟩ := pl
    exact call_list_seq p (.inr rfl) ho hc hd (fun h' c' kp e => fin its r' hz h' c' kp e) (by simp only [List.size_toArray] <;> omega)
theorem call_tuple_of : CallR X (.type "tuple") (fun xs H Q => ∃ p ys, xs = [.ref p] ∧ ((SqL X.K H p ys ∧ ∀ l, H l = none → Q (.ref l) (upd H l (.tup ys))) ∨ (SqT X.K H p ys ∧ Q (.ref p) H))) := by
  intro pins s σ H xs us Q I r h
  obtain ⟨p, ys, rfl, h⟩ := h
  obtain ⟨u, rfl, rx⟩ := vals1 r
  cases rx
  rcases h with ⟨hq, q⟩ | ⟨hq, q⟩
  · obtain ⟨its, r', pl, hz⟩ := I.list hq
    have hlen := r'.length
    refine call_tuple_list pl.isList (fun h' kp => ?_) (by simp only [List.size_toArray] <;> omega)
    have I1 : Inv X pins σ H { s with heap := h' } := I.kept (t' := s.toks) kp
    have I2 : Inv X pins σ (upd H h'.objs.size (.tup ys)) { s with heap := h'.push { cls := .type "tuple", data := .seq its.toArray } } :=
      I1.laid (t' := s.toks) (fun b o e => Heap.get?_push_of_some _ e) (Nat.le_refl _) (show ObjOk X.prog X.w _ _ _ (.tup ys) from ⟨hz, its, r', IsTup.new _ _⟩)
    exact ⟨.ref h'.objs.size, _, I2, rfl, q _ (I1.hok.fresh (Nat.le_refl _))⟩
  · obtain ⟨its, r', pl, hz⟩ := I.tuple hq
    exact call_tuple_same pl ⟨.ref p, H, I, rfl, q⟩

/-! ### the call of a builtin's method: o.m(..) -/
/-- the value is of that builtin type -/
def tyV (K : PySem.W.Frag) (T : String) (x : V) (H : Hp) : Prop := match x with
  | .str _ => T = "str"
  | .int _ => T = "int"
  | .ref p => (T = "list" ∧ ∃ xs, SqL K H p xs) ∨ (T = "tuple" ∧ ∃ o, K.lookup p = some o ∧ o.cls = .type "tuple" ∧ o.dict = none) ∨
      (T = "dict" ∧ ((∃ kvs, H p = some (.dK kvs)) ∨ ∃ kvs, H p = some (.dT kvs))) ∨ (T = "set" ∧ ∃ S n, H p = some (.set S n))
  | _ => False
theorem tyV_is {pins : List (Addr × Obj)} {σ : St} {H : Hp} {s : Shared} {T : String} {x : V} {v : Value} (I : Inv X pins σ H s) (r : RelV x v) (ty : tyV X.K T x H) :
    s.TypeIs v T ∧ ∀ a, v = .ref a → ∃ ob, s.heap.get? a = some ob ∧ ob.dict = none := by
  cases x with
  | str z =>
    obtain ⟨t, rfl⟩ := r
    cases (show T = "str" from ty)
    exact ⟨typeIs_str s z t, fun _ e => nomatch e⟩
  | int i =>
    obtain ⟨t, rfl⟩ := r
    cases (show T = "int" from ty)
    exact ⟨typeIs_int s i t, fun _ e => nomatch e⟩
  | ref p =>
    cases r
    rcases ty with ⟨rfl, xs, hq⟩ | ⟨rfl, o, hk, hc, hd⟩ | ⟨rfl, hk⟩ | ⟨rfl, S, n, hk⟩
    · obtain ⟨its, _, pl, _⟩ := I.list hq
      refine ⟨pl.isList.typeIs, fun a e => ?_⟩
      cases e
      obtain ⟨o, n, e, c, hd, _⟩ := pl
      exact ⟨o, e, hd⟩
    · refine ⟨⟨o, I.kIn p o hk, hc⟩, fun a e => ?_⟩
      cases e
      exact ⟨o, I.kIn _ o hk, hd⟩
    · have z : ∃ o, s.heap.get? p = some o ∧ o.ExactDict := by
        rcases hk with ⟨kvs, hk⟩ | ⟨kvs, hk⟩
        · obtain ⟨_, _, _, _, o, _, _, e, ex, _⟩ := I.hok p _ hk
          exact ⟨o, e, ex⟩
        · obtain ⟨_, _, _, _, o, _, _, e, ex, _⟩ := I.hok p _ hk
          exact ⟨o, e, ex⟩
      obtain ⟨o, e, ex⟩ := z
      refine ⟨⟨o, e, ex.1⟩, fun a e2 => ?_⟩
      cases e2
      exact ⟨o, e, ex.2.1⟩
    · obtain ⟨o, _, _, _, e, ex, _⟩ := I.hok p _ hk
      refine ⟨⟨o, e, ex.1⟩, fun a e2 => ?_⟩
      cases e2
      exact ⟨o, e, ex.2.1⟩
  | _ => exact False.elim ty
def tBM0 (K : PySem.W.Frag) (T : String) (r : V → List V → Hp → VK → Prop) (to : TE) : TE := fun σ H Q => to σ H fun x H1 => tyV K T x H1 ∧ r x [] H1 Q
def tBM (K : PySem.W.Frag) (T : String) (r : V → List V → Hp → VK → Prop) (to : TE) (t : TA) : TE := fun σ H Q => to σ H fun x H1 => tyV K T x H1 ∧ t σ H1 fun xs H2 => r x xs H2 Q
variable {o e : Expr} {es : List Expr} {to : TE} {t : TA} {name : Str} {apos cpos : Pos} {T id : String} {r : V → List V → Hp → VK → Prop}
theorem pe_bm0 (pa : PlainAttrs T) (slot : Slot T name id) (hty : typeOf (.builtin id) = pure (.type "method_descriptor")) (hm : MtR X id r) (ho : PE X o to)
    (hbase : attributeBase o name X.env (eval o X.env) = eval o X.env := by rfl) (hline : (apos.endLine == cpos.line) = true := by rfl) : PE X (.Call (.Attribute o name apos) [] [] cpos) (tBM0 X.K T r to) := by
  intro pins s σ H Q I h
  refine wpAny_Call_method0_late hbase hline (thn (ho pins s σ H _ I h) fun v s1 ⟨x, H1, I1, r1, ty, q1⟩ => ?_)
  obtain ⟨h1, h2⟩ := tyV_is I1 r1 ty
  exact ⟨T, id, pa, slot, hty, h1, h2, Calls.callWith_builtin rfl (PySem.evalArgs_none (hm pins s1 σ H1 x [] v [] Q I1 r1 .nil q1))⟩
theorem pe_bm (pa : PlainAttrs T) (slot : Slot T name id) (hty : typeOf (.builtin id) = pure (.type "method_descriptor")) (hm : MtR X id r) (ho : PE X o to) (ha : PA X (e :: es) t)
    (hbase : attributeBase o name X.env (eval o X.env) = eval o X.env := by rfl)
    (hfew : ((backTo cpos (starEach (e :: es) X.env)).all (fun x => !x.1) && (backToKw cpos (keywordEach [] X.env)).all (fun x => x.1.isSome)
      && decide ((e :: es).length + ([] : List Keyword).length + (if ([] : List Keyword).isEmpty then 0 else 1) < 30)) = true := by rfl)
    (hline : (apos.endLine == cpos.line) = true := by rfl) (hs : starEach (e :: es) X.env = (false, eval e X.env) :: starEach es X.env := by rfl) (hplain : (backTo cpos (starEach es X.env)).any (·.1) = false := by rfl) :
    PE X (.Call (.Attribute o name apos) (e :: es) [] cpos) (tBM X.K T r to t) := by
  intro pins s σ H Q I h
  refine wpAny_Call_method_late hbase hfew hline rfl (thn (ho pins s σ H _ I h) fun v s1 ⟨x, H1, I1, r1, ty, q1⟩ => ?_)
  obtain ⟨h1, h2⟩ := tyV_is I1 r1 ty
  refine ⟨T, id, pa, slot, hty, h1, h2, ?_⟩
  have hA := ha cpos pins s1 σ H1 _ I1 q1
  rw [hs] at hA ⊢
  refine Calls.callWith_builtin (by show (false || (backTo cpos (starEach es X.env)).any (·.1)) = false; rw [hplain] <;> rfl) (Calls.evalArgs_plain ?_)
  exact thn hA fun us s2 ⟨vs, H2, I2, r2, q2⟩ => hm pins s2 σ H2 x vs v us Q I2 r1 r2 q2
/- xs.append(e), list.index on a module's tuple .. are MtR facts of 06m -/
end
end L2

namespace L2
open PySem PySem.Spec PyProof.Rows

def MtM (X : Cx) (id : String) (r : V → List V → Hp → VK → Prop) : Prop :=
  ∀ (pins : List (Addr × Obj)) (s : Shared) (σ : St) (H : Hp) (x : V) (xs : List V) (v : Value) (us : List Value) (Q : VK), Inv X pins σ H s → RelV x v → Vals xs us → r x xs H Q →
    wpAny (model X.prog X.w) X.A (call (.builtin id) (v :: us)) (EP X pins σ Q) X.xe s

/-! ### lists of values -/
theorem Vals.one : ∀ {x : V} {us : List Value}, Vals [x] us → ∃ u, us = [u] ∧ RelV x u
  | _, _, .cons r .nil => ⟨_, rfl, r⟩
theorem Vals.two : ∀ {x y : V} {us : List Value}, Vals [x, y] us → ∃ u v, us = [u, v] ∧ RelV x u ∧ RelV y v
  | _, _, _, .cons r (.cons q .nil) => ⟨_, _, rfl, r, q⟩
theorem Vals.zero : ∀ {us : List Value}, Vals [] us → us = []
  | _, .nil => rfl
theorem Vals.dropLast {xs : List V} {us : List Value} (h : Vals xs us) : Vals xs.dropLast us.dropLast := by
  induction h with
  | nil => exact .nil
  | cons r t ih =>
    cases t with
    | nil => exact .nil
    | cons q t' => exact .cons r ih
theorem Vals.eraseIdx : ∀ {xs : List V} {us : List Value} (i : Nat), Vals xs us → Vals (xs.eraseIdx i) (us.eraseIdx i)
  | _, _, _, .nil => .nil
  | _, _, 0, .cons _ t => t
  | _, _, i + 1, .cons r t => .cons r (Vals.eraseIdx i t)
theorem Vals.reverse {xs : List V} {us : List Value} (h : Vals xs us) : Vals xs.reverse us.reverse := by
  induction h with
  | nil => exact .nil
  | cons r t ih => rw [List.reverse_cons, List.reverse_cons]; exact Vals.append ih (.cons r .nil)
theorem Vals.rep {xs : List V} {us : List Value} (h : Vals xs us) : ∀ k : Nat, Vals (List.replicate k xs).flatten (List.replicate k us).flatten
  | 0 => .nil
  | k + 1 => by
    rw [List.replicate_succ, List.replicate_succ, List.flatten_cons, List.flatten_cons]
    exact Vals.append h (Vals.rep h k)
theorem erase_last {α : Type} (l : List α) : l.eraseIdx (l.length - 1) = l.dropLast := by
  induction l with
  | nil => rfl
  | cons a r ih =>
    cases r with
    | nil => rfl
    | cons b r =>
      have e : (a :: b :: r).length - 1 = ((b :: r).length - 1) + 1 := by
        have h1 : (a :: b :: r).length = r.length + 2 := rfl
        have h2 : (b :: r).length = r.length + 1 := rfl
        omega
      rw [e, List.eraseIdx_cons_succ, ih]
      all_goals rfl
theorem len_erase {α : Type} : ∀ (l : List α) (i : Nat), (l.eraseIdx i).length ≤ l.length
  | [], _ => Nat.le_refl _
  | _ :: _, 0 => Nat.le_succ _
  | _ :: r, i + 1 => Nat.succ_le_succ (len_erase r i)
theorem foldl_rep (its : List Value) : ∀ (k : Nat) (acc : List Value),
    List.foldl (fun x1 x2 => x1 ++ x2) acc.toArray (List.replicate k its.toArray) = (acc ++ (List.replicate k its).flatten).toArray
  | 0, acc => by simp
  | k + 1, acc => by
    have e : acc.toArray ++ its.toArray = (acc ++ its).toArray := by simp
    have e2 : (acc ++ its) ++ (List.replicate k its).flatten = acc ++ (List.replicate (k + 1) its).flatten := by
      rw [List.replicate_succ, List.flatten_cons, List.append_assoc]
    rw [← e2, ← foldl_rep its k (acc ++ its), ← e, List.replicate_succ, List.foldl_cons]

section
variable {X : Cx} {pins : List (Addr × Obj)} {σ : St} {H : Hp} {s : Shared} {l b : Addr} {xs ys zs : List V}

/-! ### the two steps: a tracked list is rewritten, a new list is laid -/
theorem Inv.lset {its its' : List Value} {n : Nat} {f : Array Value → Array Value} {t' : Nat} (I : Inv X pins σ H s) (hH : H l = some (.lst xs))
    (e : s.heap.get? l = some { cls := .type "list", data := .seq its.toArray n }) (hf : f its.toArray = its'.toArray) (hv : Vals ys its') (hz : ys.length ≤ sizeLine) :
    Inv X pins σ (upd H l (.lst ys)) { s with heap := s.heap.update l (Obj.mapSeq f), toks := t' } := by
  have q := PySem.IsL.update e f
  rw [hf] at q
  refine I.write (x := l) (e := l) (by rw [hH]; exact trivial) (.inl rfl) (fun b' u hb hu => (Heap.get?_update_other s.heap (Obj.mapSeq f) (Ne.symm hb)).trans hu) ⟨_, q⟩ ?_
  exact ⟨hz, its', _, hv, q⟩
theorem Inv.lnew {its : List Value} {t' : Nat} (I : Inv X pins σ H s) (hv : Vals ys its) (hz : ys.length ≤ sizeLine) :
    Inv X pins σ (upd H s.heap.objs.size (.lst ys)) { s with heap := s.heap.push { cls := .type "list", data := .seq its.toArray }, toks := t' } :=
  I.laid (fun _ _ q => Heap.get?_push_of_some _ q) (Nat.le_refl _) ⟨hz, its, 0, hv, Heap.get?_push_size _ rfl⟩
theorem Inv.fresh (I : Inv X pins σ H s) : H s.heap.objs.size = none := I.hok.fresh (Nat.le_refl _)
theorem Inv.lstM (I : Inv X pins σ H s) (hH : H l = some (.lst xs)) : xs.length ≤ sizeLine ∧ ∃ (its : List Value) (n : Nat), Vals xs its ∧ xs.length = its.length ∧ s.heap.get? l = some { cls := .type "list", data := .seq its.toArray n } := by
  obtain ⟨z, its, n, r, e⟩ := I.hok l _ hH
  exact ⟨z, its, n, r, r.length, e⟩

theorem notLongL {n : Nat} (h : n ≤ sizeLine) : Builtin.List.listTooLong n = false := by
  unfold Builtin.List.listTooLong
  exact decide_eq_false (by omega)
end

section
variable {X : Cx}

/-! ### methods -/
def rAppend : V → List V → Hp → VK → Prop := fun x vs H Q => ∃ l xs y, x = .ref l ∧ vs = [y] ∧ H l = some (.lst xs) ∧ xs.length < sizeLine ∧ Q .non (upd H l (.lst (xs ++ [y])))
theorem mt_append : MtM X "list.append" rAppend := by
  intro pins s σ H x vs v us Q I rx rv h
  obtain ⟨l, xs, y, rfl, rfl, hH, hz, q⟩ := h
  cases rx
  obtain ⟨u, rfl, ru⟩ := rv.one
  obtain ⟨z, its, n, r, hl, e⟩ := I.lstM hH
  refine call_meets F.slot_list_append ⟨_, e, rfl⟩ F.entry_list_append (F.args_list_append_2 _ _) (PySem.list_append l its.toArray n u (by rw [List.size_toArray]; omega)) ⟨e, ?_⟩
  refine ⟨.non, _, I.lset (its' := its ++ [u]) hH e (by simp) (r.append (.cons ru .nil)) ?_, rfl, q⟩
  rw [List.length_append, List.length_singleton]
  omega

def rExtend : V → List V → Hp → VK → Prop := fun x vs H Q => ∃ l b xs zs, x = .ref l ∧ vs = [.ref b] ∧ H l = some (.lst xs) ∧ H b = some (.lst zs) ∧ xs.length + zs.length ≤ sizeLine ∧ Q .non (upd H l (.lst (xs ++ zs)))
theorem mt_extend : MtM X "list.extend" rExtend := by
  intro pins s σ H x vs v us Q I rx rv h
  obtain ⟨l, b, xs, zs, rfl, rfl, hH, hB, hz, q⟩ := h
  cases rx
  obtain ⟨u, rfl, ru⟩ := rv.one
  cases ru
  obtain ⟨z, its, n, r, hl, e⟩ := I.lstM hH
  obtain ⟨z2, its2, n2, r2, hl2, e2⟩ := I.lstM hB
  have hsz : its.toArray.size + its2.toArray.size ≤ sizeLine := by rw [List.size_toArray, List.size_toArray]; omega
  have hlong : ¬ (!its.toArray.isEmpty && Builtin.List.listTooLong (its.toArray.size + its2.toArray.size)) = true := by
    rw [notLongL hsz, Bool.and_false]
    exact Bool.false_ne_true
  refine call_meets F.slot_list_extend ⟨_, e, rfl⟩ F.entry_list_extend (F.args_list_extend_2 _ _)
    (AutoSeq1.list_extend_list_list_0 l its.toArray n b its2.toArray n2 hlong (by rw [List.size_toArray]; omega) (by omega)) ⟨e, e2, ?_⟩
  refine ⟨.non, _, I.lset (its' := its ++ its2) hH e (by simp) (r.append r2) ?_, rfl, q⟩
  rw [List.length_append]
  omega

def rPop : V → List V → Hp → VK → Prop := fun x vs H Q => ∃ l xs y, x = .ref l ∧ vs = [] ∧ H l = some (.lst xs) ∧ xs[xs.length - 1]? = some y ∧ Q y (upd H l (.lst xs.dropLast))
theorem mt_pop : MtM X "list.pop" rPop := by
  intro pins s σ H x vs v us Q I rx rv h
  obtain ⟨l, xs, y, rfl, rfl, hH, hy, q⟩ := h
  cases rx
  have hus := rv.zero
  subst hus
  obtain ⟨z, its, n, r, hl, e⟩ := I.lstM hH
  obtain ⟨u, hu, ru⟩ := r.get hy
  have hy' : its.toArray[its.toArray.size - 1]? = some u := by
    show its.toArray[its.length - 1]? = some u
    rw [← Array.getElem?_toList, ← hl]
    exact hu
  refine call_meets F.slot_list_pop ⟨_, e, rfl⟩ F.entry_list_pop (F.args_list_pop_1 _) (MeetsSeq.list_pop_last l its.toArray n u hy' (by rw [List.size_toArray]; omega)) ⟨e, ?_⟩
  refine ⟨y, _, I.lset (its' := its.dropLast) hH e ?_ r.dropLast ?_, ru, q⟩
  · show its.toArray.eraseIdxIfInBounds (its.toArray.size - 1) = its.dropLast.toArray
    rw [List.size_toArray, List.eraseIdxIfInBounds_toArray, erase_last]
  · rw [List.length_dropLast]
    omega

def rPopAt : V → List V → Hp → VK → Prop := fun x vs H Q => ∃ l xs i k y, x = .ref l ∧ vs = [.int i] ∧ H l = some (.lst xs) ∧ -(2 ^ 63) ≤ i ∧ i < 2 ^ 63 ∧ seqIndex? i xs.length = some k ∧ xs[k]? = some y ∧ Q y (upd H l (.lst (xs.eraseIdx k)))
theorem mt_popAt : MtM X "list.pop" rPopAt := by
  intro pins s σ H x vs v us Q I rx rv h
  obtain ⟨l, xs, i, k, y, rfl, rfl, hH, h1, h2, hk, hy, q⟩ := h
  cases rx
  obtain ⟨u, rfl, ru⟩ := rv.one
  obtain ⟨t, rfl⟩ := ru
  obtain ⟨z, its, n, r, hl, e⟩ := I.lstM hH
  obtain ⟨w, hw, rw'⟩ := r.get hy
  refine call_meets F.slot_list_pop ⟨_, e, rfl⟩ F.entry_list_pop (F.args_list_pop_2 _ _)
    (MeetsSeq.list_pop_at l its.toArray n i t k w (fitsIndex_both h1 h2) (by rw [List.size_toArray, ← hl]; exact hk) (by rw [← Array.getElem?_toList]; exact hw) (by rw [List.size_toArray]; omega)) ⟨e, ?_⟩
  refine ⟨y, _, I.lset (its' := its.eraseIdx k) hH e ?_ (r.eraseIdx k) ?_, rw', q⟩
  · show its.toArray.eraseIdxIfInBounds k = (its.eraseIdx k).toArray
    rw [List.eraseIdxIfInBounds_toArray]
  · have := len_erase xs k
    omega

def rReverse : V → List V → Hp → VK → Prop := fun x vs H Q => ∃ l xs, x = .ref l ∧ vs = [] ∧ H l = some (.lst xs) ∧ Q .non (upd H l (.lst xs.reverse))
theorem mt_reverse : MtM X "list.reverse" rReverse := by
  intro pins s σ H x vs v us Q I rx rv h
  obtain ⟨l, xs, rfl, rfl, hH, q⟩ := h
  cases rx
  have hus := rv.zero
  subst hus
  obtain ⟨z, its, n, r, hl, e⟩ := I.lstM hH
  refine call_meets F.slot_list_reverse ⟨_, e, rfl⟩ F.entry_list_reverse (F.args_list_reverse_1 _) (AutoSeq1.list_reverse_list_0 l its.toArray n (by rw [List.size_toArray]; omega)) ⟨e, ?_⟩
  refine ⟨.non, _, I.lset (its' := its.reverse) hH e (by simp) r.reverse ?_, rfl, q⟩
  rw [List.length_reverse]
  omega

def rClear : V → List V → Hp → VK → Prop := fun x vs H Q => ∃ l xs, x = .ref l ∧ vs = [] ∧ H l = some (.lst xs) ∧ Q .non (upd H l (.lst []))
theorem mt_clear : MtM X "list.clear" rClear := by
  intro pins s σ H x vs v us Q I rx rv h
  obtain ⟨l, xs, rfl, rfl, hH, q⟩ := h
  cases rx
  have hus := rv.zero
  subst hus
  obtain ⟨z, its, n, r, hl, e⟩ := I.lstM hH
  refine call_meets F.slot_list_clear ⟨_, e, rfl⟩ F.entry_list_clear (F.args_list_clear_1 _) (AutoSeq1.list_clear_list_0 l its.toArray n (by rw [List.size_toArray]; omega)) ⟨e, ?_⟩
  exact ⟨.non, _, I.lset (its' := []) (ys := []) hH e rfl .nil (Nat.zero_le _), rfl, q⟩

/-! ### list + list, list += list, list * int -/
def rCat : R2 := fun x y H Q => ∃ l b xs zs, x = .ref l ∧ y = .ref b ∧ H l = some (.lst xs) ∧ H b = some (.lst zs) ∧ xs.length + zs.length ≤ sizeLine ∧ ∀ p, H p = none → Q (.ref p) (upd H p (.lst (xs ++ zs)))
theorem op_cat : OpR X (binaryOp .Add) rCat := by
  intro pins s σ H x y v u Q I rx ry h
  obtain ⟨l, b, xs, zs, rfl, rfl, hH, hB, hz, q⟩ := h
  cases rx
  cases ry
  obtain ⟨z, its, n, r, hl, e⟩ := I.lstM hH
  obtain ⟨z2, its2, n2, r2, hl2, e2⟩ := I.lstM hB
  refine PySem.P.add_list e e2 ?_ (by rw [List.size_toArray, List.size_toArray]; omega)
  have ea : its.toArray ++ its2.toArray = (its ++ its2).toArray := by simp
  rw [ea]
  exact ⟨.ref _, _, I.lnew (t' := s.toks) (r.append r2) (by rw [List.length_append]; omega), rfl, q _ I.fresh⟩
/-- a list times an int (a negative one is nothing) -/
def rRep : R2 := fun x y H Q => ∃ l k xs, x = .ref l ∧ y = .int k ∧ H l = some (.lst xs) ∧ -(2 ^ 63) ≤ k ∧ k < 2 ^ 63 ∧ xs.length * k.toNat ≤ sizeLine ∧
  ∀ p, H p = none → Q (.ref p) (upd H p (.lst (List.replicate k.toNat xs).flatten))
theorem len_rep {α : Type} (xs : List α) (k : Nat) : (List.replicate k xs).flatten.length = k * xs.length := by
  induction k with
  | zero => simp
  | succ k ih => rw [List.replicate_succ, List.flatten_cons, List.length_append, ih, Nat.succ_mul, Nat.add_comm]
theorem op_rep : OpR X (binaryOp .Mult) rRep := by
  intro pins s σ H x y v u Q I rx ry h
  obtain ⟨l, k, xs, rfl, rfl, hH, h1, h2, hz, q⟩ := h
  cases rx
  obtain ⟨t, rfl⟩ := ry
  obtain ⟨z, its, n, r, hl, e⟩ := I.lstM hH
  have hlen : its.toArray.size * k.toNat ≤ sizeLine := by rw [List.size_toArray, ← hl]; exact hz
  have hcap : ¬ its.toArray.size * k.toNat > (2 ^ 63 - 1) / 8 := by
    have : (sizeLine : Nat) ≤ (2 ^ 63 - 1) / 8 := by decide
    omega
  have hfit : ¬ (!Builtin.List.listFitsIndex k) = true := by
    rw [fitsIndex_both h1 h2]
    exact Bool.false_ne_true
  have hlong : ¬ Builtin.List.listTooLong (its.toArray.size * k.toNat) = true := by
    rw [notLongL hlen]
    exact Bool.false_ne_true
  have hnew : List.foldl (fun x1 x2 => x1 ++ x2) #[] (List.replicate (if its.toArray.isEmpty = true then 0 else k.toNat) its.toArray) = (List.replicate k.toNat its).flatten.toArray := by
    have f0 : ∀ m : Nat, List.foldl (fun x1 x2 => x1 ++ x2) #[] (List.replicate m its.toArray) = (List.replicate m its).flatten.toArray := fun m => by
      have := foldl_rep its m []
      rw [List.nil_append] at this
      exact this
    rw [f0]
    cases its with
    | nil => simp
    | cons a r' => rw [if_neg (by simp)]
  refine wpAny_binaryOp_repeat_ref (T := "list") (U := "int") (by decide) ⟨_, e, rfl⟩ (fun s' => typeIs_int s' k t) noFill_list_mul F.fills_int_mul F.slot_int_rmul repeat_list F.slot_int_index.lookup
    (call_meets F.slot_int_rmul (typeIs_int s k t) F.entry_int_rmul (F.args_int_rmul_2 _ _) (int___rmul___int_list k t l its.toArray n)
      ⟨e, rfl, ⟨_, e, rfl⟩, call_meets F.slot_list_mul ⟨_, e, rfl⟩ F.entry_list_mul (F.args_list_mul_2 _ _) (AutoListH.list___mul___list_int_3 l its.toArray n k t hfit hcap hlong) ⟨e, ?_⟩⟩)
  rw [hnew]
  exact ⟨.ref _, _, I.lnew (t' := s.toks) (r.rep k.toNat) (by rw [len_rep, Nat.mul_comm]; exact hz), rfl, q _ I.fresh⟩

/-! ### del xs[i] -/
theorem del_list {pins : List (Addr × Obj)} {s : Shared} {σ : St} {H : Hp} {l : Addr} {xs : List V} {i : Int} {t : Tok} {k : Nat} {Q : Unit → Shared → Prop} (I : Inv X pins σ H s) (hH : H l = some (.lst xs))
    (h1 : -(2 ^ 63) ≤ i) (h2 : i < 2 ^ 63) (hk : seqIndex? i xs.length = some k) (h : ∀ s', Inv X pins σ (upd H l (.lst (xs.eraseIdx k))) s' → Q () s') :
    wpAny (model X.prog X.w) X.A (delItem (.ref l) (.int i t)) Q X.xe s := by
  obtain ⟨z, its, n, r, hl, e⟩ := I.lstM hH
  refine PySem.P.delItem_list (k := k) e (fitsIndex_both h1 h2) (by rw [List.size_toArray, ← hl]; exact hk) (h _ ?_) (by rw [List.size_toArray]; omega)
  refine I.lset (its' := its.eraseIdx k) (t' := s.toks) hH e ?_ (r.eraseIdx k) ?_
  · show its.toArray.eraseIdxIfInBounds k = (its.eraseIdx k).toArray
    rw [List.eraseIdxIfInBounds_toArray]
  · have := len_erase xs k
    omega
end

/-! ### xs[a:b] = ys -/
section
variable {prog : Program} {w : World} {A : Around} {E : Value → Shared → Prop} {s : Shared}
theorem splice_eq (its its2 : List Value) (a c : Nat) : its.toArray.extract 0 a ++ its2.toArray ++ its.toArray.extract c its.toArray.size = (its.take a ++ its2 ++ its.drop c).toArray := by
  apply Array.toList_inj.mp
  first
    | (simp
       exact List.take_of_length_le (by simp))
    | simp [List.take_of_length_le]
    | simp
theorem bounds_run {a c n : Nat} (hac : a ≤ c) (hc : c ≤ n) : sliceBounds (some (a : Int)) (some (c : Int)) none n = ((a : Int), (c : Int), 1) := by
  simp only [sliceBounds, Option.getD_none]
  have h1 : ¬ ((a : Int) < 0) := by omega
  have h2 : ¬ ((c : Int) < 0) := by omega
  simp only [h1, h2, if_false, show (1 : Int) > 0 by decide, if_true]
  congr 1
  · omega
  · congr 1; omega
set_option maxRecDepth 100000 in
/-- list.__setitem__ with a slice of step one and another list -/
theorem setItem_slice {l b sl : Addr} {items new : Array Value} {n n2 : Nat} {vl vu : Value} {a c : Nat} {Q : Unit → Shared → Prop}
    (e : s.heap.get? l = some { cls := .type "list", data := .seq items n }) (e2 : s.heap.get? b = some { cls := .type "list", data := .seq new n2 }) (hne : l ≠ b)
    (hs : s.heap.IsSliceOf sl vl vu .none) (pl : IsPart vl (some (a : Int))) (pu : IsPart vu (some (c : Int))) (hac : a ≤ c) (hc : c ≤ items.size)
    (hsz : items.size + new.size ≤ sizeLine) (h : Q () { s with heap := s.heap.update l (Obj.mapSeq fun xs => xs.extract 0 a ++ new ++ xs.extract c xs.size) }) :
    wpAny (model prog w) A (setItem (.ref l) (.ref sl) (.ref b)) Q E s := by
  have hl : s.heap.IsList l items := PySem.IsL.isList e
  have hb : s.heap.IsList b new := PySem.IsL.isList e2
  obtain ⟨os, hos, hcs, hds⟩ := id hs
  have hTs : s.TypeIs (.ref sl) "slice" := ⟨os, hos, hcs⟩
  have hstep : ¬ ((rawPart none == rawInt 0) = true) := Bool.false_ne_true
  have hsame : Builtin.List.listSameRef (.ref l) (.ref b) = false := by
    unfold Builtin.List.listSameRef
    exact beq_eq_false_iff_ne.mpr hne
  have hmax : (max (a : Int) (c : Int)).toNat = c := by omega
  have hz' : ((fun xs : Array Value => xs.extract 0 a ++ new ++ xs.extract c xs.size) items).size ≤ sizeLine + 1 := by
    simp only [Array.size_append, Array.size_extract]
    omega
  unfold setItem
  try with_reducible refine wpAny_holding ?_
  first | refine wpAny_bind (wpAny_pure ?_) | skip
  refine wpAny_bind (wpAny_sequenceKey hl.typeIs (by decide) ?_)
  refine wpAny_bind (wpAny_callSpecial?_slot (name := Str.ofString "__setitem__") hl.typeIs slot_list_setitem
    (wpAny_call_entry slot_list_setitem hl.typeIs entry_list_setitem ?_ (args_list_setitem _ _ _)))
  show wpAny _ _ (Builtin.List.listSubscript? (.ref sl) >>= _) _ _ s
  refine wpAny_bind ?_
  unfold Builtin.List.listSubscript?
  refine wpAny_bind (wpAny_specialOf hTs slice_no_index ?_)
  simp only [Option.isNone_none, if_true]
  refine wpAny_pure ?_
  show wpAny _ _ (typeOf (.ref sl) >>= _) _ _ s
  refine wpAny_bind (wpAny_typeOf hTs ?_)
  first
    | rw [if_neg (by decide)]
    | refine PySem.W.KFB.if_not (by decide) ?_
  rw [listSliceParts_eq]
  refine wpAny_bind (wpAny_bind (wpAny_field hos hds (x := .none) rfl (wpAny_bind (wpAny_listPart .none ?_))))
  rw [if_neg hstep]
  refine wpAny_bind (wpAny_field hos hds (x := vl) rfl (wpAny_bind (wpAny_listPart pl ?_)))
  refine wpAny_bind (wpAny_field hos hds (x := vu) rfl (wpAny_bind (wpAny_listPart pu (wpAny_pure ?_))))
  first
    | simp only [hsame, Bool.false_eq_true, if_false]
    | refine PySem.W.KFB.if_not hsame ?_
    | (dsimp only
       rw [if_neg (by rw [hsame]; exact Bool.false_ne_true)])
  refine wpAny_bind (m := Builtin.List.listAllItems (.ref b) "must assign iterable to extended slice") ?_
  unfold Builtin.List.listAllItems
  refine wpAny_bind (wpAny_typeOf hb.typeIs ?_)
  first
    | refine PySem.W.KFB.if_so (by decide) ?_
    | rw [if_pos (by decide)]
    | simp only [beq_self_eq_true, Bool.true_or, if_true]
  unfold Builtin.List.listItems
  refine wpAny_bind (wpAny_seqItems e2 rfl (wpAny_pure ?_))
  refine wpAny_bind (wpAny_bind (wpAny_seqItems e rfl (wpAny_pure ?_)))
  refine wpAny_bind (wpAny_of_eq ((sliceIndices_raw (some (a : Int)) (some (c : Int)) none items.size (by simp)).trans (congrArg (pure : Int × Int × Int → Sem (Int × Int × Int)) (bounds_run hac hc))) ?_)
  show wpAny _ _ (if ((1 : Int) == 1) = true then _ else _) _ _ s
  rw [if_pos (by decide)]
  refine wpAny_bind (wpAny_rule ?_)
  first
    | simp only [notLongL hsz, Bool.false_eq_true, if_false]
    | refine PySem.W.KFB.if_not (notLongL hsz) ?_
  first | refine wpAny_bind (wpAny_pure ?_) | skip
  show wpAny _ _ (updateSeq l (fun xs => xs.extract 0 ((a : Int)).toNat ++ new ++ xs.extract (max (a : Int) (c : Int)).toNat xs.size) >>= _) _ _ s
  rw [hmax, Int.toNat_natCast]
  refine wpAny_bind (wpAny_updateSeq (hz := Nat.le_trans (Nat.le_add_right _ _) hsz) (_hz' := hz') e rfl ?_)
  refine wpAny_bind (wpAny_letGo ?_)
  first
    | exact wpAny_bind (wpAny_pure (wpAny_pure ⟨.none, rfl, wpAny_pure h⟩))
    | exact wpAny_pure ⟨.none, rfl, wpAny_pure h⟩
end

section
variable {X : Cx}
/-- xs[a:c] = ys of another list, at the value level: sl is the slice object that was just made -/
theorem set_slice {pins : List (Addr × Obj)} {s : Shared} {σ : St} {H : Hp} {l b sl : Addr} {xs ys : List V} {a c : Int} {vl vu : Value} {Q : Unit → Shared → Prop} (I : Inv X pins σ H s)
    (hH : H l = some (.lst xs)) (hB : H b = some (.lst ys)) (hne : l ≠ b) (hs : s.heap.IsSliceOf sl vl vu .none) (ra : RelV (.int a) vl) (rc : RelV (.int c) vu) (h0 : 0 ≤ a) (hac : a ≤ c) (hc : c ≤ xs.length)
    (hz : xs.length + ys.length ≤ sizeLine) (h : ∀ s', Inv X pins σ (upd H l (.lst (xs.take a.toNat ++ ys ++ xs.drop c.toNat))) s' → Q () s') :
    wpAny (model X.prog X.w) X.A (setItem (.ref l) (.ref sl) (.ref b)) Q X.xe s := by
  obtain ⟨ta, rfl⟩ := ra
  obtain ⟨tc, rfl⟩ := rc
  obtain ⟨z, its, n, r, hl, e⟩ := I.lstM hH
  obtain ⟨z2, its2, n2, r2, hl2, e2⟩ := I.lstM hB
  obtain ⟨a', rfl⟩ := Int.eq_ofNat_of_zero_le h0
  obtain ⟨c', rfl⟩ := Int.eq_ofNat_of_zero_le (Int.le_trans h0 hac)
  simp only [Int.toNat_natCast] at h
  refine setItem_slice (a := a') (c := c') e e2 hne hs (.int _ _) (.int _ _) (by omega) (by rw [List.size_toArray]; omega) (by rw [List.size_toArray, List.size_toArray]; omega) (h _ ?_)
  refine I.lset (its' := its.take a' ++ its2 ++ its.drop c') (t' := s.toks) hH e ?_ (Vals.append (Vals.append (r.take _) r2) (r.drop _)) ?_
  · exact splice_eq its its2 a' c'
  · rw [List.length_append, List.length_append, List.length_take, List.length_drop]
    omega
end
end L2

namespace Att
open PySem PySem.W PySem.Calls PyProof.Rows

/-! ### the script -/
theorem ints_of_wellAll {P : Params} {h : Heap} : ∀ (ns : List Int) (vs : List Value), WellAll P h vs (ns.map WData.int) → IntsAre vs ns := by
  intro ns
  induction ns with
  | nil =>
    intro vs w
    rw [List.map_nil] at w
    cases w
    exact .nil
  | cons n ns ih =>
    intro vs w
    rw [List.map_cons] at w
    cases w with
    | cons a b =>
      cases a
      exact .cons _ _ (ih _ b)

theorem script_of {l : OpenLaw} {n : Nat} (hn : l.most = some n) {P : Params} {h : Heap} {args : List WData} {vals : List Value}
    (hpre : l.row.toRowW.claim.pre args = true) (hwl : WellAll P h vals args) :
    ∃ a vs ns, vals = [Value.ref a] ∧ args = [WData.list (ns.map WData.int)] ∧ h.get? a = some { cls := .type "list", data := .seq vs.toArray } ∧ IntsAre vs ns ∧ ns.length ≤ n := by
  have hsh : WShape.hasAll [] args [.list .int] = true := (pre_splitW hpre).1
  have hc : l.pre.holds [] { args := args } = true := (pre_splitW hpre).2
  obtain ⟨d, r, rfl, h1, h2⟩ := hasAllW_cons hsh
  obtain rfl := hasAllW_nil h2
  obtain ⟨xs, rfl, h3⟩ := hasW_list h1
  obtain ⟨ns, rfl⟩ := items_int h3
  have hlen : ns.length ≤ n := by
    unfold OpenLaw.pre at hc
    have h4 : (WTm.not (.lt (.lit (.int (n : Int))) (.len (.arg 0)))).holds [] { args := [.list (ns.map .int)] } = true := by
      have h4 := (holds_andW hc).1
      rw [hn] at h4
      exact h4
    have h5 := condW_of h4 (w_not (w_lt w_lit (w_len_list (w_arg rfl))))
    rw [List.length_map] at h5
    refine Nat.le_of_not_lt fun q => ?_
    have q' : (n : Int) < ((ns.length : Nat) : Int) := by omega
    first
      | (rw [decide_eq_true q'] at h5; exact absurd h5 (by decide))
      | (simp at h5; omega)
  cases hwl with
  | cons w1 w2 =>
    cases w2
    cases w1 with
    | list ho hall => exact ⟨_, _, ns, rfl, rfl, ho, ints_of_wellAll ns _ hall, hlen⟩

theorem post_true (l : OpenLaw) (args : List WData) : l.row.toRowW.claim.post args (.bool true) args = true :=
  postW_of (r := l.row.toRowW) (X := (true == true))
    (show WShape.has [] (.bool true) .bool = true by first | rfl | decide | simp [WShape.has, WShape.arms, WShape.armsAll])
    (show (WTm.eq .res (.lit (.bool true))).value [] { args := args, res := some (.bool true), after := args } = some (.bool (true == true)) from w_eq_bool (w_res rfl) w_lit) rfl

/-! ### the attachment: holds_open's last premise (the goal 'hc' behind k_head) from a wpAny of the law's body -/
theorem attach {l : OpenLaw} {n : Nat} {q : Program} {loose : List Str} {XP : (Str → Option Value) → Heap → Prop} {YP : World → Heap → Prop} {d : DefRec} {x : Str}
    (hn : l.most = some n) (hdf : d.params.defaults = [])
    (hbind : ∀ pm cd doc v : Value, bindArgs (docDef d.name d.params d.body d.scope pm cd doc) ⟨[v], []⟩ = pure [(x, v)])
    (hx : d.scope.names.lookup x = some .local ∨ d.scope.names.lookup x = some .cell)
    (hk : d.scope.kind = .function) (hco : d.scope.isCoroutine = false) (hgen : d.scope.isGenerator = false)
    (body : ∀ (w : World) (s₀ s₁ s : Shared) (mg mb : Str → Option Value) (fa : Addr) (o : Obj) (pm cd doc : Value) (a : Addr) (vs : List Value) (ns : List Int),
      Ground q loose [] XP w s₀ mg mb s₁.heap → YP w s₁.heap →
      s₁.heap.get? fa = some o → o.data = .func (docDef d.name d.params d.body d.scope pm cd doc) → s₁.heap.CodeRec cd d.name → mg d.name = some (.ref fa) →
      s₁.heap.get? a = some { cls := .type "list", data := .seq vs.toArray } → IntsAre vs ns → ns.length ≤ n →
      s.gens = #[] → s.os = s₁.os →
      Fr s₁.heap s₁.heap.objs.size s.heap (bindL (envOfC d.name d.scope s₁.heap.objs.size fa cd).kindOf [(x, .ref a)] fun _ => none) →
      Cl s₁.heap.objs.size (cellsFrom (s₁.heap.objs.size + 1) d.scope.names []) s.heap (bindC (envOfC d.name d.scope s₁.heap.objs.size fa cd).kindOf [(x, .ref a)] fun _ => none) →
      wpAny (model l.prog w) (callerA.deeper (envOfC d.name d.scope s₁.heap.objs.size fa cd)) (execs d.body (envOfC d.name d.scope s₁.heap.objs.size fa cd))
        (fun f s' => f = .ret (.bool true) ∧ OldK s₁.heap s'.heap ∧ s'.os = s₁.os ∧ AllBare s'.gens) (fun _ _ => False) s) :
    WalkO q loose XP YP l.row.toRowW d [] (fun f vs => PySem.call f vs) := by
  intro w s₀ s₁ mg mb G Y fa o pm cd doc dV kV ho hd hcd hD hmg hg args vals as hpre hlay hrd hwl hlo
  obtain rfl : dV = .none := Dflts.none hD hdf
  obtain rfl : kV = .none := Dflts.noKw hD
  obtain ⟨a, vs, ns, rfl, rfl, hobj, hints, hlen⟩ := script_of hn hpre hwl
  refine enter_call ?_
  refine call_cells_ret (o := o) (by rw [depth_caller]; decide) ho (fd_plain hd) G.T.nolimit hcd (hbind pm cd doc (.ref a)) (fun y hy => ?_) (fun h₁ tk F X => ?_) hco hgen hk
  · obtain rfl : y = (x, Value.ref a) := List.mem_singleton.mp hy
    rcases hx with e | e
    · exact .inl e
    · exact .inr ⟨e, cellsFrom_some _ _ _ (.inl e)⟩
  · refine wpAny_mono (body w s₀ s₁ { s₁ with heap := h₁, toks := tk } mg mb fa o pm cd doc a vs ns G Y ho (fd_plain hd) hcd hmg hobj hints hlen hg rfl F X) (fun f s' hq => ?_) (fun _ _ hq => hq)
    obtain ⟨rfl, h2, h3, h4⟩ := hq
    exact ⟨.inl ⟨.bool true, .bool true, [], rfl, fun _ => rfl, .bool true, post_true l _, fun _ => ⟨List.Pairwise.nil, fun _ hm => (nomatch hm)⟩⟩, h2, h3, h4⟩

/-- the same from a codeAny of the CALL (for a layer whose function contracts speak of calls) -/
theorem attach_call {l : OpenLaw} {n : Nat} {q : Program} {loose : List Str} {XP : (Str → Option Value) → Heap → Prop} {YP : World → Heap → Prop} {d : DefRec}
    (hn : l.most = some n) (hdf : d.params.defaults = [])
    (call : ∀ (w : World) (s₀ s₁ : Shared) (mg mb : Str → Option Value) (fa : Addr) (o : Obj) (pm cd doc : Value) (a : Addr) (vs : List Value) (ns : List Int),
      Ground q loose [] XP w s₀ mg mb s₁.heap → YP w s₁.heap →
      s₁.heap.get? fa = some o → o.data = .func (docDef d.name d.params d.body d.scope pm cd doc) → s₁.heap.CodeRec cd d.name → mg d.name = some (.ref fa) →
      s₁.heap.get? a = some { cls := .type "list", data := .seq vs.toArray } → IntsAre vs ns → ns.length ≤ n → s₁.gens = #[] →
      codeAny (model l.prog w) callerA (.call (.ref fa) ⟨[.ref a], []⟩) (fun r s' => r = .ok (.ret (.bool true)) ∧ OldK s₁.heap s'.heap ∧ s'.os = s₁.os ∧ AllBare s'.gens) s₁) :
    WalkO q loose XP YP l.row.toRowW d [] (fun f vs => PySem.call f vs) := by
  intro w s₀ s₁ mg mb G Y fa o pm cd doc dV kV ho hd hcd hD hmg hg args vals as hpre hlay hrd hwl hlo
  obtain rfl : dV = .none := Dflts.none hD hdf
  obtain rfl : kV = .none := Dflts.noKw hD
  obtain ⟨a, vs, ns, rfl, rfl, hobj, hints, hlen⟩ := script_of hn hpre hwl
  refine enter_call (codeAny_mono (call w s₀ s₁ mg mb fa o pm cd doc a vs ns G Y ho (fd_plain hd) hcd hmg hobj hints hlen hg) fun r s' hq => ?_)
  obtain ⟨rfl, h2, h3, h4⟩ := hq
  exact ⟨.inl ⟨.bool true, .bool true, [], rfl, fun _ => rfl, .bool true, post_true l _, fun _ => ⟨List.Pairwise.nil, fun _ hm => (nomatch hm)⟩⟩, h2, h3, h4⟩

/-- the same where the top left finished generators (o_head chose holds_openN): nothing may have changed at all and no generator may be left -/
theorem attachN {l : OpenLaw} {n : Nat} {q : Program} {loose : List Str} {XP : (Str → Option Value) → Heap → Prop} {YP : World → Heap → Prop} {d : DefRec} {x : Str}
    (hn : l.most = some n) (hdf : d.params.defaults = [])
    (hbind : ∀ pm cd doc v : Value, bindArgs (docDef d.name d.params d.body d.scope pm cd doc) ⟨[v], []⟩ = pure [(x, v)])
    (hx : d.scope.names.lookup x = some .local ∨ d.scope.names.lookup x = some .cell)
    (hk : d.scope.kind = .function) (hco : d.scope.isCoroutine = false) (hgen : d.scope.isGenerator = false)
    (body : ∀ (w : World) (s₀ s₁ s : Shared) (mg mb : Str → Option Value) (fa : Addr) (o : Obj) (pm cd doc : Value) (a : Addr) (vs : List Value) (ns : List Int),
      Ground q loose [] XP w s₀ mg mb s₁.heap → YP w s₁.heap →
      s₁.heap.get? fa = some o → o.data = .func (docDef d.name d.params d.body d.scope pm cd doc) → s₁.heap.CodeRec cd d.name → mg d.name = some (.ref fa) →
      s₁.heap.get? a = some { cls := .type "list", data := .seq vs.toArray } → IntsAre vs ns → ns.length ≤ n →
      s.gens = #[] → s.os = s₁.os →
      Fr s₁.heap s₁.heap.objs.size s.heap (bindL (envOfC d.name d.scope s₁.heap.objs.size fa cd).kindOf [(x, .ref a)] fun _ => none) →
      Cl s₁.heap.objs.size (cellsFrom (s₁.heap.objs.size + 1) d.scope.names []) s.heap (bindC (envOfC d.name d.scope s₁.heap.objs.size fa cd).kindOf [(x, .ref a)] fun _ => none) →
      wpAny (model l.prog w) (callerA.deeper (envOfC d.name d.scope s₁.heap.objs.size fa cd)) (execs d.body (envOfC d.name d.scope s₁.heap.objs.size fa cd))
        (fun f s' => f = .ret (.bool true) ∧ (∀ b o, s₁.heap.get? b = some o → s'.heap.get? b = some o) ∧ s'.os = s₁.os ∧ s'.gens = #[]) (fun _ _ => False) s) :
    WalkN q loose XP YP l.row.toRowW d [] (fun f vs => PySem.call f vs) := by
  intro w s₀ s₁ mg mb G Y fa o pm cd doc dV kV ho hd hcd hD hmg hg args vals as hpre hlay hrd hwl hlo
  obtain rfl : dV = .none := Dflts.none hD hdf
  obtain rfl : kV = .none := Dflts.noKw hD
  obtain ⟨a, vs, ns, rfl, rfl, hobj, hints, hlen⟩ := script_of hn hpre hwl
  refine enter_callW ?_
  refine call_cells_ret (o := o) (by rw [depth_caller]; decide) ho (fd_plain hd) G.T.nolimit hcd (hbind pm cd doc (.ref a)) (fun y hy => ?_) (fun h₁ tk F X => ?_) hco hgen hk
  · obtain rfl : y = (x, Value.ref a) := List.mem_singleton.mp hy
    rcases hx with e | e
    · exact .inl e
    · exact .inr ⟨e, cellsFrom_some _ _ _ (.inl e)⟩
  · refine wpAny_mono (body w s₀ s₁ { s₁ with heap := h₁, toks := tk } mg mb fa o pm cd doc a vs ns G Y ho (fd_plain hd) hcd hmg hobj hints hlen hg rfl F X) (fun f s' hq => ?_) (fun _ _ hq => hq)
    obtain ⟨rfl, h2, h3, h4⟩ := hq
    exact ⟨.inl ⟨.bool true, .bool true, [], rfl, fun _ => rfl, .bool true, post_true l _, fun _ => ⟨List.Pairwise.nil, fun _ hm => (nomatch hm)⟩⟩, h2, h3, h4⟩

/-! ### rules over ANY heap (no ledger) from facts about the written part K: the library's own take a ledger (News) for what they write -/
section
variable {prog : Program} {w : World} {A : Around} {E : Value → Shared → Prop} {s : Shared} {K : Frag}

/-- a def of the module, or a method (qual 'C.m'), entered: the frame is the next address; cells behind it -/
theorem call_fn {R : Result → Shared → Prop} {name qual : Str} {params : Arguments} {body : List Stmt} {scope : Scope} {dV kV doc pm cdv ct oc : Value} {an od : Option Addr} {osl : Array (Option Value)} {f : Addr} {args : Args} {binds : List (Str × Value)}
    (X : K.In s.heap) (hlim : s.heap.NoLimit) (ho : K.lookup f = some ⟨oc, od, .func (fnOf name qual params body scope dV kV doc pm an cdv ct), osl⟩) (hcd : codeIn K cdv qual = true) (hroom : A.depth < recursionLimit)
    (hbind : BindsTo s (fnOf name qual params body scope dV kV doc pm an cdv ct) args binds)
    (hkind : (binds.all fun y => scope.names.lookup y.1 == some .local || scope.names.lookup y.1 == some .cell) = true)
    (h : ∀ s₁, InCallC s s.heap.objs.size (bindL (envOfC qual scope s.heap.objs.size f cdv).kindOf binds fun _ => none) (cellsFrom (s.heap.objs.size + 1) scope.names [])
        (bindC (envOfC qual scope s.heap.objs.size f cdv).kindOf binds fun _ => none) s₁ →
      wpAny (model prog w) (A.deeper (envOfC qual scope s.heap.objs.size f cdv)) (execs body (envOfC qual scope s.heap.objs.size f cdv))
        (fun fl s' => R (.ok (.ret (match fl with | .ret v => v | _ => .none))) s')
        (fun e s' => wpAny (model prog w) (A.deeper (envOfC qual scope s.heap.objs.size f cdv)) (leaving (envOfC qual scope s.heap.objs.size f cdv) e) (fun _ s'' => R (.error e) s'') (fun e' s'' => R (.error e') s'') s') s₁)
    (hco : scope.isCoroutine = false) (hgen : scope.isGenerator = false) (hk : scope.kind = .function) : codeAny (model prog w) A (.call (.ref f) args) R s := by
  refine codeAny_call_function hroom (X _ _ ho) rfl hco hgen rfl (codeRec_of X hcd) (hbind _ _ _ _ ?_)
  refine wpAny_newFunctionEnv_cells hk (kindsX hkind _) fun env he s₁ x => ?_
  subst he
  exact ⟨hlim.keeps x.toInCall.keep, codeAny_func (h s₁ x)⟩

/-- C(..): dict at size, instance at size + 1, then __init__ -/
theorem make_obj {R : Result → Shared → Prop} {C fI : Addr} {rest : List Value} {kw : List (Str × Value)}
    (X : K.In s.heap) (hm : makesIn K C = true) (hi : findIn K (.ref C) "__init__" = some (some (.ref fI))) (hf : isFn K (.ref fI) = true)
    (h : codeAny (model prog w) (A.under (.builtin "type.__call__" ⟨.ref C :: rest, kw⟩)) (.call (.ref fI) ⟨.ref (s.heap.objs.size + 1) :: rest, kw⟩) (InitBack (s.heap.objs.size + 1) R)
      { s with heap := (s.heap.push emptyDict).push (instObj C s.heap.objs.size) }) : codeAny (model prog w) A (.call (.ref C) ⟨rest, kw⟩) R s := by
  obtain ⟨hh, g, d, t, os⟩ := s
  exact make_core (makes_of X hm) (looks_findIn X hi) (fun self => bind_fn X self (beq_iff_eq.mp hf)) (.inl rfl) h

/-- x.name where the instance's dict holds the name and the class does not -/
theorem get_field {x C : Addr} {ox : Obj} {es : List DictEntry} {n : Nat} {name : Str} {expr : Bool} {v : Value} {Q : Value → Shared → Prop}
    (X : K.In s.heap) (I : PySem.W.InstAt s.heap x ox C (some (dictOf es n))) (hg : plainGet K C name = true) (hh : hasDictIn K C = true) (ha : findIn K (.ref C) name = some none)
    (hl : getL name es = some (some v)) (hv : handedIn v = true) (h : Q v { s with toks := s.toks + 1 }) : wpAny (model prog w) A (getAttr (.ref x) name expr) Q E s :=
  get_value X I (plainGet_of hg).1 (findObj_own hh ha rfl hl) hv h

/-- x.m(..): the method found in the class -/
theorem get_method {x C f : Addr} {ox : Obj} {es : List DictEntry} {n : Nat} {name : Str} {pl : Sem Bool} {Q : Value × List Value → Shared → Prop}
    (X : K.In s.heap) (I : PySem.W.InstAt s.heap x ox C (some (dictOf es n))) (hg : plainGet K C name = true) (hf : findIn K (.ref C) name = some (some (.ref f))) (ht : isFn K (.ref f) = true)
    (hl : getL name es = some none) (h : Q (.ref f, [.ref x]) s) : wpAny (model prog w) A (getMethod (.ref x) name pl) Q E s :=
  method_fn X I (plainGet_of hg).1 (plainGet_of hg).2 hf (beq_iff_eq.mp ht) (by show (lookIn name (dictOf es n)).map _ = _; rw [lookIn_dict, hl]; rfl) h

/-! the whole heap as the ledger: makes every rule that writes through a ledger a rule over any heap -/
def noObjs (h : Heap) : Heap := { h with objs := #[] }
theorem noObjs_get (h : Heap) (b : Addr) : (noObjs h).get? b = none := by
  cases e : (noObjs h).get? b with
  | none => rfl
  | some o => exact absurd (Heap.lt_size e) (Nat.not_lt_zero _)
def ledger (h : Heap) (L d : Addr) : List (Addr × Obj) := (List.range h.objs.size).filterMap fun a => if a = L ∨ a = d then none else (h.get? a).map fun o => (a, o)
theorem mem_ledger {h : Heap} {L d a : Addr} {o : Obj} : (a, o) ∈ ledger h L d ↔ a ≠ L ∧ a ≠ d ∧ h.get? a = some o := by
  unfold ledger
  rw [List.mem_filterMap]
  constructor
  · rintro ⟨b, _, e⟩
    split at e
    · cases e
    · rename_i hb
      obtain ⟨o', ho, e'⟩ := Option.map_eq_some_iff.mp e
      cases e'
      exact ⟨fun q => hb (.inl q), fun q => hb (.inr q), ho⟩
  · rintro ⟨n1, n2, ho⟩
    refine ⟨a, List.mem_range.mpr (Heap.lt_size ho), ?_⟩
    rw [if_neg (show ¬ (a = L ∨ a = d) from fun q => q.elim n1 n2), ho] <;> rfl
theorem news_ledger {h : Heap} {L d : Addr} {od : Obj} (hne : d ≠ L) (ho : h.get? d = some od) : News (noObjs h) L h ([] ++ (d, od) :: ledger h L d) := by
  rintro ⟨a, o⟩ hp
  rcases List.mem_cons.mp hp with e | hp
  · cases e
    exact ⟨ho, hne, noObjs_get _ _⟩
  · obtain ⟨n1, n2, e⟩ := mem_ledger.mp hp
    exact ⟨e, n1, noObjs_get _ _⟩
theorem fr_all {h : Heap} {L : Addr} {m : Str → Option Value} (n : h.Ns L m) : Fr (noObjs h) L h m :=
  ⟨n, fun b o e => (by rw [noObjs_get] at e; cases e), Nat.zero_le _⟩
/-- Upd of the head entry (for append_K, setItem_K ..) -/
theorem upd_ledger {h : Heap} {L d : Addr} {o o' : Obj} : Upd d o o' ((d, o) :: ledger h L d) ((d, o') :: ledger h L d) :=
  .head fun ⟨_, _⟩ hp => (mem_ledger.mp hp).2.1

/-- x.name = v over any heap: L is any namespace of the heap (the frame's, say): its map stays, its object is not told; all else but the dict stays -/
theorem set_field {x C dx L : Addr} {ox : Obj} {m : Str → Option Value} {es es' : List DictEntry} {n n' : Nat} {name : Str} {v : Value} {Q : Unit → Shared → Prop}
    (X : K.In s.heap) (I : PySem.W.InstAt s.heap x ox C (some (dictOf es n))) (hd : ox.dict = some dx) (hL : s.heap.Ns L m) (hne : dx ≠ L)
    (hs : findIn K (.ref C) "__setattr__" = some (some (.builtin "object.__setattr__"))) (hp : plainOver K C = true) (ht : takerIn K C name = some none) (hh : hasDictIn K C = true) (hl : (getL name es).isSome = true)
    (e : (putL name (PyData.keyHash w.params name) (.str name (s.toks + 1)) v es, putN name es n) = (es', n')) (hz : es'.length ≤ 1000)
    (h : ∀ h' : Heap, h'.Ns L m → h'.get? dx = some (dictOf es' n') → (∀ b o, b ≠ dx → b ≠ L → s.heap.get? b = some o → h'.get? b = some o) → Q () { s with heap := h', toks := s.toks + 2 }) :
    wpAny (model prog w) A (setAttr (.ref x) name v) Q E s := by
  obtain ⟨e1, e2⟩ := Prod.mk.inj e
  have hdx : s.heap.get? dx = some (dictOf es n) := by
    have := I.dict
    rw [hd] at this
    exact this
  refine set_plain X I hs (osa_dict (s := { s with toks := s.toks + 1 }) (h₀ := noObjs s.heap) (L := L) (m := m) (od := dictOf es n) (od' := dictOf es' n') (es := es') (n := n') (pre := []) (post := ledger s.heap L dx)
    (fr_all hL) (news_ledger hne hdx) X I hd hp ht hh hl (fun _ q => nomatch q) (fun ⟨_, _⟩ q => (mem_ledger.mp q).2.1) (by rw [putName_dict, e1, e2]) rfl hz fun h' F' N' => ?_)
  exact h h' F'.ns (N'.get (List.Mem.head _)) fun b o n1 n2 ho => N'.get (List.Mem.tail _ (mem_ledger.mpr ⟨n2, n1, ho⟩))
end
end Att

namespace L2
open PySem PySem.Spec PyProof.Rows

theorem vals_ints : ∀ {vs : List Value} {ns : List Int}, IntsAre vs ns → Vals (ns.map V.int) vs
  | _, _, .nil => .nil
  | _, _, .cons n t h => .cons ⟨t, rfl⟩ (vals_ints h)

/-- nothing is tracked but the script, known to the object (or it is an object of the module) -/
def Only (H : Hp) : Prop := ∀ b, H b = none ∨ ∃ o xs, H b = some (.frz o (.lst xs))

/-- THE HEAD: the law's promise, at the heap behind the top. F, the promise of the law's def, may use that base is part of the heap (so K.In base, base.Ns mainGlobals mg stand in Mod) -/
theorem law_call {P : Program} {w : World} {K : PySem.W.Frag} {mg mb : Str → Option Value} {CX : CXT} {k : Nat} {fa a : Addr} {fd : FuncData} {x : Str} {sp : Sp} {s₁ : Shared} {vs : List Value} {ns : List Int}
    (KX : K.In s₁.heap) (hns : s₁.heap.Ns mainGlobals mg) (hb : s₁.heap.Ns builtinsNs mb) (hbb : ∀ x : Str, x ≠ "__name__" → mb x = bootBuiltins x) (hlim : s₁.heap.NoLimit) (hg : s₁.gens = #[])
    (ha : s₁.heap.get? a = some { cls := .type "list", data := .seq vs.toArray }) (hi : IntsAre vs ns) (hl : ns.length ≤ sizeLine) (hr : Room k callerA)
    (F : ∀ base : Heap, K.In base → base.Ns mainGlobals mg → FnOk P w K mg base CX k fa fd [x] sp) (hbind : ∀ (s : Shared) (u : Value), BindsTo s fd ⟨[u], []⟩ [(x, u)])
    (hsp : ∀ H : Hp, Only H → SqL K H a (ns.map V.int) → sp [.ref a] H (fun v _ => v = .bl true) fun _ _ _ => False)
    (hCX : ∀ H e s', CX [] H s₁ (fun _ _ _ => False) e s' → False) :
    codeAny (model P w) callerA (.call (.ref fa) ⟨[.ref a], []⟩) (fun r s' => r = .ok (.ret (.bool true)) ∧ OldK s₁.heap s'.heap ∧ s'.os = s₁.os ∧ AllBare s'.gens) s₁ := by
  have rv := vals_ints hi
  have lenV := hi.length
  -- from an abstract heap in which nothing but the script may be tracked
  have core : ∀ H : Hp, Only H → SqL K H a (ns.map V.int) → HOk P w H s₁.heap → (∀ b, H b ≠ none → b = a) → (H a ≠ none → K.lookup a = none) →
      codeAny (model P w) callerA (.call (.ref fa) ⟨[.ref a], []⟩) (fun r s' => r = .ok (.ret (.bool true)) ∧ OldK s₁.heap s'.heap ∧ s'.os = s₁.os ∧ AllBare s'.gens) s₁ := by
    intro H hO hS hok hA hK
    have base_of : ∀ {b : Addr} {o : Obj}, s₁.heap.get? b = some o → H b = none → (hidT s₁.heap H).get? b = some o := fun e n => hidT_get e n
    have noA : ∀ {b : Addr} {o : Obj} {es : Array DictEntry} {ep : Nat}, s₁.heap.get? b = some o → o.data = .dict es ep → H b = none := fun {b o es ep} e d => by
      cases q : H b with
      | none => rfl
      | some u =>
        have e' : b = a := hA b (by rw [q]; simp)
        subst e'
        rw [ha] at e; cases e
        have d' : Data.seq vs.toArray _ = Data.dict es ep := d
        cases d'
    have nsK : ∀ {b : Addr} {m : Str → Option Value}, s₁.heap.Ns b m → (hidT s₁.heap H).Ns b m := fun {b m} ⟨o, es, ep, e, d, r⟩ => ⟨o, es, ep, base_of e (noA e d), d, r⟩
    have hKb : K.In (hidT s₁.heap H) := fun b o e => base_of (KX b o e) (by
      cases q : H b with
      | none => rfl
      | some u =>
        have e' : b = a := hA b (by rw [q]; simp)
        subst e'
        rw [hK (by rw [q]; simp)] at e; cases e)
    have hM : Mod K mg (hidT s₁.heap H) := ⟨hKb, nsK hns, ⟨mb, nsK hb, hbb⟩, let ⟨mc, h1, h2⟩ := hlim; ⟨mc, nsK h1, h2⟩⟩
    have e0 : Env0 P w K mg (hidT s₁.heap H) callerA [] s₁ H := ⟨rfl, hM, fun b o e => of_hidT e, Nat.le_of_eq (hidT_size _ _), trivial, fun b hb => absurd (show b ∈ ([] : List Addr) from hb) (by simp), hok, .of_eq hg⟩
    refine codeAny_mono ((F _ hKb (nsK hns)).run callerA [] s₁ H ⟨[.ref a], []⟩ [.ref a] [.ref a] _ _ hr e0 (hbind s₁ (.ref a)) (.cons rfl .nil) (hsp H hO hS)) fun r s' h => ?_
    cases r with
    | error e => exact (hCX H e s' h).elim
    | ok fl =>
      cases fl with
      | next => exact False.elim h
      | brk => exact False.elim h
      | cont => exact False.elim h
      | ret u =>
        obtain ⟨v, H', os, bare, un, hok', r', q⟩ := h
        have q' : v = .bl true := q
        subst q'
        obtain rfl : u = Value.bool true := r'
        refine ⟨rfl, OldK.of_keep fun b o e => ?_, os, bare⟩
        cases q : H b with
        | none => exact un.keep b o e q (by intro z; exact absurd (show b ∈ ([] : List Addr) from z) (by simp)) (by simp)
        | some u =>
          rcases hO b with z | ⟨ob, xs, z⟩
          · rw [q] at z; cases z
          · have z2 := un.frzs b ob _ z
            obtain ⟨e1, _⟩ := hok b _ z
            obtain ⟨e2, _⟩ := hok' b _ z2
            rw [e] at e1; cases e1
            exact e2
  cases hk : K.lookup a with
  | some o =>
    -- the script is one of the module's own objects
    have e := KX a o hk
    rw [ha] at e
    cases e
    refine core (fun _ => none) (fun _ => .inl rfl) (.inr ⟨_, vs.toArray, _, hk, rfl, rfl, rfl, by rw [List.size_toArray, lenV]; exact hl, by simpa using rv⟩) (fun b u z => by have z' : (none : Option HO) = some u := z; cases z') (fun b z => absurd rfl z) fun z => absurd rfl z
  | none =>
    refine core (fun b => if b = a then some (.frz { cls := .type "list", data := .seq vs.toArray } (.lst (ns.map V.int))) else none) (fun b => ?_) (.inl (.inr ⟨{ cls := .type "list", data := .seq vs.toArray }, if_pos rfl⟩)) (fun b u z => ?_) (fun b z => ?_) fun _ => hk
    · by_cases hb : b = a
      · exact .inr ⟨_, _, if_pos hb⟩
      · exact .inl (if_neg hb)
    · by_cases hb : b = a
      · have z' := (if_pos hb).symm.trans z
        cases z'
        subst hb
        exact ⟨ha, by rw [List.length_map]; exact hl, vs, _, rv, ha⟩
      · have z' := (if_neg hb).symm.trans z
        cases z'
    · by_cases hb : b = a
      · exact hb
      · exact absurd (if_neg hb) z
end L2

namespace L2
open PySem PySem.Spec PyProof.Rows

abbrev KOf {K : PySem.W.Frag} {h : Heap} (_ : K.In h) : PySem.W.Frag := K

/-- the goal that k_head leaves (case hc), from the law's promise. F gives the function object fd (K's own) once, then the promise over every base -/
theorem walk_of {l : PySem.W.OpenLaw} {n k : Nat} {q : Program} {loose : List Str} {XP : (Str → Option Value) → Heap → Prop} {YP : World → Heap → Prop} {d : DefRec} {K : Params → PySem.W.Frag} {CX : World → CXT} {sp : World → Sp} {x : Str}
    (hn : l.most = some n) (hn2 : n ≤ sizeLine) (hdf : d.params.defaults = []) (hr : Room k callerA)
    (hY : ∀ (w : World) (h : Heap), YP w h → (K w.params).In h)
    (F : ∀ (w : World) (mg : Str → Option Value) (fa : Addr) (h : Heap), (K w.params).In h → h.Ns mainGlobals mg → mg d.name = some (.ref fa) →
      ∃ fd : FuncData, (∀ (s : Shared) (u : Value), BindsTo s fd ⟨[u], []⟩ [(x, u)]) ∧
        ∀ base : Heap, (K w.params).In base → base.Ns mainGlobals mg → FnOk l.prog w (K w.params) mg base (CX w) k fa fd [x] (sp w))
    (hsp : ∀ (w : World) (H : Hp) (a : Addr) (ns : List Int), ns.length ≤ n → Only H → SqL (K w.params) H a (ns.map V.int) → sp w [.ref a] H (fun v _ => v = .bl true) fun _ _ _ => False)
    (hCX : ∀ (w : World) (H : Hp) (s : Shared) (e : Value) (s' : Shared), CX w [] H s (fun _ _ _ => False) e s' → False) :
    PySem.W.WalkO q loose XP YP l.row.toRowW d [] (fun f vs => PySem.call f vs) := by
  refine Att.attach_call hn hdf fun w s₀ s₁ mg mb fa o pm cd doc a vs ns G Y ho hd hcd hmg hobj hints hlen hg => ?_
  have KX := hY w _ Y
  obtain ⟨fd, hb, hF⟩ := F w mg fa _ KX G.T.g hmg
  exact law_call KX G.T.g G.T.b G.T.builtins G.T.nolimit hg hobj hints (Nat.le_trans hlen hn2) hr hF hb (fun H hO hS => hsp w H a ns hlen hO hS) fun H e s' => hCX w H s₁ e s'
/-- the same where the promise hangs on the written part alone: (sp := My.sp_law), no hole under a binder -/
theorem walk_ofK {l : PySem.W.OpenLaw} {n k : Nat} {q : Program} {loose : List Str} {XP : (Str → Option Value) → Heap → Prop} {YP : World → Heap → Prop} {d : DefRec} {K : Params → PySem.W.Frag} {CX : CXT} {sp : PySem.W.Frag → Sp} {x : Str}
    (hn : l.most = some n) (hn2 : n ≤ sizeLine) (hdf : d.params.defaults = []) (hr : Room k callerA)
    (hY : ∀ (w : World) (h : Heap), YP w h → (K w.params).In h)
    (F : ∀ (w : World) (mg : Str → Option Value) (fa : Addr) (h : Heap), (K w.params).In h → h.Ns mainGlobals mg → mg d.name = some (.ref fa) →
      ∃ fd : FuncData, (∀ (s : Shared) (u : Value), BindsTo s fd ⟨[u], []⟩ [(x, u)]) ∧
        ∀ base : Heap, (K w.params).In base → base.Ns mainGlobals mg → FnOk l.prog w (K w.params) mg base CX k fa fd [x] (sp (K w.params)))
    (hsp : ∀ (K : PySem.W.Frag) (H : Hp) (a : Addr) (ns : List Int), ns.length ≤ n → Only H → SqL K H a (ns.map V.int) → sp K [.ref a] H (fun v _ => v = .bl true) fun _ _ _ => False)
    (hCX : ∀ (H : Hp) (s : Shared) (e : Value) (s' : Shared), CX [] H s (fun _ _ _ => False) e s' → False) :
    PySem.W.WalkO q loose XP YP l.row.toRowW d [] (fun f vs => PySem.call f vs) :=
  walk_of (K := K) (CX := fun _ => CX) (sp := fun w => sp (K w.params)) hn hn2 hdf hr hY F (fun w H a ns h1 h2 h3 => hsp (K w.params) H a ns h1 h2 h3) fun _ H s e s' => hCX H s e s'
end L2

/- THE LAST THEOREM (shape; LID, My.* are yours):
   My.Adr: a structure of the addresses that your layer names (classes, functions); My.Txt K t: a structure (Prop) of the equations over K;
   My.txt_mk : {K} {implicit addresses ..} (e1 : nsIn K mainGlobals "law" = some (some (.ref f))) (e2 : K.lookup f = some ⟨oc, od, .func (fnOf "law" "law" params body scope dV kV doc pm an cdv ct), sl⟩) (e3 : codeIn K cdv "law" = true) .. : ∃ t, My.Txt K t

set_option maxRecDepth 100000 in
set_option maxHeartbeats 0 in
theorem PySem.Challenge.cw_LID_holds : PySem.Challenge.rw_LID.Holds := by
  w_on; o_law; k_head; (case hw => w_witness2)
  k_fill
  refine L2.walk_of (l := PySem.Challenge.rw_LID) (n := 63) (k := 40) (x := "script") (CX := fun w => ..) (sp := fun _ => My.sp_law) rfl (by decide) rfl ⟨rfl, by decide, by decide⟩ (fun w h Y => PySem.W.kIn_of Y) ?F ?S ?C
  case F =>
    intro w mg fa h KX G hmg
    have T : ∃ t, My.Txt (L2.KOf KX) t := by
      dsimp only [L2.KOf]                          -- K must stand as «<heap const> w.params» for k_is
      refine' My.txt_mk ?e1 ?e2 ?e3 ..
      (case e1 => PySem.W.k_is)                    -- in the order: a name -> its address -> its object -> its parts
      (case e2 => PySem.W.k_is)
      ..
    obtain ⟨t, T⟩ := T
    have e0 := hmg.symm.trans (PySem.W.mg_of KX G T.law)
    cases e0                                       -- fa is the law's own address
    exact ⟨_, fun s u => .of_eq rfl, fun base kb nb => My.law_fn T kb nb⟩     -- if «.of_eq rfl» comes too early: refine' ⟨_, ?b, fun base kb nb => My.law_fn T kb nb⟩; exact fun s u => .of_eq rfl
  case S => exact fun w H a ns hl hO hS => ..
  case C => exact ..
(the tactic k_is has no namespace: write k_is) -/

/-! SHORT WORDS over the layer: a def of the text, its body, what a loop and a test want. -/
namespace L2
open PySem PySem.Spec PyProof.Rows

/-! ### the text by places -/
/-- the j-th statement of a class's body -/
def inClass (s : Stmt) (j : Nat) : Stmt := match s with
  | .ClassDef _ _ _ body _ _ _ _ _ _ _ => body.getD j (.Pass ⟨0, 0, 0, 0⟩)
  | _ => .Pass ⟨0, 0, 0, 0⟩
def defArgs (s : Stmt) : Arguments := match s with
  | .FunctionDef _ a _ _ _ _ _ _ _ _ => a
  | _ => { posonlyargs := [], args := [], vararg := none, kwonlyargs := [], kw_defaults := [], kwarg := none, defaults := [] }
def defBody (s : Stmt) : List Stmt := match s with
  | .FunctionDef _ _ b _ _ _ _ _ _ _ => b
  | _ => []
def defScope (s : Stmt) : Scope := match s with
  | .FunctionDef _ _ _ _ _ _ sc _ _ _ => sc
  | _ => { kind := .function, names := [], isGenerator := false, isCoroutine := false }

/-! ### no exception leaves a def -/
abbrev CX0 : CXT := fun _ _ _ _ _ _ => False
abbrev E0 : XK := fun _ _ _ => False
theorem pass0 {X : Cx} : Passes CX0 X E0 := fun _ _ _ _ _ _ _ h => h.elim

/-! ### a def (or method) of the text as it stands behind the top -/
structure Fun (K : PySem.W.Frag) (x qual : Str) (st : Stmt) (f : Addr) (fd : FuncData) : Prop where
  ex : ∃ (oc : Value) (od : Option Addr) (kV doc pm : Value) (an : Option Addr) (cdv ct : Value) (osl : Array (Option Value)),
    fd = PySem.W.fnOf x qual (defArgs st) (defBody st) (defScope st) .none kV doc pm an cdv ct ∧ K.lookup f = some ⟨oc, od, .func fd, osl⟩ ∧ PySem.W.codeIn K cdv qual = true
  kp : PySem.W.keepIn K (.ref f) = true
section
variable {P : Program} {w : World} {K : PySem.W.Frag} {mg : Str → Option Value} {base : Heap}
/-- THE RULE for a def: its body as a term of rules, and the reading of that term -/
theorem Fun.ok {x qual : Str} {st : Stmt} {f : Addr} {fd : FuncData} {N ps : List Str} {k : Nat} {sp : Sp} (F : Fun K x qual st f fd) (S : FnScope N ps (defScope st)) (len : ∀ vs H Q E, sp vs H Q E → vs.length = ps.length)
    (hbody : ∀ (cdv : Value) (A : Around) (outer : List Env) (s : Shared) (H : Hp) (vs : List V) (Q : VK) (E : XK), Room k (A.deeper (envOfC qual (defScope st) s.heap.objs.size f cdv)) → sp vs H Q E →
      ∃ t, PSs (cxOf CX0 P w K mg base N qual (defScope st) f cdv A outer s H E).nox (defBody st) t ∧ t { nx := fun _ H' => Q .non H', rt := Q } (start N vs) H) : FnOk P w K mg base CX0 (k + 1) f fd ps sp := by
  obtain ⟨oc, od, kV, doc, pm, an, cdv, ct, osl, rfl, lk, hcd⟩ := F.ex
  refine fn_of lk hcd S len fun A outer s H vs Q E hr hsp => ?_
  obtain ⟨t, h, q⟩ := hbody cdv A outer s H vs Q E hr hsp
  exact ⟨t, h.nox, q⟩
/-- how its arguments bind (no defaults): h is «fun _ _ _ _ _ _ us hl => match us, hl with | [_, _], _ => rfl», one _ a parameter -/
theorem Fun.binds {x qual : Str} {st : Stmt} {f : Addr} {fd : FuncData} {ps : List Str} (F : Fun K x qual st f fd)
    (h : ∀ (kV doc pm : Value) (an : Option Addr) (cdv ct : Value) (us : List Value), us.length = ps.length → bindArgs (PySem.W.fnOf x qual (defArgs st) (defBody st) (defScope st) .none kV doc pm an cdv ct) ⟨us, []⟩ = pure (ps.zip us)) : Binds K fd ps [] := by
  obtain ⟨oc, od, kV, doc, pm, an, cdv, ct, osl, rfl, lk, hcd⟩ := F.ex
  exact .all (h kV doc pm an cdv ct)
theorem fun_mk {x qual : Str} {st : Stmt} {f : Addr} {oc : Value} {od an : Option Addr} {osl : Array (Option Value)} {kV doc pm cdv ct : Value} (l : K.lookup f = some ⟨oc, od, .func (PySem.W.fnOf x qual (defArgs st) (defBody st) (defScope st) .none kV doc pm an cdv ct), osl⟩)
    (c : PySem.W.codeIn K cdv qual = true) (k : PySem.W.keepIn K (.ref f) = true) : Fun K x qual st f (PySem.W.fnOf x qual (defArgs st) (defBody st) (defScope st) .none kV doc pm an cdv ct) := ⟨⟨oc, od, kV, doc, pm, an, cdv, ct, osl, rfl, l, c⟩, k⟩
end
theorem hu_of {A : Around} {k : Nat} (hr : Room k A) : A.units + 1 < cLine := Nat.lt_of_le_of_lt (Nat.add_le_add_left (by decide : 1 ≤ 64) _) hr.units
theorem small1000 {n : Nat} (h : n ≤ 1000) : n < sizeLine := Nat.lt_of_le_of_lt h (by decide)

/-! ### expressions in short: the name that stands in the i-th slot -/
section
variable {X : Cx}
theorem pv (i : Nat) {x : Str} {pos : Pos} (hN : X.N[i]? = some x := by rfl) (hv : Vis X.env.scope x := by first | exact Or.inl rfl | exact Or.inr (Or.inl rfl) | exact Or.inr (Or.inr rfl)) (hd : (x == ("__debug__" : Str)) = false := by decide)
    (hcd : (x == ("__classdict__" : Str)) = false := by decide) : PE X (.Name x pos) (tVar i) := pe_var hN hv hd hcd
end

/-! ### tests -/
theorem iteF {A B : Prop} (h : B) : if false = true then A else B := by
  rw [if_neg Bool.false_ne_true]
  exact h
theorem iteT {A B : Prop} (h : A) : if true = true then A else B := by
  rw [if_pos rfl]
  exact h
theorem ite2 {c A B : Prop} [Decidable c] (h1 : c → A) (h2 : ¬ c → B) : if c then A else B := by
  by_cases h : c
  · rw [if_pos h]
    exact h1 h
  · rw [if_neg h]
    exact h2 h
theorem iteNS {c A B : Prop} [Decidable c] (hc : c) (h : B) : if (!decide c) = true then A else B := by
  rw [decide_eq_true hc]
  exact iteF h

/-! ### heaps -/
/-- all that was tracked is as it was -/
def Same (H H' : Hp) : Prop := ∀ b o, H b = some o → H' b = some o
theorem Same.refl (H : Hp) : Same H H := fun _ _ h => h
theorem Same.trans {H H1 H2 : Hp} (a : Same H H1) (b : Same H1 H2) : Same H H2 := fun c o h => b c o (a c o h)
theorem Same.free {H H' : Hp} (e : Same H H') {l : Addr} (h : H' l = Option.none) : H l = Option.none := by
  cases q : H l with
  | none => rfl
  | some o =>
    rw [e l o q] at h
    cases h
theorem Same.seq {K : PySem.W.Frag} {H H' : Hp} {a : Addr} {xs : List V} (e : Same H H') (h : SqL K H a xs) : SqL K H' a xs := by
  rcases h with (h | ⟨o, h⟩) | h
  · exact .inl (.inl (e _ _ h))
  · exact .inl (.inr ⟨o, e _ _ h⟩)
  · exact .inr h

end L2

set_option Elab.async false
set_option linter.all false
set_option maxRecDepth 100000
namespace HT
open PySem PyProof.Rows
/-- one > other, of tuples of ints -/
def lexGt : List Int → List Int → Bool
  | [], [] => false
  | [], _ :: _ => false
  | _ :: _, [] => true
  | x :: xs, y :: ys => if x = y then lexGt xs ys else decide (y < x)
theorem lexGt_cons (x y : Int) (xs ys : List Int) : lexGt (x :: xs) (y :: ys) = if x = y then lexGt xs ys else decide (y < x) := rfl
theorem lexGt_nil_nil : lexGt [] [] = false := rfl
theorem lexGt_nil_cons (y : Int) (ys : List Int) : lexGt [] (y :: ys) = false := rfl
theorem lexGt_cons_nil (x : Int) (xs : List Int) : lexGt (x :: xs) [] = true := rfl
theorem rcGt_int (A : Around) (s : Shared) (a : Int) (t : Tok) (c : Int) (u : Tok) (prog : Program) (w : World) (E : Value → Shared → Prop) (Q : Value → Shared → Prop) (h : Q (.bool (decide (c < a))) s) :
    wpAny (model prog w) A (richCompare .Gt (.int a t) (.int c u)) Q E s :=
  (PyProof.Rows.gt_int h : wpAny (model prog w) A (compareOp .Gt (.int a t) (.int c u)) Q E s)
section
open PySem.SeqAt
open PySem.AutoSeq1 (wpAny_loadPart')
open PySem.MeetsSeq PySem.MeetsSeq2 PySem.MeetsSeq3
theorem tuple_gt_ints (l b : Addr) (items items2 : Array Value) (n n2 : Nat) (dd dd2 : Option Addr) (sl sl2 : Array (Option Value)) (ns ms : List Int) (hi : IntsAre items.toList ns) (hj : IntsAre items2.toList ms) :
    Meets (Builtin.«tuple.__gt__» ⟨[.ref l, .ref b], []⟩)
      (fun _ R s => s.heap.get? l = some { cls := .type "tuple", dict := dd, data := .seq items n, slots := sl } ∧ s.heap.get? b = some { cls := .type "tuple", dict := dd2, data := .seq items2 n2, slots := sl2 } ∧
        R (.ok (.ret (.bool (lexGt ns ms)))) s) :=
  .of_wp fun prog w A R s h => by
    obtain ⟨hp, g, d, tk, os⟩ := s; obtain ⟨hl, hb, h⟩ := h
    have f2 := AutoSeq1.sub_tuple_tuple
    have z1 : items.size = ns.length := by rw [← hi.length]; simp
    have z2 : items2.size = ms.length := by rw [← hj.length]; simp
    wp_walk using wpAny_loadPart' hl, wpAny_loadPart' hb, wpAny_forIn_list _ (fun rest b s' => b.1 = none ∧ s' = ⟨hp, g, d, tk, os⟩ ∧ ∃ (vs ws : List Value) (ns' ms' : List Int), rest = vs.zip ws ∧
      IntsAre vs ns' ∧ IntsAre ws ms' ∧ ns'.length + items2.size = ms'.length + items.size ∧ R (.ok (.ret (.bool (lexGt ns' ms')))) ⟨hp, g, d, tk, os⟩) _
    case turn =>
      rintro ⟨y, x⟩ rest b s' ⟨hb', rfl, vs, ws, ns', ms', hz, hvi, hwi, hlen, hR⟩
      cases hvi with
      | nil => rw [List.zip_nil_left] at hz; cases hz
      | cons a t hvi' =>
        cases hwi with
        | nil => rw [List.zip_nil_right] at hz; cases hz
        | cons c u hwi' =>
          rw [List.zip_cons_cons] at hz
          injection hz with hyx hrest
          injection hyx with hy hx
          subst hy hx
          rw [lexGt_cons] at hR
          simp only [List.length_cons] at hlen
          obtain ⟨e, he, hiff⟩ := eqAt_int A.in1 ⟨hp, g, d, tk, os⟩ a t c u
          refine wpAny_bind (he prog w _ _ ?_)
          cases e with
          | true =>
            rw [if_pos (hiff.mp rfl)] at hR
            wp_walk
            exact ⟨rfl, rfl, _, _, _, _, hrest, hvi', hwi', by omega, hR⟩
          | false =>
            rw [if_neg (fun q => absurd (hiff.mpr q) Bool.false_ne_true)] at hR
            have hri := rcGt_int A.in1 ⟨hp, g, d, tk, os⟩ a t c u prog w
            wp_walk using hri
            exact ⟨_, rfl, by simpa using hR⟩
    case fin =>
      rintro ⟨b1, b2⟩ s' ⟨hb', rfl, vs, ws, ns', ms', hz, hvi, hwi, hlen, hR⟩
      simp only at hb'
      subst hb'
      have hv : lexGt ns' ms' = decide (items.size > items2.size) := by
        cases hvi with
        | nil =>
          cases hwi with
          | nil =>
            simp only [List.length_nil] at hlen
            rw [lexGt_nil_nil]
            exact (decide_eq_false (by omega)).symm
          | cons c u hw =>
            simp only [List.length_nil, List.length_cons] at hlen
            rw [lexGt_nil_cons]
            exact (decide_eq_false (by omega)).symm
        | cons a t hv =>
          cases hwi with
          | nil =>
            simp only [List.length_nil, List.length_cons] at hlen
            rw [lexGt_cons_nil]
            exact (decide_eq_true (by omega)).symm
          | cons c u hw =>
            rw [List.zip_cons_cons] at hz
            cases hz
      rw [hv] at hR
      wp_walk
      exact ⟨_, rfl, by simpa [Builtin.Tuple.tupleCompareSizes] using hR⟩
    case h =>
      exact ⟨rfl, rfl, items.toList, items2.toList, ns, ms, rfl, hi, hj, by omega, h⟩
end
section
variable {prog : Program} {w : World} {A : Around} {E : Value → Shared → Prop} {s : Shared}
theorem gt_tupInts {l b : Addr} {items items2 : Array Value} {ns ms : List Int} {Q : Value → Shared → Prop} (hl : IsTup s.heap l items) (hb : IsTup s.heap b items2) (hi : IntsAre items.toList ns) (hj : IntsAre items2.toList ms)
    (hu : A.units < cLine) (h : Q (.bool (lexGt ns ms)) s) : wpAny (model prog w) A (compareOp .Gt (.ref l) (.ref b)) Q E s := by
  obtain ⟨⟨cls, dd, data, sl⟩, ho, hc, n, hd⟩ := id hl
  obtain ⟨⟨cls2, dd2, data2, sl2⟩, ho2, hc2, n2, hd2⟩ := id hb
  simp only at hc hd hc2 hd2
  subst hc hd hc2 hd2
  exact richCompare_meets_room (op := .Gt) ⟨_, ho, rfl⟩ ⟨_, ho2, rfl⟩ PySem.F.slot_tuple_gt PySem.F.entry_tuple_gt (PySem.F.args_tuple_gt_2 _ _) (tuple_gt_ints l b items items2 n n2 dd dd2 sl sl2 ns ms hi hj)
    ⟨ho, ho2, show Value.bool (lexGt ns ms) ≠ Value.notImplemented ∧ Q (.bool (lexGt ns ms)) s from ⟨(fun x => nomatch x), h⟩⟩ hu
end
end HT
namespace L2
open PySem PySem.Spec PyProof.Rows
section
variable {X : Cx} {a b : Expr} {ta tb : TE} {pos : Pos}
/-- t > u of tuples of ints -/
def rGtT (K : PySem.W.Frag) : R2 := fun x y H Q => ∃ a b ns ms, x = .ref a ∧ y = .ref b ∧ SqT K H a (ns.map V.int) ∧ SqT K H b (ms.map V.int) ∧ Q (.bl (HT.lexGt ns ms)) H
theorem op_gtT (hu : X.A.units < cLine) : OpR X (compareOp .Gt) (rGtT X.K) := by
  intro pins s σ H x y v u Q I rx ry h
  obtain ⟨a, b, ns, ms, rfl, rfl, ha, hb, q⟩ := h
  cases rx
  cases ry
  obtain ⟨its, r1, p1, _⟩ := I.tuple ha
  obtain ⟨its2, r2, p2, _⟩ := I.tuple hb
  have i1 : IntsAre its.toArray.toList ns := intsAre_of r1
  have i2 : IntsAre its2.toArray.toList ms := intsAre_of r2
  exact HT.gt_tupInts p1 p2 i1 i2 hu ⟨.bl (HT.lexGt ns ms), H, I, rfl, q⟩
/-- t != u of pairs of ints -/
def rNeT2 (K : PySem.W.Frag) : R2 := fun x y H Q => ∃ a b n1 m1 n2 m2, x = .ref a ∧ y = .ref b ∧ SqT K H a [.int n1, .int m1] ∧ SqT K H b [.int n2, .int m2] ∧ Q (.bl (!(decide (n1 = n2) && decide (m1 = m2)))) H
theorem op_neT2 (hu : X.A.units < cLine) : OpR X (compareOp .NotEq) (rNeT2 X.K) := by
  intro pins s σ H x y v u Q I rx ry h
  obtain ⟨a, b, n1, m1, n2, m2, rfl, rfl, ha, hb, q⟩ := h
  cases rx
  cases ry
  obtain ⟨its, r1, p1, _⟩ := I.tuple ha
  obtain ⟨its2, r2, p2, _⟩ := I.tuple hb
  cases r1 with
  | cons r1a r1 =>
    cases r1 with
    | cons r1b r1 =>
      cases r1
      cases r2 with
      | cons r2a r2 =>
        cases r2 with
        | cons r2b r2 =>
          cases r2
          obtain ⟨t1, rfl⟩ := r1a
          obtain ⟨t2, rfl⟩ := r1b
          obtain ⟨t3, rfl⟩ := r2a
          obtain ⟨t4, rfl⟩ := r2b
          refine (PySem.SeqAt.RcNeAt.tuples (e := fun j => if j = 0 then n1 == n2 else m1 == m2) (show s.heap.IsTuple a _ from p1) (show s.heap.IsTuple b _ from p2) hu ?_) X.prog X.w X.xe _ ?_
          · intro j h1 h2
            match j, h1 with
            | 0, _ => exact PySem.SeqAt.EqAt.int_int _ _ _ _
            | 1, _ => exact PySem.SeqAt.EqAt.int_int _ _ _ _
          · have e : (!((List.range (min (#[Value.int n1 t1, Value.int m1 t2]).size (#[Value.int n2 t3, Value.int m2 t4]).size)).all (fun j => if j = 0 then n1 == n2 else m1 == m2) && (#[Value.int n1 t1, Value.int m1 t2]).size == (#[Value.int n2 t3, Value.int m2 t4]).size)) = !(decide (n1 = n2) && decide (m1 = m2)) := by
              show (!(((n1 == n2) && ((m1 == m2) && true)) && true)) = _
              rw [Bool.and_true, Bool.and_true]
              rfl
            exact ⟨.bl _, H, I, by rw [← e]; rfl, q⟩
/-- is, of truths -/
theorem op_isB : OpR X (compareOp .Is) (fun x y H Q => ∃ i j, x = .bl i ∧ y = .bl j ∧ Q (.bl (i == j)) H) := by
  intro pins s σ H x y v u Q I rx ry h
  obtain ⟨i, j, rfl, rfl, q⟩ := h
  cases rx
  cases ry
  exact is_bool ⟨.bl _, H, I, rfl, q⟩
/-- // by a positive divisor below 2^64 -/
def CDivL (i j : Int) : Prop := 0 < j ∧ j < 2 ^ 64
theorem op_fdivL : OpR X (binaryOp .FloorDiv) (rI CDivL fun i j => .int (i / j)) := opI fun i j _ _ _ _ _ hc q => by
  have h1 : (0 : Int) < j := hc.1
  have h2 : j < 2 ^ 64 := hc.2
  have e : i.fdiv j = i / j := Int.fdiv_eq_ediv_of_nonneg i (Int.le_of_lt h1)
  refine floordiv_int (by omega) (by rw [e]; exact q) (.inl (PyProof.noPylong_of_log2 ?_))
  have h3 : j.natAbs < 2 ^ 64 := by omega
  have h4 : j.natAbs ≠ 0 := by omega
  have h5 : j.natAbs.log2 < 64 := (Nat.log2_lt h4).mpr h3
  omega
/-- isinstance(x, bool), isinstance(x, int) of truths and ints -/
theorem call_isi : CallR X (.builtin "isinstance") (fun xs H Q => (∃ k, xs = [.bl k, .ty "bool"] ∧ Q (.bl true) H) ∨ (∃ k, xs = [.int k, .ty "bool"] ∧ Q (.bl false) H) ∨ (∃ k, xs = [.int k, .ty "int"] ∧ Q (.bl true) H)) := by
  intro pins s σ H xs us Q I r h
  rcases h with ⟨k, rfl, q⟩ | ⟨k, rfl, q⟩ | ⟨k, rfl, q⟩
  · cases r with
    | cons r1 r =>
      cases r with
      | cons r2 r =>
        cases r
        cases r2
        cases r1
        exact PySem.IsiPair.bool_bool ⟨.bl true, H, I, rfl, q⟩
  · cases r with
    | cons r1 r =>
      cases r with
      | cons r2 r =>
        cases r
        cases r2
        obtain ⟨t, rfl⟩ := r1
        exact PySem.IsiPair.int_bool ⟨.bl false, H, I.tok _, rfl, q⟩
  · cases r with
    | cons r1 r =>
      cases r with
      | cons r2 r =>
        cases r
        cases r2
        obtain ⟨t, rfl⟩ := r1
        exact PySem.IsiPair.int_int ⟨.bl true, H, I, rfl, q⟩
end
end L2

set_option Elab.async false
set_option linter.all false
set_option maxRecDepth 100000
namespace H1
open PySem PySem.Spec PyProof.Rows L2
/-- a def of the text, by its name -/
structure Def (K : PySem.W.Frag) (mg : Str → Option Value) (x : Str) (st : Stmt) (ps : List Str) (f : Addr) (fd : FuncData) : Prop where
  at_ : mg x = some (.ref f)
  fn : Fun K x x st f fd
  bd : Binds K fd ps []
theorem pcall {X : Cx} {x : Str} {st : Stmt} {ps : List Str} {f : Addr} {fd : FuncData} {sp : Sp} {k : Nat} {e : Expr} {es : List Expr} {t : TA} {p pos : Pos} (D : Def X.K X.mg x st ps f fd) (G : FnOk X.prog X.w X.K X.mg X.base CX0 k f fd ps sp) (hr : Room k X.A)
    (ha : PA X (e :: es) t) (hg : Gl X x := by rfl) (hdb : (x == ("__debug__" : Str)) = false := by decide) (he : starEach (e :: es) X.env = (false, eval e X.env) :: starEach es X.env := by rfl) (hpl : (backTo pos (starEach es X.env)).any (·.1) = false := by rfl) :
    PE X (.Call (.Name x p) (e :: es) [] pos) (tCall sp [] E0 t) := pe_call G hr hg D.at_ D.fn.kp D.bd .nil pass0 ha hdb he hpl
/-- the box of draws -/
def BoxO (o : HO) : Prop := ∃ g n c : Int, o = .lst [.int g, .int n, .int c] ∧ 0 ≤ g ∧ 0 ≤ n ∧ n < 2147483647
def Box (H : Hp) (b : Addr) : Prop := ∃ o, H b = some o ∧ BoxO o
/-- all but the box is kept, the box is one again -/
structure Ext (b : Addr) (H H' : Hp) : Prop where
  kp : ∀ a o, H a = some o → a ≠ b → H' a = some o
  bx : Box H' b
theorem Box.ne {H : Hp} {a b : Addr} {xs : List V} (B : Box H b) (h : H a = some (.tup xs)) : a ≠ b := by
  obtain ⟨o, hb, g, n, c, rfl, _⟩ := B
  exact ne_of h hb (by intro z; cases z)
theorem Ext.refl {b : Addr} {H : Hp} (B : Box H b) : Ext b H H := ⟨fun _ _ h _ => h, B⟩
theorem Ext.trans {b : Addr} {H H1 H2 : Hp} (x : Ext b H H1) (y : Ext b H1 H2) : Ext b H H2 := ⟨fun a o h n => y.kp a o (x.kp a o h n) n, y.bx⟩
theorem Ext.tup {b a : Addr} {H H' : Hp} {xs : List V} (x : Ext b H H') (B : Box H b) (h : H a = some (.tup xs)) : H' a = some (.tup xs) := x.kp a _ h (B.ne h)
theorem Same.upd {H : Hp} {p : Addr} {o : HO} (h : H p = none) : Same H (upd H p o) := fun a u e => by rw [upd_ne (ne_of_none e h)]; exact e
theorem Same.ext {b : Addr} {H H' : Hp} (s : Same H H') (B : Box H b) : Ext b H H' := ⟨fun a o h _ => s a o h, let ⟨o, h, q⟩ := B; ⟨o, s _ _ h, q⟩⟩
theorem Ext.of_upd {b : Addr} {H : Hp} {o : HO} (h : BoxO o) : Ext b H (upd H b o) := ⟨fun a u e n => by rw [upd_ne n]; exact e, ⟨o, upd_same, h⟩⟩
theorem Ext.new {b p : Addr} {H : Hp} {o : HO} (B : Box H b) (h : H p = none) : Ext b H (upd H p o) := H1.Same.ext (H1.Same.upd h) B
theorem Same.tupK {H H' : Hp} {a : Addr} {xs : List V} (s : Same H H') (h : H a = some (.tup xs)) : H' a = some (.tup xs) := s _ _ h
theorem szl {α : Type} {xs : List α} (n : Nat) (h : xs.length = n := by rfl) (hn : n ≤ 1000 := by decide) : xs.length ≤ sizeLine := by rw [h]; exact Nat.le_of_lt (small1000 hn)
theorem ib0 (k : Bool) : 0 ≤ (if k = true then (1 : Int) else 0) := by cases k <;> decide
theorem ib1 (k : Bool) : -(2 ^ 64) < (if k = true then (1 : Int) else 0) ∧ (if k = true then (1 : Int) else 0) < 2 ^ 64 := by cases k <;> decide
theorem atI_int {ns : List Int} {k : Int} (h0 : 0 ≤ k) (hn : k.toNat < ns.length) : atI (ns.map V.int) k = some (V.int ns[k.toNat]) := by
  have h := atI_nat (xs := ns.map V.int) (j := k.toNat) (v := V.int ns[k.toNat]) (by simp [hn])
  rwa [Int.toNat_of_nonneg h0] at h
/-- an item at a drawn place -/
theorem atI_in {xs : List V} {d : Int} (h0 : 0 ≤ d) (h1 : d < xs.length) : ∃ v, v ∈ xs ∧ atI xs d = some v := by
  have hn : d.toNat < xs.length := by omega
  refine ⟨xs[d.toNat], List.getElem_mem hn, ?_⟩
  have h := atI_nat (xs := xs) (j := d.toNat) (v := xs[d.toNat]) (by simp [hn])
  rwa [Int.toNat_of_nonneg h0] at h
theorem iteTT {c A B : Prop} [Decidable c] (hc : c) (h : A) : if c then A else B := by rw [if_pos hc]; exact h
theorem iteFF {c A B : Prop} [Decidable c] (hc : ¬ c) (h : B) : if c then A else B := by rw [if_neg hc]; exact h
theorem bfalse {b : Bool} (h : ¬ b = true) : b = false := by cases b with | false => rfl | true => exact absurd rfl h
theorem Ext.same {b : Addr} {H Ha H2 : Hp} (s : Same H Ha) (x : Ext b Ha H2) (hb : H b = none) : Same H H2 := fun c o h => x.kp c o (s c o h) (ne_of_none h hb)
theorem Box.ne0 {H : Hp} {b p : Addr} (B : Box H b) (h : H p = none) : b ≠ p := by
  obtain ⟨o, hb, _⟩ := B
  exact ne_of_none hb h
end H1

set_option Elab.async false
set_option linter.all false
set_option maxRecDepth 100000
set_option maxHeartbeats 4000000
namespace HI
open PySem PyProof.Rows
section
variable {prog : Program} {w : World} {A : Around} {E : Value → Shared → Prop} {s : Shared}
/-- the next item of a tuple's iterator, as other iterators draw it -/
theorem drawT {j t : Addr} {i : Nat} {its : Array Value} {x : Value} {Q : Value → Shared → Prop} (hj : s.heap.IsTupleIter j t i) (ht : s.heap.IsTuple t its) (hx : its[i]? = some x)
    (k : ∀ h', h'.IsTupleIter j t (i + 1) → Heap.SameBut j s.heap h' → Q x { s with heap := h' }) : wpAny (model prog w) A (Builtin.SmallTypes.nextOf (.ref j)) Q E s := by
  obtain ⟨oj, ej, cj, dj⟩ := id hj; obtain ⟨ot, et, _, nt, dt⟩ := ht
  unfold Builtin.SmallTypes.nextOf
  refine wpAny_bind (wpAny_callSpecial?_slot (name := Str.ofString "__next__") hj.typeIs F.slot_tuple_iterator_next (wpAny_call_entry F.slot_tuple_iterator_next hj.typeIs F.entry_tuple_iterator_next ?_ (F.args_tuple_iterator_next_1 _)))
  refine wpAny_bind (m := field (.ref j) 0) (wpAny_field ej dj (x := .ref t) rfl ?_)
  show wpAny _ _ (if (Value.ref t == Value.none) = true then _ else field (.ref j) 1 >>= _) _ _ s
  rw [if_neg (by intro z; cases z)]
  refine wpAny_bind (m := field (.ref j) 1) (wpAny_field ej dj (x := .int i 0) rfl (wpAny_bind (m := seqItems? (.ref t)) (wpAny_seqItems et dt ?_)))
  simp only [Int.toNat_natCast, hx]
  refine wpAny_bind (wpAny_setField ej dj (by simp) (wpAny_pure ⟨_, rfl, wpAny_pure (k _ ?_ (Heap.SameBut.update ..))⟩))
  refine ⟨_, Heap.get?_update_self _ ej (Obj.isFreed_of_fields (Obj.data_mapFields dj _)), (Obj.cls_mapFields ..).trans cj, ?_⟩
  rw [Obj.data_mapFields dj]
  simp [rawInt]
/-- .. and its end -/
theorem drawT_end {j t : Addr} {i : Nat} {its : Array Value} {Q : Value → Shared → Prop} (hh : A.handled = none) (hj : s.heap.IsTupleIter j t i) (ht : s.heap.IsTuple t its) (hx : its[i]? = none)
    (k : ∀ h' e, Heap.ExtBut j s.heap h' → (∃ o, h'.get? e = some o ∧ o.cls = .type "StopIteration") → E (.ref e) { s with heap := h' }) : wpAny (model prog w) A (Builtin.SmallTypes.nextOf (.ref j)) Q E s := by
  obtain ⟨oj, ej, cj, dj⟩ := id hj; obtain ⟨ot, et, _, nt, dt⟩ := ht
  unfold Builtin.SmallTypes.nextOf
  refine wpAny_bind (wpAny_callSpecial?_slot (name := Str.ofString "__next__") hj.typeIs F.slot_tuple_iterator_next (wpAny_call_entry F.slot_tuple_iterator_next hj.typeIs F.entry_tuple_iterator_next ?_ (F.args_tuple_iterator_next_1 _)))
  refine wpAny_bind (m := field (.ref j) 0) (wpAny_field ej dj (x := .ref t) rfl ?_)
  show wpAny _ _ (if (Value.ref t == Value.none) = true then _ else field (.ref j) 1 >>= _) _ _ s
  rw [if_neg (by intro z; cases z)]
  refine wpAny_bind (m := field (.ref j) 1) (wpAny_field ej dj (x := .int i 0) rfl (wpAny_bind (m := seqItems? (.ref t)) (wpAny_seqItems et dt ?_)))
  simp only [Int.toNat_natCast, hx]
  refine wpAny_bind (wpAny_rule (wpAny_bind (wpAny_setField ej dj (by simp) ?_)))
  refine wpAny_bind (m := newExc (.type "StopIteration") []) ?_
  simp only [newExc, newTuple]
  refine wpAny_bind (wpAny_newObj_type (wpAny_bind (m := firstArgMember _ _) (wpAny_of_eq (a := Value.none) (by first | rfl | (simp only [firstArgMember]; rfl)) (wpAny_newObj_type ?_ (by size_fits)))) (by size_fits))
  simp only [raiseNew]
  refine wpAny_bind (wpAny_handled ?_)
  first
    | rw [show A.in1.handled = none from hh]
    | rw [hh]
  exact wpAny_bind (wpAny_pure (wpAny_throw (k _ _ (((Heap.SameBut.update ..).extBut.push _).push _) ⟨_, Heap.get?_push_size _ rfl, rfl⟩)))
end
theorem drawsT {prog : Program} {w : World} {A : Around} (hh : A.handled = none) (j t : Addr) (ne : t ≠ j) (its : Array Value) :
    Draws prog w A j [j, t] its.size (fun i v => its[i]? = some v) (fun i h => h.IsTupleIter j t i ∧ h.IsTuple t its) where
  live := fun _ _ st => by
    obtain ⟨⟨o, e, _⟩, _⟩ := st
    exact ⟨o, e⟩
  frame := fun _ _ _ st hk => by
    obtain ⟨⟨o, e, r⟩, ⟨u, f, q⟩⟩ := st
    exact ⟨⟨o, hk j (by simp) o e, r⟩, ⟨u, hk t (by simp) u f, q⟩⟩
  item := fun i s Q E hi st hQ => by
    refine drawT st.1 st.2 (x := its[i]) (by simp [hi]) fun h' h1 h2 => ?_
    obtain ⟨u, f, q⟩ := st.2
    exact hQ _ h' s.toks (by simp [hi]) ⟨h1, ⟨u, (h2.2 t ne).trans f, q⟩⟩ h2
  done := fun s Q E st hE => drawT_end hh st.1 st.2 (by simp) hE
/-- nothing more to draw -/
theorem drawsT_fin {prog : Program} {w : World} {A : Around} (hh : A.handled = none) (j t : Addr) (its : Array Value) (i : Nat) (hi : its.size ≤ i) :
    Draws prog w A j [j, t] 0 (fun _ _ => False) (fun _ h => h.IsTupleIter j t i ∧ h.IsTuple t its) where
  live := fun _ _ st => by
    obtain ⟨⟨o, e, _⟩, _⟩ := st
    exact ⟨o, e⟩
  frame := fun _ _ _ st hk => by
    obtain ⟨⟨o, e, r⟩, ⟨u, f, q⟩⟩ := st
    exact ⟨⟨o, hk j (by simp) o e, r⟩, ⟨u, hk t (by simp) u f, q⟩⟩
  item := fun i s Q E hi st hQ => absurd hi (Nat.not_lt_zero _)
  done := fun s Q E st hE => drawT_end hh st.1 st.2 (by simp [hi]) hE
open AutoSeq1 (wpAny_loadPart') in
/-- enumerate(t), t a tuple -/
theorem newEnumT (l : Addr) (its : Array Value) (n : Nat) (dct : Option Addr) (sl : Array (Option Value)) :
    Meets (Builtin.«enumerate.__new__» ⟨[.type "enumerate", .ref l], []⟩) (fun _ R s => s.heap.get? l = some { cls := .type "tuple", dict := dct, data := .seq its n, slots := sl } ∧
      R (.ok (.ret (.ref (s.heap.push { cls := .type "tuple_iterator", data := .fields #[.ref l, .int 0 0] }).objs.size)))
        { s with heap := (s.heap.push { cls := .type "tuple_iterator", data := .fields #[.ref l, .int 0 0] }).push { cls := .type "enumerate", data := .fields #[.none, .bool false, .ref s.heap.objs.size, rawInt 0, .none, .none] } }) :=
  .of_wp fun prog w A R s h => by
    obtain ⟨hp, g, d, tk, os⟩ := s
    obtain ⟨hl, h⟩ := h
    have hsub := sub_enumerate
    have hT : Heap.IsTuple (Shared.heap ⟨hp, g, d, tk, os⟩) l its := ⟨_, hl, rfl, n, rfl⟩
    wp_walk using wpAny_loadPart' hl
    refine wpAny_stack_any fun st => wpAny_pure ?_
    split
    · rename_i c _ _ _ _ _
      cases (c == Value.type "enumerate")
      all_goals
        wp_walk using wpAny_loadPart' hl, wpAny_pyIter_tuple hT
        exact ⟨_, rfl, h⟩
    · wp_walk using wpAny_loadPart' hl, wpAny_pyIter_tuple hT
      exact ⟨_, rfl, h⟩
section
variable {prog : Program} {w : World} {A : Around} {E : Value → Shared → Prop} {s : Shared}
theorem callEnumT {l : Addr} {its : Array Value} {Q : Value → Shared → Prop} (hL : s.heap.IsTuple l its)
    (h : ∀ h', IsEnum h' (s.heap.objs.size + 1) s.heap.objs.size 0 .none → h'.IsTupleIter s.heap.objs.size l 0 → h'.objs.size = s.heap.objs.size + 2 →
      (∀ b o, s.heap.get? b = some o → h'.get? b = some o) → Q (.ref (s.heap.objs.size + 1)) { s with heap := h' }) : wpAny (model prog w) A (call (.type "enumerate") [.ref l]) Q E s := by
  obtain ⟨⟨c, dct, dt, sl⟩, hl, hc, n, hd⟩ := hL
  replace hc : c = .type "tuple" := hc
  replace hd : dt = .seq its n := hd
  subst hc hd
  refine callType_new F.called_enumerate (by decide) (F.typeCall_enumerate_1 _) (F.newCall_enumerate_1 _) (fun obj => F.args_object_init_2 obj _) F.entry_enumerate_new (newEnumT l its n dct sl) ⟨hl, ?_⟩
  have hz : (s.heap.push { cls := .type "tuple_iterator", data := .fields #[.ref l, .int 0 0] }).objs.size = s.heap.objs.size + 1 := Heap.size_push ..
  show _ ∧ _
  rw [hz]
  have he : IsEnum ((s.heap.push { cls := .type "tuple_iterator", data := .fields #[.ref l, .int 0 0] }).push { cls := .type "enumerate", data := .fields #[.none, .bool false, .ref s.heap.objs.size, rawInt 0, .none, .none] }) (s.heap.objs.size + 1) s.heap.objs.size 0 .none := by
    have e := Heap.get?_push_size (s.heap.push { cls := .type "tuple_iterator", data := .fields #[.ref l, .int 0 0] }) (o := { cls := .type "enumerate", data := .fields #[.none, .bool false, .ref s.heap.objs.size, rawInt 0, .none, .none] }) rfl
    rw [hz] at e
    exact e
  exact ⟨⟨_, he, rfl⟩, h _ he ⟨_, Heap.get?_push_of_some _ (Heap.get?_push_size _ rfl), rfl, rfl⟩ (by rw [Heap.size_push, hz]) fun b o x => Heap.get?_push_of_some _ (Heap.get?_push_of_some _ x)⟩
end
end HI
namespace L2
open PySem PySem.Spec PyProof.Rows
/-- enumerate of the tuple at a: a new pair a turn -/
def Ite (K : PySem.W.Frag) (a : Addr) : It :=
  ⟨fun i H => ∃ xs x, SqT K H a xs ∧ xs[i]? = some x, fun i H v H' => ∃ p x, v = .ref p ∧ H p = none ∧ H' = upd H p (.tup [.int i, x]) ∧ ∀ xs, SqT K H a xs → xs[i]? = some x, fun i H => ∃ xs, SqT K H a xs ∧ xs.length ≤ i⟩
theorem turn_enum {P : Program} {w : World} {K : PySem.W.Frag} {es : List Expr} {k : Nat} {pos : Pos} (a it e : Addr) (hei : e ≠ it) :
    Turn P w K (.Tuple es k pos) (Ite K a) [e, it] e (fun i h => (∃ old, IsEnum h e it i old) ∧ h.IsTupleIter it a i) where
  mem := by simp
  obj := fun i h st b hb => by
    obtain ⟨⟨old, he⟩, o, ho, c, d⟩ := st
    rcases List.mem_cons.mp hb with rfl | hb
    · exact ⟨_, he, fun v z => by cases z⟩
    · rw [List.mem_singleton.mp hb]
      exact ⟨o, ho, fun v z => by rw [d] at z; cases z⟩
  keep := fun i h h' st kk => by
    obtain ⟨⟨old, he⟩, o, ho, r⟩ := st
    exact ⟨⟨old, kk e (by simp) _ he⟩, o, kk it (by simp) o ho, r⟩
  item := by
    intro X hP hw hK hc i pins s σ H E I hf st hg
    subst hP hw hK
    obtain ⟨xs, x, hq, hx⟩ := hg
    obtain ⟨its, rv, p, hz⟩ := I.tuple hq
    obtain ⟨u, hu, ru⟩ := rv.get hx
    obtain ⟨f0, f1, f2, f3, f4, f5⟩ := hf e (by simp)
    obtain ⟨g0, g1, g2, g3, g4, g5⟩ := hf it (by simp)
    obtain ⟨⟨old, he⟩, hit⟩ := st
    have hilt : i < its.length := (List.getElem?_eq_some_iff.mp hu).1
    have hai : a ≠ it := by
      intro z
      obtain ⟨o, eo, co, _⟩ := p
      obtain ⟨o2, eo2, co2, _⟩ := hit
      rw [z, eo2] at eo
      cases eo
      rw [co2] at co
      exact absurd co (by decide)
    have hae : e ≠ a := by
      intro z
      obtain ⟨o, eo, co, _⟩ := p
      rw [← z, he] at eo
      cases eo
      have co' : Value.type "enumerate" = Value.type "tuple" := co
      exact absurd co' (by decide)
    refine wpAny_pyNext_enum_itemD (HI.drawsT (prog := X.prog) (w := X.w) (A := X.A.in1) (show X.A.in1.handled = none from I.ok.hd hc) it a hai its.toArray) he ⟨hit, p⟩ (by simpa using hilt) hei (by simp [hei, hae]) fun x' h' tk hP ho hs hT hsz hk => ?_
    have ex : x' = u := by
      have q : its[i]? = some x' := by simpa using hP
      rw [hu] at q
      exact (Option.some.inj q).symm
    subst ex
    refine ⟨_, rfl, ?_⟩
    refine wpAny_letOwnedTupleGo_enum ho fun h2 he2 hs2 => ?_
    have nT : H s.heap.objs.size = none := I.hok.fresh (Nat.le_refl _)
    have heS : e < s.heap.objs.size := Heap.lt_size he
    have hiS : it < s.heap.objs.size := by obtain ⟨o, ho, _⟩ := hit; exact Heap.lt_size ho
    have hT2 : h2.get? s.heap.objs.size = some { cls := .type "tuple", data := .seq #[.int i tk, x'] } := (hs2.2 _ (Nat.ne_of_gt heS)).trans hT
    have kk : ∀ b o, b ≠ e → b ≠ it → s.heap.get? b = some o → h2.get? b = some o := fun b o h1 h2' q => (hs2.2 b h1).trans (hk b o h1 h2' q)
    have nit : ∀ b u, H b = some u → b ≠ e ∧ b ≠ it := fun b u q => ⟨fun z => (by rw [z, f0] at q; cases q), fun z => (by rw [z, g0] at q; cases q)⟩
    have ne1 : ∀ b u, H b = some u → b ≠ s.heap.objs.size := fun b u q => ne_of_none q nT
    have hok : HOk X.prog X.w (upd H s.heap.objs.size (.tup [.int i, x])) h2 := fun b ob q => by
      by_cases hb : b = s.heap.objs.size
      · subst hb
        rw [upd_same] at q
        cases q
        exact ⟨by show 2 ≤ sizeLine; decide, [.int i tk, x'], .cons ⟨tk, rfl⟩ (.cons ru .nil), ⟨_, hT2, rfl, _, rfl⟩⟩
      · rw [upd_ne hb] at q
        refine (I.hok b ob q).stay (fun c v hc' r => ?_) (fun c r => by rw [upd_ne (ne1 _ _ r)]; exact r) fun c ys r => by rw [upd_ne (ne1 _ _ r)]; exact r
        have nc : c ≠ e ∧ c ≠ it := by
          rcases hc' with z | z
          · rw [z]; exact nit b ob q
          · exact nit c _ z
        exact kk c v nc.1 nc.2 r
    have I2 : Inv X pins σ (upd H s.heap.objs.size (.tup [.int i, x])) { s with heap := h2, toks := tk + 1 } := by
      refine I.step (g' := s.gens) (d' := s.drawn) (ch := [e, it]) (fun b hb => ?_) (fun b o _ _ hc' q _ => kk b o (fun z => hc' (by simp [z])) (fun z => hc' (by simp [z])) q) (fun b o _ _ hc' q _ => ⟨o.slots, kk b o (fun z => hc' (by simp [z])) (fun z => hc' (by simp [z])) q⟩)
        (fun b o _ q n => by rw [upd_ne (Nat.ne_of_lt (Heap.lt_size q))]; exact n) (fun b o hc' q => ⟨o, kk b o (fun z => hc' (by simp [z])) (fun z => hc' (by simp [z])) q⟩) (fun b ys q => by rw [upd_ne (ne1 _ _ q)]; exact q) (fun b o u q => by rw [upd_ne (ne1 _ _ q)]; exact q)
        (fun b ps q => ⟨#[], by rw [upd_ne (ne1 _ _ q), q]; simp⟩) (fun m hm => ?_) hok I.bare
      · rcases List.mem_cons.mp hb with rfl | hb
        · exact ⟨f3, f1, f4, f5⟩
        · rw [List.mem_singleton.mp hb]
          exact ⟨g3, g1, g4, g5⟩
      · obtain ⟨o, es', ep, ho', r⟩ := hm
        exact ⟨o, es', ep, kk _ o (Ne.symm f1) (Ne.symm g1) ho', r⟩
    refine ⟨.ref s.heap.objs.size, _, I2, rfl, ⟨_, x, rfl, nT, rfl, fun ys hy => by rw [I.tuple_inj hy hq]; exact hx⟩, ⟨⟨x', by simpa using he2⟩, ?_⟩, fun b hb => ?_⟩
    · obtain ⟨⟨o, eo, r⟩, _⟩ := hs
      exact ⟨o, (hs2.2 it (Ne.symm hei)).trans eo, r⟩
    · rcases List.mem_cons.mp hb with rfl | hb
      · rw [upd_ne (Nat.ne_of_lt heS)]; exact f0
      · rw [List.mem_singleton.mp hb, upd_ne (Nat.ne_of_lt hiS)]; exact g0
  done := by
    intro X hP hw hK hc i pins s σ H E I hf st hg
    subst hP hw hK
    obtain ⟨xs, hq, hx⟩ := hg
    obtain ⟨its, rv, p, hz⟩ := I.tuple hq
    obtain ⟨g0, g1, g2, g3, g4, g5⟩ := hf it (by simp)
    obtain ⟨⟨old, he⟩, hit⟩ := st
    have hl := rv.length
    exact wpAny_pyNext_enum_endD (HI.drawsT_fin (prog := X.prog) (w := X.w) (A := X.A.in1) (show X.A.in1.handled = none from I.ok.hd hc) it a its.toArray i (by simp; omega)) he ⟨hit, p⟩ fun h' eb => ⟨rfl, I.turned (t' := s.toks) (fun b o hb e => eb b o hb e) g0 g1 g3 g4 g5⟩
  self := fun _ _ _ _ _ st h => by
    obtain ⟨⟨old, he⟩, _⟩ := st
    exact wpAny_pyIter_enum he h
section
variable {X : Cx}
def iEnum (K : PySem.W.Frag) (ta : TA) : TI := fun σ H R => ta σ H fun vs H1 => ∃ a, vs = [.ref a] ∧ (∃ xs, SqT K H1 a xs) ∧ R (Ite K a) H1
theorem pi_enumerate {es : List Expr} {k : Nat} {tpos : Pos} {a : Expr} {ta : TA} {p pos : Pos} (hg : Gl X "enumerate") (hm : X.mg "enumerate" = none) (ha : PA X [a] ta) (hs : starEach [a] X.env = [(false, eval a X.env)] := by rfl) :
    PI X (.Tuple es k tpos) (.Call (.Name "enumerate" p) [a] [] pos) (iEnum X.K ta) := by
  intro pins s σ H R I h
  refine Call_ (ld_blt I hg hm boot_enumerate (PyProof.Rows.callWith_type1 (thn (ha pos pins s σ H _ I h) fun us s1 ⟨vs, H1, I1, r1, q1⟩ => ?_) hs rfl))
  obtain ⟨l, e, ⟨xs, hq⟩, q⟩ := q1
  subst e
  cases r1 with
  | cons r rr =>
    cases rr
    cases r
    obtain ⟨its, rv, pt, hz⟩ := I1.tuple hq
    refine HI.callEnumT (show s1.heap.IsTuple l its.toArray from pt) fun h' he hit hsz hk => ?_
    have I2 : Inv X pins σ H1 { s1 with heap := h' } := I1.kept (t' := s1.toks) hk
    refine wpAny_pyIter_enum he ⟨s1.heap.objs.size + 1, [s1.heap.objs.size + 1, s1.heap.objs.size], _, _, H1, rfl, I2, turn_enum l s1.heap.objs.size _ (Nat.succ_ne_self _), ⟨⟨_, he⟩, hit⟩, fun b hb => ?_, q⟩
    have hb' : s1.heap.objs.size ≤ b := by
      rcases List.mem_cons.mp hb with e | hb
      · rw [e]; exact Nat.le_succ _
      · rw [List.mem_singleton.mp hb]; exact Nat.le_refl _
    have F0 := I1.fpOk hb' (I1.hok.fresh hb')
    exact F0
end
/-- over enumerate of a tuple that stays -/
theorem for_enum {K : PySem.W.Frag} {a : Addr} {xs : List V} {g : TG} {tb : TS} {D : Ends} {σ : St} {H : Hp} (Pv : Nat → St → Hp → Prop) (h0 : Pv 0 σ H) (hl : ∀ i σ H, i ≤ xs.length → Pv i σ H → SqT K H a xs)
    (hs : ∀ i x σ H p, xs[i]? = some x → Pv i σ H → H p = none → g (.ref p) σ (upd H p (.tup [.int i, x])) fun σ2 H2 => tb { D with nx := Pv (i + 1), ct := Pv (i + 1), bk := D.nx } σ2 H2) (hd : ∀ σ H, Pv xs.length σ H → D.nx σ H) :
    ∃ W : Nat → Nat → St → Hp → Prop, (∃ m, W 0 m σ H) ∧ ∀ i m σ H, W i m σ H →
      ((Ite K a).stop i H ∧ D.nx σ H) ∨ ((Ite K a).go i H ∧ ∃ N : St → Hp → Prop, (∀ σ' H', N σ' H' → ∃ m', m' < m ∧ W (i + 1) m' σ' H') ∧ ∀ x H', (Ite K a).yld i H x H' → g x σ H' fun σ2 H2 => tb { D with nx := N, ct := N, bk := D.nx } σ2 H2) := by
  refine ⟨fun i m σ H => m = xs.length - i ∧ i ≤ xs.length ∧ Pv i σ H, ⟨xs.length, by simp, Nat.zero_le _, h0⟩, ?_⟩
  rintro i m σ H ⟨rfl, hi, p⟩
  have q := hl i σ H hi p
  by_cases hlt : i < xs.length
  · refine .inr ⟨⟨xs, xs[i], q, by simp [hlt]⟩, Pv (i + 1), fun σ' H' p' => ⟨xs.length - (i + 1), by omega, rfl, hlt, p'⟩, fun v H' y => ?_⟩
    obtain ⟨pp, x, rfl, hp, rfl, y⟩ := y
    exact hs i x σ _ pp (y xs q) p hp
  · have e : i = xs.length := by omega
    subst e
    exact .inl ⟨⟨xs, q, Nat.le_refl _⟩, hd σ H p⟩
end L2

set_option Elab.async false
set_option linter.all false
set_option maxRecDepth 100000
set_option maxHeartbeats 4000000
namespace L2
open PySem PySem.Spec PyProof.Rows
/-- the cells that a comprehension's block captures -/
theorem clos_ok {env : Env} (ns : List (Str × NameKind)) (h : ∀ x ∈ ns, x.2 = .free → ∃ c, env.cells.lookup x.1 = some c) : ∀ cs : List (Str × Addr),
    ∃ cl : List (Str × Addr), (forIn ns cs fun x r => do
      let mut cs := r
      if x.2 == .free then cs := (x.1, ← cellOf env x.1) :: cs
      pure (ForInStep.yield cs) : Sem (List (Str × Addr))) = pure cl ∧
      (∀ x c, cl.lookup x = some c → cs.lookup x = some c ∨ env.cells.lookup x = some c) ∧
      (∀ x, (cs.lookup x).isSome = true → (cl.lookup x).isSome = true) ∧ ∀ x, (x, NameKind.free) ∈ ns → (cl.lookup x).isSome = true := by
  induction ns with
  | nil => exact fun cs => ⟨cs, rfl, fun _ _ e => .inl e, fun _ e => e, fun _ z => nomatch z⟩
  | cons y r ih =>
    intro cs
    obtain ⟨n, k⟩ := y
    have ih := ih fun x hx => h x (List.mem_cons_of_mem _ hx)
    by_cases hk : k = .free
    · subst hk
      obtain ⟨c, hc⟩ := h (n, .free) List.mem_cons_self rfl
      obtain ⟨cl, e, p1, p2, p3⟩ := ih ((n, c) :: cs)
      refine ⟨cl, ?_, fun x c' q => ?_, fun x q => p2 x ?_, fun x q => ?_⟩
      · rw [List.forIn_cons]
        have hce : cellOf env n = pure c := by
          unfold cellOf
          rw [show env.cells.lookup n = some c from hc]
        simp only [beq_self_eq_true, if_true]
        rw [hce]
        exact e
      · rcases p1 x c' q with q | q
        · rw [List.lookup_cons] at q
          cases hx : x == n with
          | true => rw [hx] at q; cases q; rw [eq_of_beq hx]; exact .inr hc
          | false => rw [hx] at q; exact .inl q
        · exact .inr q
      · rw [List.lookup_cons]
        cases hx : x == n with
        | true => rfl
        | false => exact q
      · rcases List.mem_cons.mp q with z | z
        · cases z
          exact p2 _ (by rw [List.lookup_cons]; simp)
        · exact p3 x z
    · obtain ⟨cl, e, p1, p2, p3⟩ := ih cs
      refine ⟨cl, ?_, p1, p2, fun x q => ?_⟩
      · rw [List.forIn_cons]
        have hb : (k == NameKind.free) = false := by simpa using hk
        simp only [hb]
        exact e
      · rcases List.mem_cons.mp q with z | z
        · cases z; exact absurd rfl hk
        · exact p3 x z
theorem closureFor_ok {env : Env} {scope : Scope} (h : ∀ x ∈ scope.names, x.2 = .free → ∃ c, env.cells.lookup x.1 = some c) :
    ∃ cl : List (Str × Addr), closureFor scope env = pure cl ∧ (∀ x c, cl.lookup x = some c → env.cells.lookup x = some c) ∧ ∀ x, (x, NameKind.free) ∈ scope.names → (cl.lookup x).isSome = true := by
  obtain ⟨cl, e, p1, _, p3⟩ := clos_ok scope.names h []
  refine ⟨cl, ?_, fun x c q => (p1 x c q).elim (fun z => by cases z) id, p3⟩
  unfold closureFor
  have e2 : (forIn scope.names ([] : List (Str × Addr)) fun x r => do
      let mut cs := r
      if x.2 == .free then cs := (x.1, ← cellOf env x.1) :: cs
      pure (ForInStep.yield cs) : Sem (List (Str × Addr))) >>= (fun cs => pure cs) = pure cl := by rw [e]; rfl
  exact e2
/-- a comprehension's block, at its entry -/
abbrev blk (X : Cx) (N : List Str) (env : Env) (s : Shared) (H : Hp) (ex : List Addr) : Cx := { X with N := N, s₀ := s, H₀ := H, env := env, outer := X.stack, stack := X.stack, ex := ex, fn := fun _ => false, pn := [], xe := fun _ _ => False }
section
variable {X : Cx} {pins : List (Addr × Obj)} {σ : St} {H : Hp} {s : Shared} {fp : List Addr} {env : Env} {N : List Str}
theorem blk_ok (I : Inv X pins σ H s) (hf : ∀ b ∈ fp, FpOk X pins H b) (hob : ∀ b ∈ fp, ∃ o, s.heap.get? b = some o) (hC : s.heap.objs.size ≤ env.locals) (hk : env.scope.kind = .function) (hg : env.globals = X.env.globals) (hb : env.builtins = X.env.builtins)
    (hsub : ∀ x c, env.cells.lookup x = some c → X.env.cells.lookup x = some c) (hhas : ∀ x, (env.kindOf x = some .cell ∨ env.kindOf x = some .free) → ∃ c, env.cells.lookup x = some c) : (blk X N env s H fp).Ok where
  mod := I.ok.mod
  kind := hk
  glob := hg.trans I.ok.glob
  blt := hb.trans I.ok.blt
  above := hC
  inj := fun x y c e1 e2 => I.ok.inj x y c (hsub x c e1) (hsub y c e2)
  has := hhas
  cab := fun _ _ z => by cases z
  hd := I.ok.hd
  frames := I.ok.frames
  stk := .inl rfl
  exf := fun b hb' => by
    obtain ⟨o, e⟩ := hob b hb'
    exact ⟨Nat.ne_of_lt (Nat.lt_of_lt_of_le (Heap.lt_size e) hC), fun x c q => (hf b hb').2.2.2.2.1 x c (hsub x c q)⟩
  bs := I.bs
  bsz := Nat.le_trans I.ok.bsz I.sz
  noex := fun b o e hb' => by
    rcases (hf b hb').2.2.2.1 with z | z
    · exact I.ok.noex b o e z
    · exact absurd (Nat.lt_of_lt_of_le (Heap.lt_size e) (Nat.le_trans I.ok.bsz z)) (Nat.lt_irrefl _)
  exfs := fun b hb' z => by
    rcases List.mem_cons.mp (I.stkSub b z) with q | q
    · exact (hf b hb').2.1 q
    · exact (hf b hb').2.2.1 q
  funs := I.stack
  frf := I.stkFree
theorem blk_inv {h1 : Heap} {tk : Nat} {σ' : St} {m : Str → Option Value} (I : Inv X pins σ H s) (hf : ∀ b ∈ fp, FpOk X pins H b) (hob : ∀ b ∈ fp, ∃ o, s.heap.get? b = some o) (hC : s.heap.objs.size ≤ env.locals) (hk : env.scope.kind = .function) (hg : env.globals = X.env.globals) (hb : env.builtins = X.env.builtins)
    (hsub : ∀ x c, env.cells.lookup x = some c → X.env.cells.lookup x = some c) (hhas : ∀ x, (env.kindOf x = some .cell ∨ env.kindOf x = some .free) → ∃ c, env.cells.lookup x = some c)
    (keep : ∀ b u, s.heap.get? b = some u → h1.get? b = some u) (hn : h1.Ns env.locals m) (hlen : σ'.length = N.length)
    (hcap : ∀ (i : Nat) (x : Str) (v : V), N[i]? = some x → σ'[i]? = some (some v) → (env.kindOf x = some .cell ∨ env.kindOf x = some .free) ∧ X.env.kindOf x ≠ some .local ∧ Vis X.env.scope x ∧ ∃ j : Nat, X.N[j]? = some x ∧ σ[j]? = some (some v)) :
    Inv (blk X N env s H fp) [] σ' H { s with heap := h1, toks := tk } where
  ok := blk_ok I hf hob hC hk hg hb hsub hhas
  os := rfl
  bare := I.bare
  base := Un.kept keep
  loc := ⟨m, hn, fun i x v e1 e2 _ => by
    obtain ⟨k1, k2, k3, j, e3, e4⟩ := hcap i x v e1 e2
    obtain ⟨m0, _, hl⟩ := I.loc
    obtain ⟨u, r, l⟩ := hl j x v e3 e4 k3
    refine ⟨u, r, ?_⟩
    rcases l with ⟨z, _⟩ | ⟨_, c, ec, o, ho, hd⟩
    · exact absurd z k2
    · obtain ⟨c', ec'⟩ := hhas x k1
      have ee : c' = c := by
        have q := hsub x c' ec'
        rw [ec] at q
        exact (Option.some.inj q).symm
      subst ee
      exact .inr ⟨k1, c', ec', o, keep _ _ ho, hd⟩⟩
  cell := fun x c e => by
    obtain ⟨v, o, ho, hd⟩ := I.cell x c (hsub x c e)
    exact ⟨v, o, keep _ _ ho, hd⟩
  free := I.hok.fresh hC
  freeC := fun x c e => I.freeC x c (hsub x c e)
  pin := fun p hp => by cases hp
  hok := I.hok.kept keep
  len := hlen
theorem Un.but {fs ex : List Addr} {H H' : Hp} {h h1 h2 : Heap} {C : Addr} (u : Un fs ex H H' h h1) (sb : Heap.SameBut C h1 h2) (hC : h.objs.size ≤ C) : Un fs ex H H' h h2 := by
  have k : ∀ b o, h.get? b = some o → h2.get? b = h1.get? b := fun b o e => sb.2 b (Nat.ne_of_lt (Nat.lt_of_lt_of_le (Heap.lt_size e) hC))
  exact ⟨fun b o e n h3 h4 => (k b o e).trans (u.keep b o e n h3 h4), fun b o e n h3 h4 => by
    obtain ⟨sl, q⟩ := u.slot b o e n h3 h4
    exact ⟨sl, (k b o e).trans q⟩, u.free, fun b o e h3 => by
    obtain ⟨o', q⟩ := u.there b o e h3
    exact ⟨o', (k b o e).trans q⟩, u.tups, u.frzs, u.tbls⟩
/-- behind the block: the def's own state again -/
theorem blk_out {σ' : St} {H' : Hp} {s' : Shared} {h2 : Heap} (I : Inv X pins σ H s) (hf : ∀ b ∈ fp, FpOk X pins H b) (hC : s.heap.objs.size ≤ env.locals) (J : Inv (blk X N env s H fp) [] σ' H' s') (sb : Heap.SameBut env.locals s'.heap h2) : Inv X pins σ H' { s' with heap := h2 } := by
  refine I.call' (ch := fp) J.os (J.base.but sb hC) (fun b u e => ?_) J.bare fun b hb => ⟨(hf b hb).2.2.2.1, (hf b hb).2.1, (hf b hb).2.2.2.2.1, (hf b hb).2.2.2.2.2⟩
  refine (J.hok b u e).stay (fun c v hc q => (sb.2 c ?_).trans q) (fun _ q => q) fun _ _ q => q
  intro z
  have n := J.free
  rcases hc with q | q
  · rw [← q, z] at e
    rw [e] at n; cases n
  · rw [z] at q
    rw [q] at n; cases n
end

/-! ### the loop of a comprehension -/
/-- the block's own names are forgotten between two turns -/
def Wk (a b : St) : Prop := a.length = b.length ∧ ∀ (i : Nat) (v : V), a[i]? = some (some v) → b[i]? = some (some v)
theorem Wk.refl {a : St} : Wk a a := ⟨rfl, fun _ _ h => h⟩
theorem Wk.set {a b : St} {i : Nat} {v : Option V} (h : a[i]? = some none) (w : Wk a b) : Wk a (b.set i v) := by
  refine ⟨by rw [List.length_set]; exact w.1, fun j u e => ?_⟩
  have : i ≠ j := fun z => by rw [z, e] at h; cases h
  rw [List.getElem?_set_ne this]
  exact w.2 j u e
/-- the tests behind a comprehension's for -/
def PTs (X : Cx) (ifs : List Expr) (t : TT) : Prop :=
  ∀ (pins : List (Addr × Obj)) (s : Shared) (σ : St) (H : Hp) (Q : Bool → Hp → Prop), Inv X pins σ H s → t σ H Q →
    wpAny (model X.prog X.w) X.A (forIn ifs true fun c r => if r = true then do let ok ← isTrue c X.env (eval c X.env); pure (ForInStep.yield ok) else pure (ForInStep.yield r)) (TP X pins σ Q) X.xe s
def tYes : TT := fun _ H Q => Q true H
theorem pts_nil {X : Cx} : PTs X [] tYes := fun _ _ _ H _ I h => wpAny_tests_nil ⟨H, I, h⟩
theorem pts_one {X : Cx} {c : Expr} {t : TT} (h : PT X c t) : PTs X [c] t := fun pins s σ H Q I hw => wpAny_tests_one (h pins s σ H Q I hw)
def LoopC (J : It) (g : TG) (tt : TT) (te : TE) (σ0 : St) (D : Addr) (Q : VK) (H1 : Hp) : Prop :=
  ∃ W : Nat → Nat → List V → Hp → Prop, (∃ m, W 0 m [] H1) ∧ ∀ i m acc H, W i m acc H →
    (J.stop i H ∧ Q (.ref D) H) ∨ (J.go i H ∧ ∃ N : List V → Hp → Prop, (∀ acc' H', N acc' H' → ∃ m', m' < m ∧ W (i + 1) m' acc' H') ∧
      ∀ x H', J.yld i H x H' → g x σ0 H' fun σ2 H2 => Wk σ0 σ2 ∧ tt σ2 H2 fun b H3 => if b = true then te σ2 H3 fun y H4 => H4 D = some (.lst acc) ∧ acc.length < sizeLine ∧ N (acc ++ [y]) (upd H4 D (.lst (acc ++ [y]))) else N acc H3)
theorem comp_loop {Y : Cx} {tg elt iter : Expr} {ifs : List Expr} {scope : Scope} {pos : Pos} {it D : Addr} {J : It} {fp : List Addr} {tn : Nat → Heap → Prop} {g : TG} {tt : TT} {te : TE} {σ0 : St} {Q : VK} {R : Result → Shared → Prop} {H : Hp} {s : Shared}
    (hc : Y.calm = true) (T : Turn Y.prog Y.w Y.K tg J fp it tn) (hfp : ∀ H, (∀ b ∈ fp, H b = none) → ∀ b ∈ fp, FpOk Y [] H b) (hg : PG Y tg g) (ht : PTs Y ifs tt) (he : PE Y elt te) (hxe : ∀ e s, ¬ Y.xe e s)
    (hR : ∀ H' s', Inv Y [] σ0 H' s' → Q (.ref D) H' → R (.ok .next) s') (I : Inv Y [] σ0 H s) (st : tn 0 s.heap) (fr : ∀ b ∈ fp, H b = none) (hw : LoopC J g tt te σ0 D Q H) :
    codeAny (model Y.prog Y.w) Y.A (.compLoop (.ListComp elt [⟨tg, iter, ifs, 0⟩] scope pos) 0 (.ref it) (.ref D) Y.env) R s := by
  obtain ⟨W, ⟨m0, w0⟩, turn⟩ := hw
  refine codeAny_loop rfl (fun n s' => ∃ i H' acc, Inv Y [] σ0 H' s' ∧ tn i s'.heap ∧ (∀ b ∈ fp, H' b = none) ∧ W i n acc H') ?_ m0 ⟨0, H, [], I, st, fr, w0⟩
  rintro n s3 ⟨i, H3, acc, I3, st3, fr3, w3⟩
  show wpAny _ Y.A ((compTurn (.ListComp elt [⟨tg, iter, ifs, 0⟩] scope pos) 0 (.ref it) (.ref D) Y.env).onRaise (fun x => do noteFrame x Y.env; theTreesLotGoes x)) _ _ s3
  refine wpAny_noted ?_
  rw [compTurn_list]
  refine wpAny_bind (wpAny_standAt (wpAny_bind ?_))
  rcases turn i n acc H3 w3 with ⟨stop, qn⟩ | ⟨go, N, hN, step⟩
  · refine thn (T.done Y rfl rfl rfl hc i [] s3 σ0 H3 _ I3 (hfp H3 fr3) st3 stop) fun r s4 ⟨hr, I4⟩ => ?_
    subst hr
    exact wpAny_pure (hR H3 s4 I4 qn)
  · refine thn (T.item Y rfl rfl rfl hc i [] s3 σ0 H3 _ I3 (hfp H3 fr3) st3 go) fun r s4 ⟨u, hr, h4⟩ => ?_
    subst hr
    refine wpAny_bind (thn h4 fun _ s5 ⟨x, H5, I5, r5, y5, st5, fr5⟩ => ?_)
    have I5' : Inv Y (pinsAt fp s5.heap) σ0 H5 s5 := by
      have q := I5.pinned (hfp H5 fr5) (T.obj _ _ st5)
      rwa [List.nil_append] at q
    have again : ∀ {σ7 : St} {H7 : Hp} {acc7 : List V} {s7 : Shared}, Inv Y (pinsAt fp s5.heap) σ7 H7 s7 → Wk σ0 σ7 → N acc7 H7 → ∃ m, m < n ∧ ∃ i H' acc, Inv Y [] σ0 H' s7 ∧ tn i s7.heap ∧ (∀ b ∈ fp, H' b = none) ∧ W i m acc H' := fun {σ7 H7 acc7 s7} I7 wk n7 => by
      obtain ⟨m', hm, w7⟩ := hN acc7 H7 n7
      have I8 : Inv Y [] σ0 H7 s7 := (I7.weak wk.1 wk.2).pins_of fun p hp => nomatch hp
      refine ⟨m', hm, i + 1, H7, acc7, I8, T.keep _ _ _ st5 fun b hb o e => (I7.pin (b, o) (List.mem_append_right _ (mem_pinsAt hb e))).1, fun b hb => ?_, w7⟩
      obtain ⟨o, e, d⟩ := T.obj _ _ st5 b hb
      exact (I7.pin (b, o) (List.mem_append_right _ (mem_pinsAt hb e))).2.1
    refine wpAny_bind (wpAny_mono (hg _ s5 σ0 H5 x u _ I5' r5 (step x H5 y5)) (fun _ s6 ⟨σ6, H6, I6, wk, q6⟩ => ?_) fun _ _ z => (hxe _ _ z).elim)
    refine wpAny_bind (wpAny_mono (ht _ s6 σ6 H6 _ I6 q6) (fun ok s7 ⟨H7, I7, q7⟩ => ?_) fun _ _ z => (hxe _ _ z).elim)
    cases ok with
    | false => exact wpAny_pure ⟨rfl, again I7 wk q7⟩
    | true =>
      refine wpAny_bind (wpAny_bind (wpAny_mono (he _ s7 σ6 H7 _ I7 q7) (fun y s8 ⟨v, H8, I8, r8, hD, hz, q8⟩ => ?_) fun _ _ z => (hxe _ _ z).elim))
      refine wpAny_bind (wpAny_mono (mt_append _ s8 σ6 H8 (.ref D) [v] (.ref D) [y] (fun _ H9 => N (acc ++ [v]) H9) I8 rfl (.cons r8 .nil) ⟨D, acc, v, rfl, rfl, hD, hz, q8⟩) (fun _ s9 ⟨_, H9, I9, _, q9⟩ => ?_) fun _ _ z => (hxe _ _ z).elim)
      exact wpAny_pure (wpAny_pure ⟨rfl, again I9 wk q9⟩)
/-! ### the comprehension -/
/-- what a comprehension captures: N the block's names (its own, then those captured), cap the slot of each captured one; sc, NX: the def's scope and names -/
def capB (sc scope : Scope) (NX N : List Str) (own : Nat) (cap : List Nat) : Bool :=
  (scope.kind == .function) && scope.names.all (fun y => y.2 != .cell && (y.2 != .local || scope.names.lookup y.1 == some .local) && (y.2 != .free || sc.names.lookup y.1 == some .cell || sc.names.lookup y.1 == some .free)) &&
  (N.length == own + cap.length) && ((N.drop own).zip cap).all (fun p => NX[p.2]? == some p.1 && scope.names.lookup p.1 == some .free && (sc.names.lookup p.1 == some .cell || sc.names.lookup p.1 == some .free))
structure CapOk (sc scope : Scope) (NX N : List Str) (own : Nat) (cap : List Nat) : Prop where
  kind : scope.kind = .function
  nocell : ∀ y ∈ scope.names, y.2 ≠ .cell
  names : ∀ y ∈ scope.names, y.2 = .local → scope.names.lookup y.1 = some .local
  free : ∀ y ∈ scope.names, y.2 = .free → sc.names.lookup y.1 = some .cell ∨ sc.names.lookup y.1 = some .free
  len : N.length = own + cap.length
  caps : ∀ p ∈ (N.drop own).zip cap, NX[p.2]? = some p.1 ∧ scope.names.lookup p.1 = some .free ∧ (sc.names.lookup p.1 = some .cell ∨ sc.names.lookup p.1 = some .free)
theorem capOk_of {sc scope : Scope} {NX N : List Str} {own : Nat} {cap : List Nat} (h : capB sc scope NX N own cap = true) : CapOk sc scope NX N own cap := by
  unfold capB at h
  simp only [Bool.and_eq_true, List.all_eq_true, Bool.or_eq_true, beq_iff_eq, bne_iff_ne, ne_eq] at h
  obtain ⟨⟨⟨h1, h2⟩, h3⟩, h4⟩ := h
  refine ⟨h1, fun y hy => (h2 y hy).1.1, fun y hy e => ?_, fun y hy e => ?_, h3, fun p hp => ?_⟩
  · rcases (h2 y hy).1.2 with z | z
    · exact absurd e z
    · exact z
  · rcases (h2 y hy).2 with (z | z) | z
    · exact absurd e z
    · exact .inl z
    · exact .inr z
  · obtain ⟨⟨a, b⟩, c⟩ := h4 p hp
    exact ⟨a, b, c⟩
def capS (own : Nat) (cap : List Nat) (σ : St) : St := List.replicate own none ++ cap.map fun j => (σ[j]?).join
theorem relabel_lookup {env : Env} : ∀ {names : List (Str × NameKind)} {x : Str} {k : NameKind}, (names.map fun (n, k) => if (k == NameKind.free && env.scope.kind == .function && env.kindOf n == some .cell) then (n, NameKind.cell) else (n, k)).lookup x = some k →
    ∃ k0, names.lookup x = some k0 ∧ (k = k0 ∨ (k0 = .free ∧ k = .cell))
  | [], _, _, h => by simp at h
  | (n, k0) :: r, x, k, h => by
    have h' : List.lookup x ((if (k0 == NameKind.free && env.scope.kind == .function && env.kindOf n == some .cell) = true then (n, NameKind.cell) else (n, k0)) :: (r.map fun (n, k) => if (k == NameKind.free && env.scope.kind == .function && env.kindOf n == some .cell) then (n, NameKind.cell) else (n, k))) = some k := h
    cases hx : x == n with
    | true =>
      by_cases hc : (k0 == NameKind.free && env.scope.kind == .function && env.kindOf n == some .cell) = true
      · rw [if_pos hc, List.lookup_cons, hx] at h'
        cases h'
        rw [Bool.and_eq_true, Bool.and_eq_true] at hc
        exact ⟨k0, by rw [List.lookup_cons, hx], .inr ⟨by simpa using hc.1.1, rfl⟩⟩
      · rw [if_neg hc, List.lookup_cons, hx] at h'
        cases h'
        exact ⟨k0, by rw [List.lookup_cons, hx], .inl rfl⟩
    | false =>
      have h2 : (r.map fun (n, k) => if (k == NameKind.free && env.scope.kind == .function && env.kindOf n == some .cell) then (n, NameKind.cell) else (n, k)).lookup x = some k := by
        by_cases hc : (k0 == NameKind.free && env.scope.kind == .function && env.kindOf n == some .cell) = true
        · rw [if_pos hc, List.lookup_cons, hx] at h'; exact h'
        · rw [if_neg hc, List.lookup_cons, hx] at h'; exact h'
      obtain ⟨k1, e1, r1⟩ := relabel_lookup h2
      exact ⟨k1, by rw [List.lookup_cons, hx]; exact e1, r1⟩
theorem lookup_relabel_free {env : Env} : ∀ {names : List (Str × NameKind)} {x : Str}, names.lookup x = some .free →
    (names.map fun (n, k) => if (k == NameKind.free && env.scope.kind == .function && env.kindOf n == some .cell) then (n, NameKind.cell) else (n, k)).lookup x = some .cell ∨ (names.map fun (n, k) => if (k == NameKind.free && env.scope.kind == .function && env.kindOf n == some .cell) then (n, NameKind.cell) else (n, k)).lookup x = some .free
  | [], _, h => by simp at h
  | (n, k0) :: r, x, h => by
    show List.lookup x ((if (k0 == NameKind.free && env.scope.kind == .function && env.kindOf n == some .cell) = true then (n, NameKind.cell) else (n, k0)) :: _) = _ ∨ List.lookup x ((if (k0 == NameKind.free && env.scope.kind == .function && env.kindOf n == some .cell) = true then (n, NameKind.cell) else (n, k0)) :: _) = _
    rw [List.lookup_cons] at h
    cases hx : x == n with
    | true =>
      rw [hx] at h
      cases h
      by_cases hc : (NameKind.free == NameKind.free && env.scope.kind == .function && env.kindOf n == some .cell) = true
      · rw [if_pos hc, List.lookup_cons, hx]; exact .inl rfl
      · rw [if_neg hc, List.lookup_cons, hx]; exact .inr rfl
    | false =>
      rw [hx] at h
      have ih := lookup_relabel_free (env := env) h
      by_cases hc : (k0 == NameKind.free && env.scope.kind == .function && env.kindOf n == some .cell) = true
      · rw [if_pos hc, List.lookup_cons, hx]; exact ih
      · rw [if_neg hc, List.lookup_cons, hx]; exact ih

def tComp (own : Nat) (cap : List Nat) (wi : TI) (g : TG) (tt : TT) (te : TE) : TE := fun σ H Q => wi σ H fun J H1 => ∀ D, H1 D = none → LoopC J g tt te (capS own cap σ) D Q (upd H1 D (.lst []))
section
variable {X : Cx} {tg elt iter : Expr} {ifs : List Expr} {scope sc : Scope} {pos : Pos} {wi : TI} {g : TG} {tt : TT} {te : TE} {N NX : List Str} {own : Nat} {cap : List Nat}
/-- the block, from the iterator on; what is behind it is told for every heap that differs at the block's own names alone -/
theorem comp_block {pins : List (Addr × Obj)} {σ : St} {s2 : Shared} {itv : Value} {Q : VK} {E : Value → Shared → Prop} {R : Value → Addr → Result → Shared → Prop} {cl : List (Str × Addr)} (hc : X.calm = true) (hsc : X.env.scope = sc) (hNX : X.N = NX) (co : CapOk sc scope NX N own cap)
    (hsub : ∀ x c, cl.lookup x = some c → X.env.cells.lookup x = some c) (hall : ∀ x, (x, NameKind.free) ∈ scope.names → (cl.lookup x).isSome = true)
    (hb : ∀ cl C s0 H0 fp, PG (blk X N (compEnvC scope cl C X.env) s0 H0 fp) tg g ∧ PTs (blk X N (compEnvC scope cl C X.env) s0 H0 fp) ifs tt ∧ PE (blk X N (compEnvC scope cl C X.env) s0 H0 fp) elt te)
    (h2 : PIE X pins σ tg (fun J H1 => ∀ D, H1 D = none → LoopC J g tt te (capS own cap σ) D Q (upd H1 D (.lst []))) itv s2)
    (hR : ∀ D C H' s', FpOk X pins H' C → (∃ m, s'.heap.Ns C m) → (∀ h', Heap.SameBut C s'.heap h' → Inv X pins σ H' { s' with heap := h' }) → Q (.ref D) H' → R (.ref D) C (.ok .next) s') :
    wpAny (model X.prog X.w) X.A (newList []) (fun acc s3 => wpAny (model X.prog X.w) X.A (newFunctionEnv scope X.env.globals cl [] X.env.qual none .none (some X.env)) (fun cenv s4 =>
      codeAny (model X.prog X.w) X.A (.compStart (.ListComp elt [⟨tg, iter, ifs, 0⟩] scope pos) 0 itv acc { cenv with scope := relabel scope X.env }) (R acc cenv.locals) s4) E s3) E s2 := by
  obtain ⟨it, fp, tn, J, H2, rfl, I2, T, st2, f2, hloop⟩ := h2
  refine wpAny_newObj_type (wpAny_newFunctionEnv co.nocell (by intro y hy; simp at hy) (fun h1 hns hsb => ?_) co.kind)
  have fD : H2 s2.heap.objs.size = none := I2.hok.fresh (Nat.le_refl _)
  have I3 : Inv X pins σ (upd H2 s2.heap.objs.size (.lst [])) { s2 with heap := s2.heap.push { cls := .type "list", data := .seq ([] : List Value).toArray } } := I2.laid (t' := s2.toks) (fun b u e => Heap.get?_push_of_some _ e) (Nat.le_refl _) ⟨Nat.zero_le _, [], 0, .nil, Heap.get?_push_size _ rfl⟩
  have hq := hloop s2.heap.objs.size fD
  generalize hHD : s2.heap.objs.size = D at *
  generalize hs3 : s2.heap.push { cls := .type "list", data := .seq ([] : List Value).toArray } = h3 at *
  dsimp only at hns hsb ⊢
  have hsz : h3.objs.size = D + 1 := by rw [← hs3, Heap.size_push, hHD]
  have ob2 : ∀ b ∈ fp, ∃ o, s2.heap.get? b = some o := fun b hb' => let ⟨o, e, _⟩ := T.obj _ _ st2 b hb'; ⟨o, e⟩
  have k23 : ∀ b o, s2.heap.get? b = some o → h3.get? b = some o := fun b o e => by rw [← hs3]; exact Heap.get?_push_of_some _ e
  have k34 : ∀ b o, h3.get? b = some o → h1.get? b = some o := fun b o e => (hsb.2 b (Nat.ne_of_lt (Heap.lt_size e))).trans (Heap.get?_push_of_some _ e)
  have f3 : ∀ b ∈ fp, FpOk X pins (upd H2 D (.lst [])) b := fun b hb' => by
    obtain ⟨o, e⟩ := ob2 b hb'
    exact ⟨by rw [upd_ne (Nat.ne_of_lt (by rw [← hHD]; exact Heap.lt_size e))]; exact (f2 b hb').1, (f2 b hb').2⟩
  have ob3 : ∀ b ∈ fp, ∃ o, h3.get? b = some o := fun b hb' => let ⟨o, e⟩ := ob2 b hb'; ⟨o, k23 b o e⟩
  have hhas : ∀ x, ((compEnvC scope cl h3.objs.size X.env).kindOf x = some .cell ∨ (compEnvC scope cl h3.objs.size X.env).kindOf x = some .free) → ∃ c, (compEnvC scope cl h3.objs.size X.env).cells.lookup x = some c := fun x hx => by
    have q : ∃ k, (k = NameKind.cell ∨ k = NameKind.free) ∧ (relabel scope X.env).names.lookup x = some k := by
      rcases hx with z | z
      · exact ⟨_, .inl rfl, z⟩
      · exact ⟨_, .inr rfl, z⟩
    obtain ⟨k, hk, e⟩ := q
    obtain ⟨k0, e0, r0⟩ := relabel_lookup e
    have hm := PySem.mem_of_lookup e0
    have hf0 : k0 = .free := by
      rcases r0 with z | z
      · rcases hk with y | y
        · exact absurd (z.symm.trans y) (co.nocell _ hm)
        · exact z.symm.trans y
      · exact z.1
    subst hf0
    have := hall x hm
    exact Option.isSome_iff_exists.mp this
  have hcap : ∀ (i : Nat) (x : Str) (v : V), N[i]? = some x → (capS own cap σ)[i]? = some (some v) → ((compEnvC scope cl h3.objs.size X.env).kindOf x = some .cell ∨ (compEnvC scope cl h3.objs.size X.env).kindOf x = some .free) ∧ X.env.kindOf x ≠ some .local ∧ Vis X.env.scope x ∧ ∃ j : Nat, X.N[j]? = some x ∧ σ[j]? = some (some v) := fun i x v e1 e2 => by
    unfold capS at e2
    by_cases hi : i < own
    · rw [List.getElem?_append_left (by simpa using hi), List.getElem?_replicate] at e2
      split at e2 <;> cases e2
    · rw [List.getElem?_append_right (by simpa using hi), List.length_replicate, List.getElem?_map] at e2
      cases ej : cap[i - own]? with
      | none => rw [ej] at e2; cases e2
      | some j =>
        rw [ej] at e2
        have e3 : (σ[j]?).join = some v := Option.some.inj e2
        have hd : (N.drop own)[i - own]? = some x := by rw [List.getElem?_drop, show own + (i - own) = i by omega]; exact e1
        have hz : (x, j) ∈ (N.drop own).zip cap := List.mem_of_getElem? (i := i - own) (by rw [List.getElem?_zip_eq_some]; exact ⟨hd, ej⟩)
        obtain ⟨c1, c2, c3⟩ := co.caps (x, j) hz
        have c3' : X.env.kindOf x = some .cell ∨ X.env.kindOf x = some .free := by unfold Env.kindOf; rw [hsc]; exact c3
        refine ⟨lookup_relabel_free c2, fun z => ?_, ?_, j, by rw [hNX]; exact c1, ?_⟩
        · rcases c3' with y | y <;> (rw [y] at z; cases z)
        · rcases c3' with y | y
          · exact .inr (.inl y)
          · exact .inr (.inr y)
        · cases es : σ[j]? with
          | none => rw [es] at e3; cases e3
          | some w => rw [es] at e3; exact congrArg some e3
  have I4 : Inv (blk X N (compEnvC scope cl h3.objs.size X.env) { s2 with heap := h3 } (upd H2 D (.lst [])) fp) [] (capS own cap σ) (upd H2 D (.lst [])) { s2 with heap := h1, toks := s2.toks + ([] : List (Str × Value)).length } :=
    blk_inv I3 f3 ob3 (Nat.le_refl _) co.kind rfl rfl hsub hhas k34 hns (by unfold capS; rw [List.length_append, List.length_replicate, List.length_map, co.len]) hcap
  obtain ⟨hg, ht, he⟩ := hb cl h3.objs.size { s2 with heap := h3 } (upd H2 D (.lst [])) fp
  have loop : codeAny (model X.prog X.w) X.A (.compLoop (.ListComp elt [⟨tg, iter, ifs, 0⟩] scope pos) 0 (.ref it) (.ref D) (compEnvC scope cl h3.objs.size X.env)) (R (.ref D) h3.objs.size) { s2 with heap := h1, toks := s2.toks + ([] : List (Str × Value)).length } := by
    refine comp_loop (Y := blk X N (compEnvC scope cl h3.objs.size X.env) { s2 with heap := h3 } (upd H2 D (.lst [])) fp) (Q := Q) hc T (fun H0 fr b hb' => ?_) hg ht he (fun _ _ z => z) (fun H' s' J' q => ?_) I4 (T.keep _ _ _ st2 fun b _ o e => k34 b o (k23 b o e)) (fun b hb' => (f3 b hb').1) hq
    · obtain ⟨o, e⟩ := ob3 b hb'
      exact ⟨fr b hb', Nat.ne_of_lt (Heap.lt_size e), fun z => (List.mem_cons.mp (I3.stkSub b z)).elim (f3 b hb').2.1 (f3 b hb').2.2.1, .inl hb', fun x c ec => (f3 b hb').2.2.2.2.1 x c (hsub x c ec), fun p hp => nomatch hp⟩
    · exact hR D h3.objs.size H' s' (I3.fpOk (Nat.le_refl _) J'.free) (let ⟨m, hm, _⟩ := J'.loc; ⟨m, hm⟩) (fun h' sb => blk_out (env := compEnvC scope cl h3.objs.size X.env) I3 f3 (Nat.le_refl _) J' sb) q
  exact codeAny_compStart_list loop (T.self _ 0 _ _ _ (T.keep _ _ _ st2 fun b _ o e => k34 b o (k23 b o e)) loop)
theorem pe_comp (hc : X.calm = true) (hi : PI X tg iter wi) (hsc : X.env.scope = sc) (hNX : X.N = NX)
    (hb : ∀ cl C s0 H0 fp, PG (blk X N (compEnvC scope cl C X.env) s0 H0 fp) tg g ∧ PTs (blk X N (compEnvC scope cl C X.env) s0 H0 fp) ifs tt ∧ PE (blk X N (compEnvC scope cl C X.env) s0 H0 fp) elt te)
    (co : capB sc scope NX N own cap = true) (hs : ∀ x, foldedSetIterable iter X.env x = pure x := by intro _; rfl) : PE X (.ListComp elt [⟨tg, iter, ifs, 0⟩] scope pos) (tComp own cap wi g tt te) := by
  intro pins s σ H Q I h
  have co := capOk_of co
  obtain ⟨cl, hcl, hsub, hall⟩ := closureFor_ok (env := X.env) (scope := scope) fun y hy e => I.ok.has y.1 (by unfold Env.kindOf; rw [hsc]; exact co.free y hy e)
  rw [eval_ListComp]
  refine wpAny_comprehension_free (use := none) rfl hs hcl co.kind co.names (thn (hi pins s σ H _ I h) fun v s1 h1 => thn h1 fun itv s2 h2 => ?_)
  refine comp_block (Q := Q) (R := fun acc C => compPost (model X.prog X.w) X.A X.xe none (EP X pins σ Q) acc C) hc hsc hNX co hsub hall hb h2 fun D C H' s' _ ⟨m, hm⟩ hi' q => ?_
  exact ⟨m, hm, fun h' sb => ⟨.ref D, H', hi' h' sb, rfl, q⟩⟩
/-- name = [..] on one row: the name is stored ahead of the block's own names being let go -/
theorem ps_setC {i : Nat} {x : Str} {py spos : Pos} (hN : X.N.Nodup) (hi : X.N[i]? = some x) (hx : Loc X.env.scope x) (hc : X.calm = true) (hit : PI X tg iter wi) (hsc : X.env.scope = sc) (hNX : X.N = NX)
    (hb : ∀ cl C s0 H0 fp, PG (blk X N (compEnvC scope cl C X.env) s0 H0 fp) tg g ∧ PTs (blk X N (compEnvC scope cl C X.env) s0 H0 fp) ifs tt ∧ PE (blk X N (compEnvC scope cl C X.env) s0 H0 fp) elt te)
    (co : capB sc scope NX N own cap = true) (hsw : swapsWith (.ListComp elt [⟨tg, iter, ifs, 0⟩] scope pos) (some (.Name x py)) spos.line X.env = pure true := by rfl) (hs : ∀ x, foldedSetIterable iter X.env x = pure x := by intro _; rfl)
    (hf : X.fn x = true ∨ X.env.scope.names.lookup x = some .local := by first | exact .inl rfl | exact .inr rfl | assumption) :
    PS X (.Assign [.Name x py] (.ListComp elt [⟨tg, iter, ifs, 0⟩] scope pos) spos) (tAsg (tComp own cap wi g tt te) (gName i)) := by
  intro pins s σ H D I h
  have co := capOk_of co
  obtain ⟨cl, hcl, hsub, hall⟩ := closureFor_ok (env := X.env) (scope := scope) fun y hy e => I.ok.has y.1 (by unfold Env.kindOf; rw [hsc]; exact co.free y hy e)
  rw [exec_Assign_Name_used _ _ _ _ hsw]
  refine wpAny_bind (wpAny_standAt (wpAny_bind ?_))
  show wpAny (model X.prog X.w) X.A (comprehension (.ListComp elt [⟨tg, iter, ifs, 0⟩] scope pos) scope X.env _ (newList []) false (eval iter X.env) (some (assign (.Name x py) X.env)) >>= fun _ => pure ()) _ _ s
  refine wpAny_bind (thn (wpAny_comprehension_free (use := some (assign (.Name x py) X.env)) (Q := fun _ s' => SP X pins D .next s') rfl hs hcl co.kind co.names (thn (hit pins s σ H _ I h) fun v s1 h1 => thn h1 fun itv s2 h2 => ?_)) fun _ s' q => wpAny_pure (wpAny_pure q))
  refine comp_block (Q := fun v H1 => gName i v σ H1 D.nx) (R := fun acc C => compPost (model X.prog X.w) X.A X.xe (some (assign (.Name x py) X.env)) (fun _ s' => SP X pins D .next s') acc C) hc hsc hNX co hsub hall hb h2 fun Da C H' s' fC ⟨m, hm⟩ hi' q => ?_
  have I1 : Inv X pins σ H' s' := hi' s'.heap (Heap.SameBut.refl ..)
  show wpAny _ _ (assign (.Name x py) X.env (.ref Da)) _ _ s'
  refine wpAny_assign_Name (store_ok2 I1 hN hi hx (v := .ref Da) rfl (fun s3 I3 ⟨a, sb, ha⟩ => ?_) hf)
  obtain ⟨f0, f1, f2, f3, f4, f5⟩ := fC
  have nC : C ≠ a := by
    rcases ha with z | z
    · rw [z]; exact f1
    · exact Ne.symm (f4 _ _ z)
  exact ⟨m, hm.sameBut sb nC, fun h' sb2 => ⟨_, H', I3.turned (t' := s3.toks) (fun b o hb' e => (sb2.2 b hb').trans e) f0 f1 f3 f4 f5, q⟩⟩
end
end L2

set_option Elab.async false
set_option linter.all false
set_option maxRecDepth 100000
set_option maxHeartbeats 4000000
namespace L2
open PySem PySem.Spec PyProof.Rows
section
variable {X : Cx}
/-- all(xs), xs a list of truths -/
theorem call_all (hc : X.calm = true) : CallR X (.builtin "all") (fun xs H Q => ∃ (p : Addr) (bs : List Bool), xs = [.ref p] ∧ SqL X.K H p (bs.map V.bl) ∧ Q (.bl (bs.all id)) H) := by
  intro pins s σ H xs us Q I r h
  obtain ⟨p, bs, rfl, hq, q⟩ := h
  obtain ⟨u, rfl, ru⟩ := vals1 r
  cases ru
  obtain ⟨its, rv, pl, hz⟩ := I.list hq
  have hlen := rv.length
  rw [List.length_map] at hlen
  have hpl : p < s.heap.objs.size := by
    obtain ⟨o, n, e, _⟩ := pl
    exact Heap.lt_size e
  refine call_all_walk (wpAny_pyIter_list pl.isList ⟨s.heap.objs.size, _, _, _, _, _, fun i => bs.getD i false, rfl, Walks.list (A := X.A.in1) (show X.A.in1.handled = none from I.ok.hd hc) s.heap.objs.size p (Nat.ne_of_lt hpl) its.toArray, ?_, ?_, fun h' tk k => ?_⟩)
  · exact ⟨⟨_, Heap.get?_push_size _ rfl, rfl, rfl⟩, pl.isList.at fun o e => Heap.get?_push_of_some _ e⟩
  · intro i v s' Q' E' hv hQ
    have hv' : its[i]? = some v := by simpa using hv
    have hi : i < bs.length := by rw [hlen]; exact (List.getElem?_eq_some_iff.mp hv').1
    obtain ⟨u, hu, ru⟩ := rv.get (i := i) (x := V.bl bs[i]) (by simp [hi])
    rw [hv'] at hu
    cases hu
    cases ru
    have e : bs.getD i false = bs[i] := by simp [List.getD, hi]
    dsimp only at hQ
    rw [e] at hQ
    exact wpAny_truthy_bool hQ
  · have e : ((List.range its.toArray.size).all fun i => bs.getD i false) = bs.all id := by
      rw [Bool.eq_iff_iff, List.all_eq_true, List.all_eq_true]
      constructor
      · intro z b hb
        obtain ⟨i, hi, rfl⟩ := List.mem_iff_getElem.mp hb
        have := z i (by simp [← hlen, hi])
        simpa [List.getD, hi] using this
      · intro z i hi
        have hi' : i < bs.length := by simpa [← hlen] using hi
        have := z bs[i] (List.getElem_mem hi')
        simpa [List.getD, hi'] using this
    rw [e]
    exact ⟨.bl (bs.all id), H, I.kept fun b o q => k b o (by simp; exact Nat.ne_of_lt (Heap.lt_size q)) (Heap.get?_push_of_some _ q), rfl, q⟩
end
end L2

set_option Elab.async false
set_option linter.all false
set_option maxRecDepth 100000
set_option maxHeartbeats 4000000
namespace L2
open PySem PySem.Spec PyProof.Rows
section
variable {X : Cx}
/-- range(n) as a value -/
theorem call_rangeV : CallR X (.type "range") (fun xs H Q => ∃ j, xs = [.int j] ∧ ∀ p, H p = none → Q (.ref p) (upd H p (.rng 0 j))) := by
  intro pins s σ H xs us Q I r h
  obtain ⟨j, rfl, q⟩ := h
  obtain ⟨u, rfl, ru⟩ := vals1 r
  obtain ⟨t, rfl⟩ := ru
  refine call_range_1 ⟨.ref s.heap.objs.size, _, I.laid (t' := s.toks + 1 + 1) (fun b o e => Heap.get?_push_of_some _ e) (Nat.le_refl _) (o := .rng 0 j) ?_, rfl, q _ (I.hok.fresh (Nat.le_refl _))⟩
  exact ⟨_, _, _, Heap.get?_push_size _ rfl⟩
def rngV (n : Nat) : List V := (List.range n).map fun (i : Nat) => V.int (i : Int)
theorem vals_rng : ∀ {ns : List Int} {ys : List Value}, CarriedAll ys (ns.map PyData.int) → Vals (ns.map V.int) ys
  | [], _, h => by cases h; exact .nil
  | n :: r, _, h => by
    cases h with
    | cons a b =>
      cases a
      exact .cons ⟨_, rfl⟩ (vals_rng b)
/-- list(range(n)) -/
theorem call_list_rng (hc : X.calm = true) : CallR X (.type "list") (fun xs H Q => ∃ p j, xs = [.ref p] ∧ H p = some (.rng 0 j) ∧ (0 ≤ j ∧ j ≤ 1000) ∧ ∀ l, H l = none → Q (.ref l) (upd H l (.lst (rngV j.toNat)))) := by
  intro pins s σ H xs us Q I r h
  obtain ⟨p, j, rfl, hp, ⟨h0, h1⟩, q⟩ := h
  obtain ⟨u, rfl, ru⟩ := vals1 r
  cases ru
  obtain ⟨t, u, v, ho⟩ := I.hok p _ hp
  obtain ⟨m, F⟩ := I.fr
  have hj : (j.toNat : Int) = j := Int.toNat_of_nonneg h0
  refine list_rangeD (news := []) (n := j.toNat) (I.ok.hd hc) F (fun p hp => nomatch hp) (show IsRange s.heap p 0 j 1 t u v from ho) (small_one (by omega) (by omega) (by omega) (by omega)) (by rw [rangeSize_one]; split <;> omega) (by omega) fun h' tk ys _ _ kp _ _ np ca => ?_
  obtain ⟨⟨n, hn⟩, _⟩ := np
  have e : (rangeInts 0 1 j.toNat) = (List.range j.toNat).map fun (i : Nat) => (i : Int) := by
    unfold rangeInts
    apply List.map_congr_left
    intro a _
    omega
  have ev : Vals (rngV j.toNat) ys := by
    have := vals_rng ca
    rw [e, List.map_map] at this
    exact this
  refine ⟨.ref s.heap.objs.size, _, I.laid (t' := tk) kp (Nat.le_refl _) (o := .lst (rngV j.toNat)) ⟨?_, ys, n, ev, hn⟩, rfl, q _ (I.hok.fresh (Nat.le_refl _))⟩
  have hl : (rngV j.toNat).length = j.toNat := by unfold rngV; simp
  rw [hl]
  exact Nat.le_of_lt (small1000 (by omega))
end
section
variable {X : Cx} {K : PySem.W.Frag}
theorem pg_tupK {es : List Expr} {k : Nat} {t : TGs} {n : Nat} {pos : Pos} (hK : X.K = K) (hc : X.calm = true) (h : PGs X es t)
    (hn : (assignEach es X.env).length = n := by rfl) (hst : (assignEach es X.env).findIdx? (·.1) = none := by rfl) : PG X (.Tuple es k pos) (gTup K n t) := hK ▸ pg_tup hc h hn hst
theorem ix_tupK (hK : X.K = K) : IxR X (rIxT K) := hK ▸ ix_tup
theorem ix_listK (hK : X.K = K) : IxR X (rIxL K) := hK ▸ ix_list
end
theorem comp_tup {K : PySem.W.Frag} {a D : Addr} {xs : List V} {g : TG} {tt : TT} {te : TE} {σ0 : St} {Q : VK} {Hs : Hp} (Pv : Nat → List V → Hp → Prop) (h0 : Pv 0 [] Hs) (hl : ∀ i acc H, i ≤ xs.length → Pv i acc H → SqT K H a xs)
    (hs : ∀ i x acc H, xs[i]? = some x → Pv i acc H → g x σ0 H fun σ2 H2 => Wk σ0 σ2 ∧ tt σ2 H2 fun b H3 => if b = true then te σ2 H3 fun y H4 => H4 D = some (.lst acc) ∧ acc.length < sizeLine ∧ Pv (i + 1) (acc ++ [y]) (upd H4 D (.lst (acc ++ [y]))) else Pv (i + 1) acc H3)
    (hd : ∀ acc H, Pv xs.length acc H → Q (.ref D) H) : LoopC (Itt K a) g tt te σ0 D Q Hs := by
  refine ⟨fun i m acc H => m = xs.length - i ∧ i ≤ xs.length ∧ Pv i acc H, ⟨xs.length, by simp, Nat.zero_le _, h0⟩, ?_⟩
  rintro i m acc H ⟨rfl, hi, p⟩
  have q := hl i acc H hi p
  by_cases hlt : i < xs.length
  · refine .inr ⟨⟨xs, xs[i], q, by simp [hlt]⟩, Pv (i + 1), fun acc' H' p' => ⟨xs.length - (i + 1), by omega, rfl, hlt, p'⟩, fun x H' y => ?_⟩
    obtain ⟨e, y⟩ := y
    subst e
    exact hs i x acc _ (y xs q) p
  · have e : i = xs.length := by omega
    subst e
    exact .inl ⟨⟨xs, q, Nat.le_refl _⟩, hd acc H p⟩
theorem comp_list {K : PySem.W.Frag} {a D : Addr} {xs : List V} {g : TG} {tt : TT} {te : TE} {σ0 : St} {Q : VK} {Hs : Hp} (Pv : Nat → List V → Hp → Prop) (h0 : Pv 0 [] Hs) (hl : ∀ i acc H, i ≤ xs.length → Pv i acc H → SqL K H a xs)
    (hs : ∀ i x acc H, xs[i]? = some x → Pv i acc H → g x σ0 H fun σ2 H2 => Wk σ0 σ2 ∧ tt σ2 H2 fun b H3 => if b = true then te σ2 H3 fun y H4 => H4 D = some (.lst acc) ∧ acc.length < sizeLine ∧ Pv (i + 1) (acc ++ [y]) (upd H4 D (.lst (acc ++ [y]))) else Pv (i + 1) acc H3)
    (hd : ∀ acc H, Pv xs.length acc H → Q (.ref D) H) : LoopC (Itl K a) g tt te σ0 D Q Hs := by
  refine ⟨fun i m acc H => m = xs.length - i ∧ i ≤ xs.length ∧ Pv i acc H, ⟨xs.length, by simp, Nat.zero_le _, h0⟩, ?_⟩
  rintro i m acc H ⟨rfl, hi, p⟩
  have q := hl i acc H hi p
  by_cases hlt : i < xs.length
  · refine .inr ⟨⟨xs, xs[i], q, by simp [hlt]⟩, Pv (i + 1), fun acc' H' p' => ⟨xs.length - (i + 1), by omega, rfl, hlt, p'⟩, fun x H' y => ?_⟩
    obtain ⟨e, y⟩ := y
    subst e
    exact hs i x acc _ (y xs q) p
  · have e : i = xs.length := by omega
    subst e
    exact .inl ⟨⟨xs, q, Nat.le_refl _⟩, hd acc H p⟩
theorem comp_range {D : Addr} {lo : Int} {n : Nat} {g : TG} {tt : TT} {te : TE} {σ0 : St} {Q : VK} {Hs : Hp} (Pv : Nat → List V → Hp → Prop) (h0 : Pv 0 [] Hs)
    (hs : ∀ i acc H, i < n → Pv i acc H → g (.int (lo + i)) σ0 H fun σ2 H2 => Wk σ0 σ2 ∧ tt σ2 H2 fun b H3 => if b = true then te σ2 H3 fun y H4 => H4 D = some (.lst acc) ∧ acc.length < sizeLine ∧ Pv (i + 1) (acc ++ [y]) (upd H4 D (.lst (acc ++ [y]))) else Pv (i + 1) acc H3)
    (hd : ∀ acc H, Pv n acc H → Q (.ref D) H) : LoopC (Itr lo n) g tt te σ0 D Q Hs := by
  refine ⟨fun i m acc H => m = n - i ∧ i ≤ n ∧ Pv i acc H, ⟨n, by simp, Nat.zero_le _, h0⟩, ?_⟩
  rintro i m acc H ⟨rfl, hi, p⟩
  by_cases hlt : i < n
  · refine .inr ⟨hlt, Pv (i + 1), fun acc' H' p' => ⟨n - (i + 1), by omega, rfl, hlt, p'⟩, fun x H' y => ?_⟩
    obtain ⟨e, y⟩ := y
    subst e y
    exact hs i acc _ hlt p
  · have e : i = n := by omega
    subst e
    exact .inl ⟨Nat.le_refl _, hd acc H p⟩
end L2

set_option Elab.async false
set_option linter.all false
set_option maxRecDepth 100000
set_option maxHeartbeats 4000000
namespace L2
open PySem PySem.Spec PyProof.Rows
mutual
/-- the value stands for that datum -/
inductive Tr (H : Hp) : V → PyData → Prop
  | non : Tr H .non .none
  | bl (b : Bool) : Tr H (.bl b) (.bool b)
  | int (i : Int) : Tr H (.int i) (.int i)
  | str (x : Str) : Tr H (.str x) (.str x)
  | tup {a : Addr} {xs : List V} {ds : List PyData} : H a = some (.tup xs) → TrL H xs ds → Tr H (.ref a) (.tuple ds)
inductive TrL (H : Hp) : List V → List PyData → Prop
  | nil : TrL H [] []
  | cons {x : V} {d : PyData} {xs : List V} {ds : List PyData} : Tr H x d → TrL H xs ds → TrL H (x :: xs) (d :: ds)
end
mutual
theorem Tr.reads {X : Cx} {pins : List (Addr × Obj)} {σ : St} {H : Hp} {s : Shared} (I : Inv X pins σ H s) : ∀ {v : V} {d : PyData} {u : Value}, Tr H v d → RelV v u → ∃ as, Reads s.heap u d as
  | _, _, _, .non, r => by cases r; exact ⟨_, .none⟩
  | _, _, _, .bl b, r => by cases r; exact ⟨_, .bool b⟩
  | _, _, _, .int i, r => by obtain ⟨t, rfl⟩ := r; exact ⟨_, .int i t⟩
  | _, _, _, .str x, r => by obtain ⟨t, rfl⟩ := r; exact ⟨_, .str x t⟩
  | _, _, _, .tup h hl, r => by
    cases r
    obtain ⟨_, its, rv, o, ho, hc, n, hd⟩ := I.hok _ _ h
    obtain ⟨as, ra⟩ := TrL.reads I hl rv
    exact ⟨as, .tuple ho hc hd (by simpa using ra)⟩
theorem TrL.reads {X : Cx} {pins : List (Addr × Obj)} {σ : St} {H : Hp} {s : Shared} (I : Inv X pins σ H s) : ∀ {vs : List V} {ds : List PyData} {us : List Value}, TrL H vs ds → Vals vs us → ∃ as, ReadsAll s.heap us ds as
  | _, _, _, .nil, r => by cases r; exact ⟨_, .nil⟩
  | _, _, _, .cons h hl, r => by
    cases r with
    | cons r1 r2 =>
      obtain ⟨as, ra⟩ := Tr.reads I h r1
      obtain ⟨bs, rb⟩ := TrL.reads I hl r2
      exact ⟨_, .cons ra rb⟩
end
mutual
theorem Tr.mono {H H' : Hp} (k : ∀ a xs, H a = some (.tup xs) → H' a = some (.tup xs)) : ∀ {v : V} {d : PyData}, Tr H v d → Tr H' v d
  | _, _, .non => .non
  | _, _, .bl b => .bl b
  | _, _, .int i => .int i
  | _, _, .str x => .str x
  | _, _, .tup h hl => .tup (k _ _ h) (TrL.mono k hl)
theorem TrL.mono {H H' : Hp} (k : ∀ a xs, H a = some (.tup xs) → H' a = some (.tup xs)) : ∀ {vs : List V} {ds : List PyData}, TrL H vs ds → TrL H' vs ds
  | _, _, .nil => .nil
  | _, _, .cons h hl => .cons (Tr.mono k h) (TrL.mono k hl)
end
theorem Tr.same {H H' : Hp} (S : Same H H') {v : V} {d : PyData} (t : Tr H v d) : Tr H' v d := t.mono fun a xs h => S a _ h
theorem TrL.same {H H' : Hp} (S : Same H H') {v : List V} {d : List PyData} (t : TrL H v d) : TrL H' v d := t.mono fun a xs h => S a _ h
theorem Tr.ext {b : Addr} {H H' : Hp} (E : H1.Ext b H H') (B : H1.Box H b) {v : V} {d : PyData} (t : Tr H v d) : Tr H' v d := t.mono fun a xs h => E.tup B h
theorem TrL.ext {b : Addr} {H H' : Hp} (E : H1.Ext b H H') (B : H1.Box H b) {v : List V} {d : List PyData} (t : TrL H v d) : TrL H' v d := t.mono fun a xs h => E.tup B h
theorem TrL.length {H : Hp} : ∀ {vs : List V} {ds : List PyData}, TrL H vs ds → vs.length = ds.length
  | _, _, .nil => rfl
  | _, _, .cons _ h => by rw [List.length_cons, List.length_cons, h.length]
theorem TrL.get {H : Hp} : ∀ {vs : List V} {ds : List PyData} {i : Nat} {v : V}, TrL H vs ds → vs[i]? = some v → ∃ d, ds[i]? = some d ∧ Tr H v d
  | _, _, _, _, .nil, h => by simp at h
  | _, _, 0, _, .cons t _, h => by cases h; exact ⟨_, rfl, t⟩
  | _, _, i + 1, _, .cons _ t, h => t.get (i := i) (by simpa using h)
theorem TrL.append {H : Hp} : ∀ {vs us : List V} {ds es : List PyData}, TrL H vs ds → TrL H us es → TrL H (vs ++ us) (ds ++ es)
  | _, _, _, _, .nil, h => h
  | _, _, _, _, .cons t r, h => .cons t (r.append h)
theorem TrL.set {H : Hp} {v : V} {d : PyData} (t : Tr H v d) : ∀ {vs : List V} {ds : List PyData} (i : Nat), TrL H vs ds → TrL H (vs.set i v) (ds.set i d)
  | _, _, _, .nil => .nil
  | _, _, 0, .cons _ r => .cons t r
  | _, _, i + 1, .cons u r => .cons u (TrL.set t i r)
/-- a datum that may be shown and compared -/
structure Fine (d : PyData) (k L : Nat) : Prop where
  lay : d.canLay0 = true
  sh : d.showable = true
  dp : d.depth ≤ k
  ln : d.shown.length ≤ L
  nd : d.hasDict = false
theorem Fine.mono {d : PyData} {k L k' L' : Nat} (f : Fine d k L) (h : k ≤ k') (h' : L ≤ L') : Fine d k' L' := ⟨f.lay, f.sh, Nat.le_trans f.dp h, Nat.le_trans f.ln h', f.nd⟩
theorem log_small {i : Int} (h : i.natAbs < 10 ^ 12) : i.natAbs.log2 < 1920 := by
  by_cases h0 : i.natAbs = 0
  · rw [h0]; decide
  · exact (Nat.log2_lt h0).mpr (Nat.lt_of_lt_of_le h (Nat.le_trans (show 10 ^ 12 ≤ 2 ^ 64 by decide) (Nat.pow_le_pow_right (by decide) (by decide))))
theorem Fine.int {i : Int} (h : i.natAbs < 10 ^ 12) : Fine (.int i) 0 13 := ⟨rfl, by rw [PyData.showable.eq_4]; exact decide_eq_true (log_small h), Nat.le_refl _, PyData.shown_int_le h, rfl⟩
theorem Fine.all {k L : Nat} : ∀ {xs : List PyData}, (∀ x ∈ xs, Fine x k L) → PyData.canLayAll0 xs = true ∧ PyData.showableAll xs = true ∧ PyData.depthAll xs ≤ k ∧ PyData.hasDictAll xs = false ∧ ((PyData.shownAll xs).map (fun (x : Str) => x.length)).sum ≤ xs.length * L ∧ (PyData.shownAll xs).length = xs.length
  | [], _ => ⟨rfl, rfl, Nat.zero_le _, rfl, Nat.zero_le _, rfl⟩
  | x :: xs, h => by
    obtain ⟨h1, h2, h3, h4, h5, h6⟩ := Fine.all (xs := xs) fun y hy => h y (List.mem_cons_of_mem _ hy)
    have f := h x (List.mem_cons_self ..)
    refine ⟨?_, ?_, ?_, ?_, ?_, ?_⟩
    · show (x.canLay0 && PyData.canLayAll0 xs) = true
      rw [f.lay, h1]
      rfl
    · rw [PyData.showableAll.eq_2, f.sh, h2]
      rfl
    · rw [PyData.depthAll.eq_2]
      exact Nat.max_le.mpr ⟨f.dp, h3⟩
    · show (x.hasDict || PyData.hasDictAll xs) = false
      rw [f.nd, h4]
      rfl
    · rw [PyData.shownAll.eq_2, List.map_cons, List.sum_cons, List.length_cons, Nat.add_mul, Nat.one_mul, Nat.add_comm]
      exact Nat.add_le_add h5 f.ln
    · rw [PyData.shownAll.eq_2, List.length_cons, h6, List.length_cons]
theorem Fine.tup {k L n : Nat} {xs : List PyData} (h : ∀ x ∈ xs, Fine x k L) (hn : xs.length ≤ n) : Fine (.tuple xs) (k + 1) (n * (L + 2) + 3) := by
  obtain ⟨h1, h2, h3, h4, h5, h6⟩ := Fine.all h
  refine ⟨h1, by rw [PyData.showable.eq_6]; exact h2, by rw [PyData.depth.eq_2]; omega, ?_, by rw [PyData.hasDict.eq_6]; exact h4⟩
  rw [PyData.shown.eq_6]
  have := tupleText_len_le (PyData.shownAll xs)
  rw [h6] at this
  have hm : xs.length * L ≤ n * L := Nat.mul_le_mul_right _ hn
  rw [Nat.mul_add]
  omega
section
variable {X : Cx}
def rEqD (f : Bool → Bool) : R2 := fun x y H Q => ∃ da db, Tr H x da ∧ Tr H y db ∧ (∃ L, Fine da 40 L) ∧ (∃ L, Fine db 40 L) ∧ Q (.bl (f (da.eqv db))) H
theorem op_eqD (hu : X.A.units + 64 < cLine) : OpR X (compareOp .Eq) (rEqD id) := by
  intro pins s σ H x y v u Q I rx ry h
  obtain ⟨da, db, ta, tb, ⟨L1, f1⟩, ⟨L2, f2⟩, q⟩ := h
  obtain ⟨as, ra⟩ := ta.reads I rx
  obtain ⟨bs, rb⟩ := tb.reads I ry
  exact PySem.SeqAt.compareEq_reads ra rb f1.lay f2.lay (by have := f1.dp; omega) ⟨.bl _, H, I, rfl, q⟩
theorem op_neD (hu : X.A.units + 64 < cLine) : OpR X (compareOp .NotEq) (rEqD not) := by
  intro pins s σ H x y v u Q I rx ry h
  obtain ⟨da, db, ta, tb, ⟨L1, f1⟩, ⟨L2, f2⟩, q⟩ := h
  obtain ⟨as, ra⟩ := ta.reads I rx
  obtain ⟨bs, rb⟩ := tb.reads I ry
  exact PySem.SeqAt.compareNe_reads ra rb f1.lay f2.lay (by have := f1.dp; omega) ⟨.bl _, H, I, rfl, q⟩
/-- repr(t) -/
theorem call_reprD (hu : X.A.units + 64 < cLine) (hg : X.A.guards = some []) : CallR X (.builtin "repr") (fun xs H Q => ∃ (a : Addr) (d : PyData), xs = [.ref a] ∧ Tr H (.ref a) d ∧ Fine d 40 1000000 ∧ Q (.str d.shown) H) := by
  intro pins s σ H xs us Q I r h
  obtain ⟨a, d, rfl, t, f, q⟩ := h
  obtain ⟨u, rfl, ru⟩ := vals1 r
  cases ru
  obtain ⟨as, ra⟩ := t.reads I (u := .ref a) rfl
  refine repr_of_reads' ra f.sh (fun z => by rw [f.nd] at z; cases z) hg (by have := f.dp; omega) (fun _ _ z => z) (fun h' u tk kp => ?_) (Nat.le_trans f.ln (by decide))
  exact ⟨.str d.shown, H, I.kept (t' := tk) kp, ⟨u, rfl⟩, q⟩
end
theorem eqv_self {d : PyData} {k L : Nat} (f : Fine d k L) : d.eqv d = true := PySem.SeqAt.eqv_refl d f.lay
end L2

set_option Elab.async false
set_option linter.all false
set_option maxRecDepth 100000
set_option maxHeartbeats 4000000
namespace L2
open PySem PySem.Spec PyProof.Rows H1
def wordD (w : Int × Int) : PyData := .tuple [.int w.1, .int w.2]
def bookD (ws : List (Int × Int)) : PyData := .tuple (ws.map wordD)
def noteD (n : Nat × (Int × Int)) : PyData := .tuple [.int (n.1 : Int), wordD n.2]
def notesD (ns : List (Nat × (Int × Int))) : PyData := .tuple (ns.map noteD)
def gtW (a b : Int × Int) : Bool := HT.lexGt [a.1, a.2] [b.1, b.2]
theorem gtW_iff {a b : Int × Int} : gtW a b = true ↔ b.1 < a.1 ∨ (a.1 = b.1 ∧ b.2 < a.2) := by
  have e : gtW a b = if a.1 = b.1 then (if a.2 = b.2 then false else decide (b.2 < a.2)) else decide (b.1 < a.1) := rfl
  rw [e]
  split
  · split
    · constructor
      · intro z; cases z
      · intro z; omega
    · rw [decide_eq_true_iff]; omega
  · rw [decide_eq_true_iff]; omega
theorem Tr.tupI {H : Hp} {v : V} {ds : List PyData} (t : Tr H v (.tuple ds)) : ∃ a xs, v = .ref a ∧ H a = some (.tup xs) ∧ TrL H xs ds := by
  cases t with
  | tup h hl => exact ⟨_, _, rfl, h, hl⟩
theorem Tr.intI {H : Hp} {v : V} {i : Int} (t : Tr H v (.int i)) : v = .int i := by
  cases t
  rfl
theorem TrL.two {H : Hp} {xs : List V} {d e : PyData} (t : TrL H xs [d, e]) : ∃ x y, xs = [x, y] ∧ Tr H x d ∧ Tr H y e := by
  cases t with
  | cons a r =>
    cases r with
    | cons b r =>
      cases r
      exact ⟨_, _, rfl, a, b⟩
theorem Tr.wordI {H : Hp} {v : V} {w : Int × Int} (t : Tr H v (wordD w)) : ∃ q, v = .ref q ∧ H q = some (.tup [.int w.1, .int w.2]) := by
  obtain ⟨a, xs, e, h, hl⟩ := t.tupI
  obtain ⟨x, y, rfl, hx, hy⟩ := hl.two
  rw [hx.intI, hy.intI] at h
  exact ⟨a, e, h⟩
theorem Tr.wordM {H : Hp} {q : Addr} {n m : Int} (h : H q = some (.tup [.int n, .int m])) : Tr H (.ref q) (wordD (n, m)) := .tup h (.cons (.int n) (.cons (.int m) .nil))
theorem Tr.noteI {H : Hp} {v : V} {n : Nat × (Int × Int)} (t : Tr H v (noteD n)) : ∃ q x, v = .ref q ∧ H q = some (.tup [.int (n.1 : Int), x]) ∧ Tr H x (wordD n.2) := by
  obtain ⟨a, xs, e, h, hl⟩ := t.tupI
  obtain ⟨x, y, rfl, hx, hy⟩ := hl.two
  rw [hx.intI] at h
  exact ⟨a, y, e, h, hy⟩
theorem TrL.getM {α : Type} {f : α → PyData} {H : Hp} {vs : List V} {ws : List α} {i : Nat} {v : V} (t : TrL H vs (ws.map f)) (h : vs[i]? = some v) : ∃ w, ws[i]? = some w ∧ Tr H v (f w) := by
  obtain ⟨d, hd, td⟩ := t.get h
  rw [List.getElem?_map] at hd
  cases hw : ws[i]? with
  | none => rw [hw] at hd; cases hd
  | some w =>
    rw [hw] at hd
    cases hd
    exact ⟨w, rfl, td⟩
theorem TrL.lenM {α : Type} {f : α → PyData} {H : Hp} {vs : List V} {ws : List α} (t : TrL H vs (ws.map f)) : vs.length = ws.length := by rw [t.length, List.length_map]
theorem TrL.setM {α : Type} {f : α → PyData} {H : Hp} {vs : List V} {ws : List α} {v : V} {w : α} (i : Nat) (t : TrL H vs (ws.map f)) (tv : Tr H v (f w)) : TrL H (vs.set i v) ((ws.set i w).map f) := by
  rw [List.map_set]
  exact TrL.set tv i t
theorem TrL.snocM {α : Type} {f : α → PyData} {H : Hp} {vs : List V} {ws : List α} {v : V} {w : α} (t : TrL H vs (ws.map f)) (tv : Tr H v (f w)) : TrL H (vs ++ [v]) ((ws ++ [w]).map f) := by
  rw [List.map_append]
  exact t.append (.cons tv .nil)
/-- numbers that are no greater than ten figures tell -/
def Sml (w : Int × Int) : Prop := 0 ≤ w.1 ∧ w.1 ≤ 1000000 ∧ 0 ≤ w.2 ∧ w.2 ≤ 3
theorem Sml.fine {w : Int × Int} (h : Sml w) : Fine (wordD w) 1 33 := by
  unfold Sml at h
  refine Fine.tup (k := 0) (L := 13) (n := 2) (fun x hx => ?_) (Nat.le_refl 2)
  simp only [List.mem_cons, List.not_mem_nil, or_false] at hx
  rcases hx with rfl | rfl <;> exact Fine.int (by omega)
theorem book_fine {ws : List (Int × Int)} (h : ∀ w ∈ ws, Sml w) (hl : ws.length ≤ 8) : Fine (bookD ws) 2 283 := by
  refine Fine.tup (k := 1) (L := 33) (n := 8) (fun x hx => ?_) (by rw [List.length_map]; exact hl)
  obtain ⟨w, hw, rfl⟩ := List.mem_map.mp hx
  exact (h w hw).fine
def stepW (ws : List (Int × Int)) (n : Nat × (Int × Int)) : List (Int × Int) := if gtW n.2 (ws.getD n.1 (0, 0)) = true then ws.set n.1 n.2 else ws
def heardL (ws : List (Int × Int)) (ns : List (Nat × (Int × Int))) : List (Int × Int) := ns.foldl stepW ws
theorem stepW_len {ws : List (Int × Int)} {n : Nat × (Int × Int)} : (stepW ws n).length = ws.length := by
  unfold stepW
  split
  · rw [List.length_set]
  · rfl
theorem heardL_len {ns : List (Nat × (Int × Int))} : ∀ {ws : List (Int × Int)}, (heardL ws ns).length = ws.length := by
  induction ns with
  | nil => intro ws; rfl
  | cons n r ih =>
    intro ws
    show (heardL (stepW ws n) r).length = _
    rw [ih, stepW_len]
theorem stepW_all {P : Int × Int → Prop} {ws : List (Int × Int)} {n : Nat × (Int × Int)} (h : ∀ w ∈ ws, P w) (hn : P n.2) : ∀ w ∈ stepW ws n, P w := by
  unfold stepW
  split
  · intro w hw
    rcases List.mem_or_eq_of_mem_set hw with z | z
    · exact h w z
    · rw [z]; exact hn
  · exact h
theorem heardL_all {P : Int × Int → Prop} {ns : List (Nat × (Int × Int))} (hn : ∀ n ∈ ns, P n.2) : ∀ {ws : List (Int × Int)}, (∀ w ∈ ws, P w) → ∀ w ∈ heardL ws ns, P w := by
  induction ns with
  | nil => intro ws h; exact h
  | cons n r ih =>
    intro ws h
    exact ih (fun m hm => hn m (List.mem_cons_of_mem _ hm)) (stepW_all h (hn n (List.mem_cons_self ..)))
/-- no less new -/
def geW (a b : Int × Int) : Prop := gtW b a = false
theorem geW_iff {a b : Int × Int} : geW a b ↔ (b.1 < a.1 ∨ (b.1 = a.1 ∧ b.2 ≤ a.2)) := by
  unfold geW
  rw [← Bool.not_eq_true, gtW_iff]
  omega
theorem geW.refl (a : Int × Int) : geW a a := geW_iff.mpr (.inr ⟨rfl, Int.le_refl _⟩)
theorem geW.trans {a b c : Int × Int} (h : geW a b) (h' : geW b c) : geW a c := by
  rw [geW_iff] at *
  omega
theorem geW.anti {a b : Int × Int} (h : geW a b) (h' : geW b a) : a = b := by
  rw [geW_iff] at h h'
  exact Prod.ext (by omega) (by omega)
theorem geW_of_gt {a b : Int × Int} (h : gtW a b = true) : geW a b := by
  rw [gtW_iff] at h
  rw [geW_iff]
  omega
theorem getD_set {ws : List (Int × Int)} {i j : Nat} {w : Int × Int} (h : i < ws.length) : (ws.set i w).getD j (0, 0) = if i = j then w else ws.getD j (0, 0) := by
  simp only [List.getD_eq_getElem?_getD, List.getElem?_set]
  by_cases e : i = j
  · subst e
    simp [h]
  · simp [e]
theorem stepW_get {ws : List (Int × Int)} {n : Nat × (Int × Int)} (h : n.1 < ws.length) (j : Nat) : geW ((stepW ws n).getD j (0, 0)) (ws.getD j (0, 0)) ∧ (j = n.1 → geW ((stepW ws n).getD j (0, 0)) n.2) ∧ ((stepW ws n).getD j (0, 0) = ws.getD j (0, 0) ∨ (j = n.1 ∧ (stepW ws n).getD j (0, 0) = n.2)) := by
  unfold stepW
  split
  · rename_i c
    rw [getD_set h]
    split
    · rename_i e
      subst e
      exact ⟨geW_of_gt c, fun _ => geW.refl _, .inr ⟨rfl, rfl⟩⟩
    · rename_i e
      exact ⟨geW.refl _, fun z => absurd z.symm e, .inl rfl⟩
  · rename_i c
    refine ⟨geW.refl _, fun e => ?_, .inl rfl⟩
    subst e
    exact by simpa [geW] using c
theorem heardL_get {ns : List (Nat × (Int × Int))} : ∀ {ws : List (Int × Int)}, (∀ n ∈ ns, n.1 < ws.length) → ∀ j, geW ((heardL ws ns).getD j (0, 0)) (ws.getD j (0, 0)) ∧ (∀ n ∈ ns, j = n.1 → geW ((heardL ws ns).getD j (0, 0)) n.2) ∧ ((heardL ws ns).getD j (0, 0) = ws.getD j (0, 0) ∨ ∃ n ∈ ns, j = n.1 ∧ (heardL ws ns).getD j (0, 0) = n.2) := by
  induction ns with
  | nil => intro ws _ j; exact ⟨geW.refl _, fun _ z => (nomatch z), .inl rfl⟩
  | cons n r ih =>
    intro ws h j
    obtain ⟨a1, a2, a3⟩ := stepW_get (h n (List.mem_cons_self ..)) j
    obtain ⟨b1, b2, b3⟩ := ih (ws := stepW ws n) (fun m hm => by rw [stepW_len]; exact h m (List.mem_cons_of_mem _ hm)) j
    refine ⟨b1.trans a1, fun m hm e => ?_, ?_⟩
    · rcases List.mem_cons.mp hm with z | z
      · rw [z] at e ⊢
        exact b1.trans (a2 e)
      · exact b2 m z e
    · rcases b3 with z | ⟨m, hm, z1, z2⟩
      · rcases a3 with y | ⟨y1, y2⟩
        · exact .inl (z.trans y)
        · exact .inr ⟨n, List.mem_cons_self .., y1, z.trans y2⟩
      · exact .inr ⟨m, List.mem_cons_of_mem _ hm, z1, z2⟩
theorem heardL_stay {ns : List (Nat × (Int × Int))} {ws : List (Int × Int)} : (∀ n ∈ ns, geW (ws.getD n.1 (0, 0)) n.2) → heardL ws ns = ws := by
  induction ns with
  | nil => intro _; rfl
  | cons n r ih =>
    intro h
    have e : stepW ws n = ws := by
      unfold stepW
      rw [if_neg]
      have := h n (List.mem_cons_self ..)
      unfold geW at this
      rw [this]
      decide
    show heardL (stepW ws n) r = ws
    rw [e]
    exact ih fun m hm => h m (List.mem_cons_of_mem _ hm)
theorem heardL_again {ns : List (Nat × (Int × Int))} {ws : List (Int × Int)} (h : ∀ n ∈ ns, n.1 < ws.length) : heardL (heardL ws ns) ns = heardL ws ns :=
  heardL_stay fun n hn => (heardL_get h n.1).2.1 n hn rfl
def spNewer : Sp := fun vs H Q _ => ∃ (x y : V) (a b : Int × Int), vs = [x, y] ∧ Tr H x (wordD a) ∧ Tr H y (wordD b) ∧ Q (.bl (gtW a b)) H
def spHeard : Sp := fun vs H Q _ => ∃ (a n : Addr) (ws : List (Int × Int)) (ns : List (Nat × (Int × Int))), vs = [.ref a, .ref n] ∧ Tr H (.ref a) (bookD ws) ∧ Tr H (.ref n) (notesD ns) ∧ (∀ m ∈ ns, m.1 < ws.length) ∧ ws.length ≤ 8 ∧ ∀ r H', Same H H' → Tr H' (.ref r) (bookD (heardL ws ns)) → Q (.ref r) H'
def spWord : Sp := fun vs H Q _ => ∃ (b : Addr), vs = [.ref b] ∧ Box H b ∧ ∀ q w H', Ext b H H' → Tr H' (.ref q) (wordD w) → Sml w → Q (.ref q) H'
def spBook : Sp := fun vs H Q _ => ∃ (b : Addr) (m : Int), vs = [.ref b, .int m] ∧ Box H b ∧ (2 ≤ m ∧ m ≤ 8) ∧ ∀ r ws H', Ext b H H' → Tr H' (.ref r) (bookD ws) → (ws.length : Int) = m → (∀ w ∈ ws, Sml w) → Q (.ref r) H'
end L2

set_option Elab.async false
set_option linter.all false
set_option maxRecDepth 100000
set_option maxHeartbeats 4000000
namespace HI
open PySem PyProof.Rows
/-- a zip object: what it handed out last, whether it is bound -/
def ZipO (h : Heap) (z TI TO : Addr) (f0 f1 : Value) : Prop := h.get? z = some { cls := .type "zip", data := .fields #[f0, f1, .bool false, .ref TI, .ref TO] }
section
variable {prog : Program} {w : World} {A : Around} {E : Value → Shared → Prop} {s : Shared}
theorem zipItemT {z TI TO i1 i2 l1 l2 : Addr} {k1 k2 : Nat} {xs ys : Array Value} {x y a b f0 f1 : Value} {Q : Value → Shared → Prop} (ap : ZipApart z TI TO i1 i2 l1 l2) (hz : ZipO s.heap z TI TO f0 f1) (hfree : ∀ Q : Bool → Shared → Prop, Q true s → wpAny (model prog w) A (Builtin.SmallTypes.ownedTupleIsFree (.ref z)) Q E s) (hTI : IsPair s.heap TI (.ref i1) (.ref i2)) (hTO : IsPair s.heap TO a b)
    (h1 : s.heap.IsTupleIter i1 l1 k1) (h2 : s.heap.IsTupleIter i2 l2 k2) (hl1 : s.heap.IsTuple l1 xs) (hl2 : s.heap.IsTuple l2 ys) (hx : xs[k1]? = some x) (hy : ys[k2]? = some y)
    (k : ∀ h', ZipO h' z TI TO (rawInt s.heap.objs.size) (.bool false) → IsPair h' TO x y → h'.IsTupleIter i1 l1 (k1 + 1) → h'.IsTupleIter i2 l2 (k2 + 1) → IsPair h' s.heap.objs.size x y → h'.objs.size = s.heap.objs.size + 1 →
      (∀ c o, c ≠ z → c ≠ TO → c ≠ i1 → c ≠ i2 → s.heap.get? c = some o → h'.get? c = some o) → Q (.ref s.heap.objs.size) { s with heap := h' }) :
    wpAny (model prog w) A (Builtin.«zip.__next__» ⟨[.ref z], []⟩) (fun fin s' => ∃ v, fin = .done (.ret v) ∧ Q v s') E s := by
  unfold Builtin.«zip.__next__»
  refine wpAny_bind (m := slotArgs "__next__" 0 ⟨[.ref z], []⟩) (wpAny_of_eq (a := (Value.ref z, [])) (by rfl) ?_)
  refine wpAny_bind (m := field (.ref z) 2) (wpAny_field hz rfl (x := .bool false) rfl ?_)
  refine wpAny_bind (m := field (.ref z) 3) (wpAny_field hz rfl (x := .ref TI) rfl ?_)
  refine wpAny_bind (m := seqItems? (.ref TI)) (wpAny_seqItems hTI rfl ?_)
  dsimp only
  rw [if_neg (by intro z; cases z)]
  refine wpAny_bind (m := Builtin.SmallTypes.ownedTupleIsFree (.ref z)) (hfree _ ?_)
  rw [if_pos rfl]
  refine wpAny_bind (wpAny_rule ?_)
  refine wpAny_bind (m := field (.ref z) 4) (wpAny_field hz rfl (x := .ref TO) rfl ?_)
  dsimp only
  refine wpAny_bind (wpAny_setField hz rfl (by simp) ?_)
  have nz := ap
  obtain ⟨TIz, TOz, i1z, i2z, TITO, TIi1, TIi2, TOi1, TOi2, i12, l1z, l1TO, l1i1, l1i2, l2z, l2TO, l2i1, l2i2⟩ := nz
  have sA := Heap.SameBut.update (h := s.heap) z (Obj.mapFields fun (x : Array Value) => x.setIfInBounds 0 Value.ellipsis)
  have zA : ZipO (s.heap.update z (Obj.mapFields fun (x : Array Value) => x.setIfInBounds 0 Value.ellipsis)) z TI TO .ellipsis f1 := Heap.get?_update_self _ hz rfl
  generalize hHA : s.heap.update z (Obj.mapFields fun (x : Array Value) => x.setIfInBounds 0 Value.ellipsis) = HA at *
  refine wpAny_bind ?_
  show wpAny _ _ (forIn [(Value.ref i1, 0), (Value.ref i2, 1)] _ _) _ _ _
  simp only [List.forIn_cons, List.forIn_nil]
  refine wpAny_bind (wpAny_bind (wpAny_onRaise ?_))
  show wpAny _ _ (Builtin.SmallTypes.nextOf (.ref i1) >>= fun v => pure (some v)) _ _ _
  have h1A : HA.IsTupleIter i1 l1 k1 := let ⟨o, e, r⟩ := h1; ⟨o, (sA.2 i1 i1z).trans e, r⟩
  have h2A : HA.IsTupleIter i2 l2 k2 := let ⟨o, e, r⟩ := h2; ⟨o, (sA.2 i2 i2z).trans e, r⟩
  have hl1A : HA.IsTuple l1 xs := let ⟨o, e, r⟩ := hl1; ⟨o, (sA.2 l1 l1z).trans e, r⟩
  have hl2A : HA.IsTuple l2 ys := let ⟨o, e, r⟩ := hl2; ⟨o, (sA.2 l2 l2z).trans e, r⟩
  have hTOA : IsPair HA TO a b := (sA.2 TO TOz).trans hTO
  refine wpAny_bind (drawT (s := { s with heap := HA }) h1A hl1A hx fun HB h1B sB => wpAny_pure ?_)
  dsimp only at sB ⊢
  have h2B : HB.IsTupleIter i2 l2 k2 := let ⟨o, e, r⟩ := h2A; ⟨o, (sB.2 i2 (Ne.symm i12)).trans e, r⟩
  have hl2B : HB.IsTuple l2 ys := let ⟨o, e, r⟩ := hl2A; ⟨o, (sB.2 l2 l2i1).trans e, r⟩
  have hTOB : IsPair HB TO a b := (sB.2 TO TOi1).trans hTOA
  have zB : ZipO HB z TI TO .ellipsis f1 := (sB.2 z (Ne.symm i1z)).trans zA
  refine wpAny_bind (m := seqItems? (.ref TO)) (wpAny_seqItems hTOB rfl ?_)
  dsimp only
  refine wpAny_bind (wpAny_updateSeq hTOB rfl ?_ (by show 2 ≤ sizeLine; decide) (by show 2 ≤ _; decide))
  have sC := Heap.SameBut.update (h := HB) TO (Obj.mapSeq fun (x_2 : Array Value) => x_2.setIfInBounds 0 x)
  have hTOC : IsPair (HB.update TO (Obj.mapSeq fun (x_2 : Array Value) => x_2.setIfInBounds 0 x)) TO x b := Heap.get?_update_self _ hTOB rfl
  generalize HB.update TO (Obj.mapSeq fun (x_2 : Array Value) => x_2.setIfInBounds 0 x) = HC at *
  refine wpAny_bind (wpAny_letGo (wpAny_pure ?_))
  dsimp only
  have h1C : HC.IsTupleIter i1 l1 (k1 + 1) := let ⟨o, e, r⟩ := h1B; ⟨o, (sC.2 i1 (Ne.symm TOi1)).trans e, r⟩
  have h2C : HC.IsTupleIter i2 l2 k2 := let ⟨o, e, r⟩ := h2B; ⟨o, (sC.2 i2 (Ne.symm TOi2)).trans e, r⟩
  have hl2C : HC.IsTuple l2 ys := let ⟨o, e, r⟩ := hl2B; ⟨o, (sC.2 l2 l2TO).trans e, r⟩
  have zC : ZipO HC z TI TO .ellipsis f1 := (sC.2 z (Ne.symm TOz)).trans zB
  refine wpAny_bind (wpAny_bind (wpAny_onRaise ?_))
  show wpAny _ _ (Builtin.SmallTypes.nextOf (.ref i2) >>= fun v => pure (some v)) _ _ _
  refine wpAny_bind (drawT (s := { s with heap := HC }) h2C hl2C hy fun HD h2D sD => wpAny_pure ?_)
  dsimp only at sD ⊢
  have h1D : HD.IsTupleIter i1 l1 (k1 + 1) := let ⟨o, e, r⟩ := h1C; ⟨o, (sD.2 i1 i12).trans e, r⟩
  have hTOD : IsPair HD TO x b := (sD.2 TO TOi2).trans hTOC
  have zD : ZipO HD z TI TO .ellipsis f1 := (sD.2 z (Ne.symm i2z)).trans zC
  refine wpAny_bind (m := seqItems? (.ref TO)) (wpAny_seqItems hTOD rfl ?_)
  dsimp only
  refine wpAny_bind (wpAny_updateSeq hTOD rfl ?_ (by show 2 ≤ sizeLine; decide) (by show 2 ≤ _; decide))
  have sE := Heap.SameBut.update (h := HD) TO (Obj.mapSeq fun (x_2 : Array Value) => x_2.setIfInBounds 1 y)
  have hTOE : IsPair (HD.update TO (Obj.mapSeq fun (x_2 : Array Value) => x_2.setIfInBounds 1 y)) TO x y := Heap.get?_update_self _ hTOD rfl
  generalize HD.update TO (Obj.mapSeq fun (x_2 : Array Value) => x_2.setIfInBounds 1 y) = HE at *
  refine wpAny_bind (wpAny_letGo (wpAny_pure (wpAny_pure ?_)))
  dsimp only
  have h1E : HE.IsTupleIter i1 l1 (k1 + 1) := let ⟨o, e, r⟩ := h1D; ⟨o, (sE.2 i1 (Ne.symm TOi1)).trans e, r⟩
  have h2E : HE.IsTupleIter i2 l2 (k2 + 1) := let ⟨o, e, r⟩ := h2D; ⟨o, (sE.2 i2 (Ne.symm TOi2)).trans e, r⟩
  have zE : ZipO HE z TI TO .ellipsis f1 := (sE.2 z (Ne.symm TOz)).trans zD
  have hsz : HE.objs.size = s.heap.objs.size := by rw [sE.1, sD.1, sC.1, sB.1, sA.1]
  have kE : ∀ c o, c ≠ z → c ≠ TO → c ≠ i1 → c ≠ i2 → s.heap.get? c = some o → HE.get? c = some o := fun c o n1 n2 n3 n4 e => by
    rw [sE.2 c n2, sD.2 c n4, sC.2 c n2, sB.2 c n3, sA.2 c n1]
    exact e
  refine wpAny_bind (m := seqItems? (.ref TO)) (wpAny_seqItems hTOE rfl ?_)
  dsimp only
  refine wpAny_bind (m := newTuple [x, y]) (wpAny_newObj_type ?_ (by show 2 ≤ sizeLine; decide))
  have hzs : z < HE.objs.size := Heap.lt_size zE
  have hF : IsPair (HE.push { cls := .type "tuple", data := .seq #[x, y] }) s.heap.objs.size x y := by rw [← hsz]; exact Heap.get?_push_size _ rfl
  have kF : ∀ c o, HE.get? c = some o → (HE.push { cls := .type "tuple", data := .seq #[x, y] }).get? c = some o := fun c o e => Heap.get?_push_of_some _ e
  have szF : (HE.push { cls := .type "tuple", data := .seq #[x, y] }).objs.size = s.heap.objs.size + 1 := by rw [Heap.size_push, hsz]
  have zF := kF _ _ zE
  generalize hHF : HE.push { cls := .type "tuple", data := .seq #[x, y] } = HF at *
  dsimp only
  rw [hsz]
  unfold Builtin.SmallTypes.ownedTupleHandOut
  refine wpAny_bind (wpAny_bind (wpAny_setField zF rfl (by simp) ?_))
  have sG := Heap.SameBut.update (h := HF) z (Obj.mapFields fun (q : Array Value) => q.setIfInBounds 0 (rawInt (s.heap.objs.size : Int)))
  have zG : ZipO (HF.update z (Obj.mapFields fun (q : Array Value) => q.setIfInBounds 0 (rawInt (s.heap.objs.size : Int)))) z TI TO (rawInt (s.heap.objs.size : Int)) f1 := Heap.get?_update_self _ zF rfl
  generalize HF.update z (Obj.mapFields fun (q : Array Value) => q.setIfInBounds 0 (rawInt (s.heap.objs.size : Int))) = HG at *
  refine wpAny_setField zG rfl (by simp) ?_
  have sH := Heap.SameBut.update (h := HG) z (Obj.mapFields fun (q : Array Value) => q.setIfInBounds 1 (.bool false))
  have zH : ZipO (HG.update z (Obj.mapFields fun (q : Array Value) => q.setIfInBounds 1 (.bool false))) z TI TO (rawInt (s.heap.objs.size : Int)) (.bool false) := Heap.get?_update_self _ zG rfl
  generalize HG.update z (Obj.mapFields fun (q : Array Value) => q.setIfInBounds 1 (.bool false)) = HH at *
  have kH : ∀ c o, c ≠ z → HF.get? c = some o → HH.get? c = some o := fun c o n e => by
    rw [sH.2 c n, sG.2 c n]
    exact e
  have zlt : z ≠ s.heap.objs.size := Nat.ne_of_lt (by rw [← hsz]; exact hzs)
  refine wpAny_pure ⟨_, rfl, k HH zH (kH _ _ TOz (kF _ _ hTOE)) ?_ ?_ (kH _ _ (Ne.symm zlt) hF) (by rw [sH.1, sG.1, szF]) fun c o n1 n2 n3 n4 e => kH c o n1 (kF c o (kE c o n1 n2 n3 n4 e))⟩
  · obtain ⟨o, e, r⟩ := h1E
    exact ⟨o, kH _ _ i1z (kF _ _ e), r⟩
  · obtain ⟨o, e, r⟩ := h2E
    exact ⟨o, kH _ _ i2z (kF _ _ e), r⟩
theorem alive {M : Model} {a : Addr} {Q : Option Obj → Shared → Prop} (h : Q (s.heap.get? a) s) : wpAny M A (loadIfAlive a) Q E s := fun Γ p _ => by
  unfold loadIfAlive
  rw [Sem.wp_loadIfAlive]
  exact h
theorem free_none {z TI TO : Addr} {f1 : Value} (hz : ZipO s.heap z TI TO .none f1) (Q : Bool → Shared → Prop) (q : Q true s) : wpAny (model prog w) A (Builtin.SmallTypes.ownedTupleIsFree (.ref z)) Q E s := by
  unfold Builtin.SmallTypes.ownedTupleIsFree
  exact wpAny_bind (m := field (.ref z) 0) (wpAny_field hz rfl (x := .none) rfl (wpAny_pure q))
theorem free_dead {z TI TO : Addr} {f1 : Value} {T : Nat} (hz : ZipO s.heap z TI TO (rawInt (T : Int)) f1) (hT : s.heap.get? T = none) (Q : Bool → Shared → Prop) (q : Q true s) : wpAny (model prog w) A (Builtin.SmallTypes.ownedTupleIsFree (.ref z)) Q E s := by
  unfold Builtin.SmallTypes.ownedTupleIsFree
  refine wpAny_bind (m := field (.ref z) 0) (wpAny_field hz rfl (x := rawInt (T : Int)) rfl ?_)
  refine wpAny_bind (m := loadIfAlive (T : Int).toNat) (alive ?_)
  rw [Int.toNat_natCast, hT]
  exact wpAny_pure q
theorem busy {z TI TO : Addr} {f1 : Value} {T : Nat} {o : Obj} {Q : Bool → Shared → Prop} (hz : ZipO s.heap z TI TO (rawInt (T : Int)) f1) (hT : s.heap.get? T = some o)
    (q : ∀ h' f1', ZipO h' z TI TO (rawInt (T : Int)) f1' → Heap.SameBut z s.heap h' → Q false { s with heap := h' }) : wpAny (model prog w) A (Builtin.SmallTypes.ownedTupleIsFree (.ref z)) Q E s := by
  unfold Builtin.SmallTypes.ownedTupleIsFree
  refine wpAny_bind (m := field (.ref z) 0) (wpAny_field hz rfl (x := rawInt (T : Int)) rfl ?_)
  refine wpAny_bind (m := loadIfAlive (T : Int).toNat) (alive ?_)
  rw [Int.toNat_natCast, hT]
  show wpAny _ _ (field (.ref z) 1 >>= _) _ _ _
  refine wpAny_bind (m := field (.ref z) 1) (wpAny_field hz rfl (x := f1) rfl ?_)
  by_cases c : (f1 != Value.bool true) = true
  · rw [if_pos c]
    refine wpAny_bind (wpAny_setField hz rfl (by simp) (wpAny_pure (q _ (.bool true) ?_ (Heap.SameBut.update ..))))
    exact Heap.get?_update_self _ hz rfl
  · rw [if_neg c]
    exact wpAny_pure (q s.heap f1 hz (Heap.SameBut.refl ..))
theorem zipItemN {z TI TO i1 i2 l1 l2 : Addr} {k1 k2 T : Nat} {o : Obj} {xs ys : Array Value} {x y f1 : Value} {Q : Value → Shared → Prop} (ap : ZipApart z TI TO i1 i2 l1 l2) (hz : ZipO s.heap z TI TO (rawInt (T : Int)) f1) (hT : s.heap.get? T = some o) (hTI : IsPair s.heap TI (.ref i1) (.ref i2))
    (h1 : s.heap.IsTupleIter i1 l1 k1) (h2 : s.heap.IsTupleIter i2 l2 k2) (hl1 : s.heap.IsTuple l1 xs) (hl2 : s.heap.IsTuple l2 ys) (hx : xs[k1]? = some x) (hy : ys[k2]? = some y)
    (k : ∀ h' f1', ZipO h' z TI TO (rawInt (T : Int)) f1' → h'.IsTupleIter i1 l1 (k1 + 1) → h'.IsTupleIter i2 l2 (k2 + 1) → IsPair h' s.heap.objs.size x y → h'.objs.size = s.heap.objs.size + 1 →
      (∀ c o, c ≠ z → c ≠ i1 → c ≠ i2 → s.heap.get? c = some o → h'.get? c = some o) → Q (.ref s.heap.objs.size) { s with heap := h' }) :
    wpAny (model prog w) A (Builtin.«zip.__next__» ⟨[.ref z], []⟩) (fun fin s' => ∃ v, fin = .done (.ret v) ∧ Q v s') E s := by
  unfold Builtin.«zip.__next__»
  refine wpAny_bind (m := slotArgs "__next__" 0 ⟨[.ref z], []⟩) (wpAny_of_eq (a := (Value.ref z, [])) (by rfl) ?_)
  refine wpAny_bind (m := field (.ref z) 2) (wpAny_field hz rfl (x := .bool false) rfl ?_)
  refine wpAny_bind (m := field (.ref z) 3) (wpAny_field hz rfl (x := .ref TI) rfl ?_)
  refine wpAny_bind (m := seqItems? (.ref TI)) (wpAny_seqItems hTI rfl ?_)
  dsimp only
  rw [if_neg (by intro z; cases z)]
  obtain ⟨TIz, TOz, i1z, i2z, TITO, TIi1, TIi2, TOi1, TOi2, i12, l1z, l1TO, l1i1, l1i2, l2z, l2TO, l2i1, l2i2⟩ := ap
  refine wpAny_bind (m := Builtin.SmallTypes.ownedTupleIsFree (.ref z)) (busy hz hT fun HA f1' zA sA => ?_)
  rw [if_neg (by intro z; cases z)]
  have h1A : HA.IsTupleIter i1 l1 k1 := let ⟨o, e, r⟩ := h1; ⟨o, (sA.2 i1 i1z).trans e, r⟩
  have h2A : HA.IsTupleIter i2 l2 k2 := let ⟨o, e, r⟩ := h2; ⟨o, (sA.2 i2 i2z).trans e, r⟩
  have hl1A : HA.IsTuple l1 xs := let ⟨o, e, r⟩ := hl1; ⟨o, (sA.2 l1 l1z).trans e, r⟩
  have hl2A : HA.IsTuple l2 ys := let ⟨o, e, r⟩ := hl2; ⟨o, (sA.2 l2 l2z).trans e, r⟩
  refine wpAny_bind ?_
  rw [← Array.forIn_toList]
  show wpAny _ _ (forIn [Value.ref i1, Value.ref i2] _ _) _ _ _
  simp only [List.forIn_cons, List.forIn_nil]
  refine wpAny_bind (wpAny_bind (wpAny_holding ?_))
  show wpAny _ _ (Builtin.SmallTypes.nextOf (.ref i1) >>= fun v => pure (some v)) _ _ _
  refine wpAny_bind (drawT (s := { s with heap := HA }) h1A hl1A hx fun HB h1B sB => wpAny_pure ?_)
  dsimp only at sB ⊢
  have h2B : HB.IsTupleIter i2 l2 k2 := let ⟨o, e, r⟩ := h2A; ⟨o, (sB.2 i2 (Ne.symm i12)).trans e, r⟩
  have hl2B : HB.IsTuple l2 ys := let ⟨o, e, r⟩ := hl2A; ⟨o, (sB.2 l2 l2i1).trans e, r⟩
  have zB : ZipO HB z TI TO (rawInt (T : Int)) f1' := (sB.2 z (Ne.symm i1z)).trans zA
  refine wpAny_pure (wpAny_bind (wpAny_bind (wpAny_holding ?_)))
  show wpAny _ _ (Builtin.SmallTypes.nextOf (.ref i2) >>= fun v => pure (some v)) _ _ _
  refine wpAny_bind (drawT (s := { s with heap := HB }) h2B hl2B hy fun HC h2C sC => wpAny_pure ?_)
  dsimp only at sC ⊢
  have h1C : HC.IsTupleIter i1 l1 (k1 + 1) := let ⟨o, e, r⟩ := h1B; ⟨o, (sC.2 i1 i12).trans e, r⟩
  have zC : ZipO HC z TI TO (rawInt (T : Int)) f1' := (sC.2 z (Ne.symm i2z)).trans zB
  refine wpAny_pure (wpAny_pure ?_)
  dsimp only
  have hsz : HC.objs.size = s.heap.objs.size := by rw [sC.1, sB.1, sA.1]
  have kC : ∀ c o, c ≠ z → c ≠ i1 → c ≠ i2 → s.heap.get? c = some o → HC.get? c = some o := fun c o n1 n3 n4 e => by
    rw [sC.2 c n4, sB.2 c n3, sA.2 c n1]
    exact e
  refine wpAny_bind (m := newTuple [x, y]) (wpAny_newObj_type ?_ (by show 2 ≤ sizeLine; decide))
  have hF : IsPair (HC.push { cls := .type "tuple", data := .seq #[x, y] }) s.heap.objs.size x y := by rw [← hsz]; exact Heap.get?_push_size _ rfl
  have kF : ∀ c o, HC.get? c = some o → (HC.push { cls := .type "tuple", data := .seq #[x, y] }).get? c = some o := fun c o e => Heap.get?_push_of_some _ e
  have szF : (HC.push { cls := .type "tuple", data := .seq #[x, y] }).objs.size = s.heap.objs.size + 1 := by rw [Heap.size_push, hsz]
  have zF := kF _ _ zC
  refine wpAny_pure ⟨_, rfl, ?_⟩
  dsimp only
  rw [hsz]
  refine k _ f1' zF ?_ ?_ hF szF fun c o n1 n3 n4 e => kF c o (kC c o n1 n3 n4 e)
  · obtain ⟨o, e, r⟩ := h1C
    exact ⟨o, kF _ _ e, r⟩
  · obtain ⟨o, e, r⟩ := h2C
    exact ⟨o, kF _ _ e, r⟩
theorem zipEndT {z TI TO i1 i2 l1 l2 : Addr} {k1 k2 : Nat} {xs ys : Array Value} {a b f0 f1 : Value} {Q : PySem.Fin → Shared → Prop} (hh : A.handled = none) (ap : ZipApart z TI TO i1 i2 l1 l2) (hz : ZipO s.heap z TI TO f0 f1) (hfree : ∀ Q : Bool → Shared → Prop, Q true s → wpAny (model prog w) A (Builtin.SmallTypes.ownedTupleIsFree (.ref z)) Q E s) (hTI : IsPair s.heap TI (.ref i1) (.ref i2)) (hTO : IsPair s.heap TO a b)
    (h1 : s.heap.IsTupleIter i1 l1 k1) (h2 : s.heap.IsTupleIter i2 l2 k2) (hl1 : s.heap.IsTuple l1 xs) (hl2 : s.heap.IsTuple l2 ys) (hx : xs[k1]? = none ∨ ys[k2]? = none)
    (k : ∀ h' e, (∀ c o, c ≠ z → c ≠ TO → c ≠ i1 → c ≠ i2 → s.heap.get? c = some o → h'.get? c = some o) → (∃ o, h'.get? e = some o ∧ o.cls = .type "StopIteration") → E (.ref e) { s with heap := h' }) :
    wpAny (model prog w) A (Builtin.«zip.__next__» ⟨[.ref z], []⟩) Q E s := by
  unfold Builtin.«zip.__next__»
  refine wpAny_bind (m := slotArgs "__next__" 0 ⟨[.ref z], []⟩) (wpAny_of_eq (a := (Value.ref z, [])) (by rfl) ?_)
  refine wpAny_bind (m := field (.ref z) 2) (wpAny_field hz rfl (x := .bool false) rfl ?_)
  refine wpAny_bind (m := field (.ref z) 3) (wpAny_field hz rfl (x := .ref TI) rfl ?_)
  refine wpAny_bind (m := seqItems? (.ref TI)) (wpAny_seqItems hTI rfl ?_)
  dsimp only
  rw [if_neg (by intro z; cases z)]
  refine wpAny_bind (m := Builtin.SmallTypes.ownedTupleIsFree (.ref z)) (hfree _ ?_)
  rw [if_pos rfl]
  refine wpAny_bind (wpAny_rule ?_)
  refine wpAny_bind (m := field (.ref z) 4) (wpAny_field hz rfl (x := .ref TO) rfl ?_)
  dsimp only
  refine wpAny_bind (wpAny_setField hz rfl (by simp) ?_)
  obtain ⟨TIz, TOz, i1z, i2z, TITO, TIi1, TIi2, TOi1, TOi2, i12, l1z, l1TO, l1i1, l1i2, l2z, l2TO, l2i1, l2i2⟩ := ap
  have sA := Heap.SameBut.update (h := s.heap) z (Obj.mapFields fun (x : Array Value) => x.setIfInBounds 0 Value.ellipsis)
  have zA : ZipO (s.heap.update z (Obj.mapFields fun (x : Array Value) => x.setIfInBounds 0 Value.ellipsis)) z TI TO .ellipsis f1 := Heap.get?_update_self _ hz rfl
  generalize hHA : s.heap.update z (Obj.mapFields fun (x : Array Value) => x.setIfInBounds 0 Value.ellipsis) = HA at *
  refine wpAny_bind ?_
  show wpAny _ _ (forIn [(Value.ref i1, 0), (Value.ref i2, 1)] _ _) _ _ _
  simp only [List.forIn_cons, List.forIn_nil]
  refine wpAny_bind (wpAny_bind (wpAny_onRaise ?_))
  show wpAny _ _ (Builtin.SmallTypes.nextOf (.ref i1) >>= fun v => pure (some v)) _ _ _
  have h1A : HA.IsTupleIter i1 l1 k1 := let ⟨o, e, r⟩ := h1; ⟨o, (sA.2 i1 i1z).trans e, r⟩
  have h2A : HA.IsTupleIter i2 l2 k2 := let ⟨o, e, r⟩ := h2; ⟨o, (sA.2 i2 i2z).trans e, r⟩
  have hl1A : HA.IsTuple l1 xs := let ⟨o, e, r⟩ := hl1; ⟨o, (sA.2 l1 l1z).trans e, r⟩
  have hl2A : HA.IsTuple l2 ys := let ⟨o, e, r⟩ := hl2; ⟨o, (sA.2 l2 l2z).trans e, r⟩
  have hTOA : IsPair HA TO a b := (sA.2 TO TOz).trans hTO
  have last : ∀ (h' : Heap) (e : Addr) (g1 : Value), ZipO h' z TI TO .ellipsis g1 → (∀ c o, c ≠ z → c ≠ TO → c ≠ i1 → c ≠ i2 → s.heap.get? c = some o → h'.get? c = some o) → (∃ o, h'.get? e = some o ∧ o.cls = .type "StopIteration") →
      wpAny (model prog w) A (setField (.ref z) 0 Value.none) (fun _ s'' => E (.ref e) s'') E { s with heap := h' } := fun h' e g1 hz' kp he => by
    have se := Heap.SameBut.update (h := h') z (Obj.mapFields fun (x : Array Value) => x.setIfInBounds 0 Value.none)
    refine wpAny_setField hz' rfl (by simp) (k _ e (fun c o n1 n2 n3 n4 q => (se.2 c n1).trans (kp c o n1 n2 n3 n4 q)) ?_)
    obtain ⟨o, ho, hc⟩ := he
    have nz : e ≠ z := by
      intro q
      rw [q, hz'] at ho
      cases ho
      have hc' : Value.type "zip" = Value.type "StopIteration" := hc
      exact absurd hc' (by decide)
    exact ⟨o, (se.2 e nz).trans ho, hc⟩
  cases hxk : xs[k1]? with
  | none =>
    refine wpAny_bind (drawT_end (s := { s with heap := HA }) hh h1A hl1A hxk fun h' e eb he => ?_)
    exact last h' e f1 (eb z _ (Ne.symm i1z) zA) (fun c o n1 n2 n3 n4 q => eb c o n3 ((sA.2 c n1).trans q)) he
  | some x =>
    have hyk : ys[k2]? = none := by
      rcases hx with q | q
      · rw [hxk] at q; cases q
      · exact q
    refine wpAny_bind (drawT (s := { s with heap := HA }) h1A hl1A hxk fun HB h1B sB => wpAny_pure ?_)
    dsimp only at sB ⊢
    have h2B : HB.IsTupleIter i2 l2 k2 := let ⟨o, e, r⟩ := h2A; ⟨o, (sB.2 i2 (Ne.symm i12)).trans e, r⟩
    have hl2B : HB.IsTuple l2 ys := let ⟨o, e, r⟩ := hl2A; ⟨o, (sB.2 l2 l2i1).trans e, r⟩
    have hTOB : IsPair HB TO a b := (sB.2 TO TOi1).trans hTOA
    have zB : ZipO HB z TI TO .ellipsis f1 := (sB.2 z (Ne.symm i1z)).trans zA
    refine wpAny_bind (m := seqItems? (.ref TO)) (wpAny_seqItems hTOB rfl ?_)
    dsimp only
    refine wpAny_bind (wpAny_updateSeq hTOB rfl ?_ (by show 2 ≤ sizeLine; decide) (by show 2 ≤ _; decide))
    have sC := Heap.SameBut.update (h := HB) TO (Obj.mapSeq fun (x_2 : Array Value) => x_2.setIfInBounds 0 x)
    generalize HB.update TO (Obj.mapSeq fun (x_2 : Array Value) => x_2.setIfInBounds 0 x) = HC at *
    refine wpAny_bind (wpAny_letGo (wpAny_pure ?_))
    dsimp only
    have h2C : HC.IsTupleIter i2 l2 k2 := let ⟨o, e, r⟩ := h2B; ⟨o, (sC.2 i2 (Ne.symm TOi2)).trans e, r⟩
    have hl2C : HC.IsTuple l2 ys := let ⟨o, e, r⟩ := hl2B; ⟨o, (sC.2 l2 l2TO).trans e, r⟩
    have zC : ZipO HC z TI TO .ellipsis f1 := (sC.2 z (Ne.symm TOz)).trans zB
    refine wpAny_bind (wpAny_bind (wpAny_onRaise ?_))
    show wpAny _ _ (Builtin.SmallTypes.nextOf (.ref i2) >>= fun v => pure (some v)) _ _ _
    refine wpAny_bind (drawT_end (s := { s with heap := HC }) hh h2C hl2C hyk fun h' e eb he => ?_)
    exact last h' e f1 (eb z _ (Ne.symm i2z) zC) (fun c o n1 n2 n3 n4 q => eb c o n4 ((sC.2 c n2).trans ((sB.2 c n3).trans ((sA.2 c n1).trans q)))) he
theorem zipEndN {z TI TO i1 i2 l1 l2 : Addr} {k1 k2 T : Nat} {o : Obj} {xs ys : Array Value} {f1 : Value} {Q : PySem.Fin → Shared → Prop} (hh : A.handled = none) (ap : ZipApart z TI TO i1 i2 l1 l2) (hz : ZipO s.heap z TI TO (rawInt (T : Int)) f1) (hT : s.heap.get? T = some o) (hTI : IsPair s.heap TI (.ref i1) (.ref i2))
    (h1 : s.heap.IsTupleIter i1 l1 k1) (h2 : s.heap.IsTupleIter i2 l2 k2) (hl1 : s.heap.IsTuple l1 xs) (hl2 : s.heap.IsTuple l2 ys) (hx : xs[k1]? = none ∨ ys[k2]? = none)
    (k : ∀ h' e, (∀ c o, c ≠ z → c ≠ TO → c ≠ i1 → c ≠ i2 → s.heap.get? c = some o → h'.get? c = some o) → (∃ o, h'.get? e = some o ∧ o.cls = .type "StopIteration") → E (.ref e) { s with heap := h' }) :
    wpAny (model prog w) A (Builtin.«zip.__next__» ⟨[.ref z], []⟩) Q E s := by
  unfold Builtin.«zip.__next__»
  refine wpAny_bind (m := slotArgs "__next__" 0 ⟨[.ref z], []⟩) (wpAny_of_eq (a := (Value.ref z, [])) (by rfl) ?_)
  refine wpAny_bind (m := field (.ref z) 2) (wpAny_field hz rfl (x := .bool false) rfl ?_)
  refine wpAny_bind (m := field (.ref z) 3) (wpAny_field hz rfl (x := .ref TI) rfl ?_)
  refine wpAny_bind (m := seqItems? (.ref TI)) (wpAny_seqItems hTI rfl ?_)
  dsimp only
  rw [if_neg (by intro z; cases z)]
  obtain ⟨TIz, TOz, i1z, i2z, TITO, TIi1, TIi2, TOi1, TOi2, i12, l1z, l1TO, l1i1, l1i2, l2z, l2TO, l2i1, l2i2⟩ := ap
  refine wpAny_bind (m := Builtin.SmallTypes.ownedTupleIsFree (.ref z)) (busy hz hT fun HA f1' zA sA => ?_)
  rw [if_neg (by intro z; cases z)]
  have h1A : HA.IsTupleIter i1 l1 k1 := let ⟨o, e, r⟩ := h1; ⟨o, (sA.2 i1 i1z).trans e, r⟩
  have h2A : HA.IsTupleIter i2 l2 k2 := let ⟨o, e, r⟩ := h2; ⟨o, (sA.2 i2 i2z).trans e, r⟩
  have hl1A : HA.IsTuple l1 xs := let ⟨o, e, r⟩ := hl1; ⟨o, (sA.2 l1 l1z).trans e, r⟩
  have hl2A : HA.IsTuple l2 ys := let ⟨o, e, r⟩ := hl2; ⟨o, (sA.2 l2 l2z).trans e, r⟩
  refine wpAny_bind ?_
  rw [← Array.forIn_toList]
  show wpAny _ _ (forIn [Value.ref i1, Value.ref i2] _ _) _ _ _
  simp only [List.forIn_cons, List.forIn_nil]
  refine wpAny_bind (wpAny_bind (wpAny_holding ?_))
  show wpAny _ _ (Builtin.SmallTypes.nextOf (.ref i1) >>= fun v => pure (some v)) _ _ _
  cases hxk : xs[k1]? with
  | none =>
    refine wpAny_bind (drawT_end (s := { s with heap := HA }) hh h1A hl1A hxk fun h' e eb he => ?_)
    exact k h' e (fun c o n1 n2 n3 n4 q => eb c o n3 ((sA.2 c n1).trans q)) he
  | some x =>
    have hyk : ys[k2]? = none := by
      rcases hx with q | q
      · rw [hxk] at q; cases q
      · exact q
    refine wpAny_bind (drawT (s := { s with heap := HA }) h1A hl1A hxk fun HB h1B sB => wpAny_pure ?_)
    dsimp only at sB ⊢
    have h2B : HB.IsTupleIter i2 l2 k2 := let ⟨o, e, r⟩ := h2A; ⟨o, (sB.2 i2 (Ne.symm i12)).trans e, r⟩
    have hl2B : HB.IsTuple l2 ys := let ⟨o, e, r⟩ := hl2A; ⟨o, (sB.2 l2 l2i1).trans e, r⟩
    refine wpAny_pure (wpAny_bind (wpAny_bind (wpAny_holding ?_)))
    show wpAny _ _ (Builtin.SmallTypes.nextOf (.ref i2) >>= fun v => pure (some v)) _ _ _
    refine wpAny_bind (drawT_end (s := { s with heap := HB }) hh h2B hl2B hyk fun h' e eb he => ?_)
    exact k h' e (fun c o n1 n2 n3 n4 q => eb c o n4 ((sB.2 c n3).trans ((sA.2 c n1).trans q))) he
/-- the zip object and its parts, behind i items -/
structure ZipS (h : Heap) (z TI TO i1 i2 l1 l2 : Addr) (i : Nat) : Prop where
  zo : ∃ f0 f1, ZipO h z TI TO f0 f1 ∧ (f0 = .none ∨ ∃ T : Nat, f0 = rawInt (T : Int))
  ti : IsPair h TI (.ref i1) (.ref i2)
  to : ∃ a b, IsPair h TO a b
  it1 : h.IsTupleIter i1 l1 i
  it2 : h.IsTupleIter i2 l2 i
theorem nextZip {z TI TO i1 i2 l1 l2 : Addr} {i : Nat} {xs ys : Array Value} {x y : Value} {Q : Option Value → Shared → Prop} (ap : ZipApart z TI TO i1 i2 l1 l2) (S : ZipS s.heap z TI TO i1 i2 l1 l2 i) (hl1 : s.heap.IsTuple l1 xs) (hl2 : s.heap.IsTuple l2 ys) (hx : xs[i]? = some x) (hy : ys[i]? = some y)
    (k : ∀ h', ZipS h' z TI TO i1 i2 l1 l2 (i + 1) → IsPair h' s.heap.objs.size x y → h'.objs.size = s.heap.objs.size + 1 → (∀ c o, c ≠ z → c ≠ TO → c ≠ i1 → c ≠ i2 → s.heap.get? c = some o → h'.get? c = some o) → Q (some (.ref s.heap.objs.size)) { s with heap := h' }) :
    wpAny (model prog w) A (pyNext (.ref z)) Q E s := by
  obtain ⟨⟨f0, f1, hz, hf⟩, hti, ⟨a, b, hto⟩, h1, h2⟩ := S
  have ty : s.TypeIs (.ref z) "zip" := ⟨_, hz, rfl⟩
  unfold pyNext
  refine wpAny_bind (wpAny_attempt ?_)
  refine wpAny_callSpecial?_slot (name := Str.ofString "__next__") ty F.slot_zip_next (wpAny_call_entry F.slot_zip_next ty F.entry_zip_next ?_ (F.args_zip_next_1 _))
  have own : ∀ (E' : Value → Shared → Prop) (A' : Around), (∀ Q : Bool → Shared → Prop, Q true s → wpAny (model prog w) A' (Builtin.SmallTypes.ownedTupleIsFree (.ref z)) Q E' s) → wpAny (model prog w) A' (Builtin.«zip.__next__» ⟨[.ref z], []⟩) (fun fin s' => ∃ v, fin = .done (.ret v) ∧ wpAny (model prog w) A (pure (some v)) Q E s') E' s := fun E' A' fr => by
    refine zipItemT ap hz fr hti hto h1 h2 hl1 hl2 hx hy fun h' z' to' t1 t2 pr sz kp => wpAny_pure (k h' ⟨⟨_, _, z', .inr ⟨_, rfl⟩⟩, kp _ _ ap.TIz ap.TITO ap.TIi1 ap.TIi2 hti, ⟨_, _, to'⟩, t1, t2⟩ pr sz kp)
  rcases hf with rfl | ⟨T, rfl⟩
  · exact own _ _ fun Q q => free_none hz Q q
  · cases hT : s.heap.get? T with
    | none => exact own _ _ fun Q q => free_dead hz hT Q q
    | some o =>
      refine zipItemN ap hz hT hti h1 h2 hl1 hl2 hx hy fun h' f1' z' t1 t2 pr sz kp => wpAny_pure (k h' ⟨⟨_, _, z', .inr ⟨_, rfl⟩⟩, kp _ _ ap.TIz ap.TIi1 ap.TIi2 hti, ⟨a, b, kp _ _ ap.TOz ap.TOi1 ap.TOi2 hto⟩, t1, t2⟩ pr sz fun c o n1 n2 n3 n4 q => kp c o n1 n3 n4 q)
theorem endZip {z TI TO i1 i2 l1 l2 : Addr} {i : Nat} {xs ys : Array Value} {Q : Option Value → Shared → Prop} (hh : A.handled = none) (ap : ZipApart z TI TO i1 i2 l1 l2) (S : ZipS s.heap z TI TO i1 i2 l1 l2 i) (hl1 : s.heap.IsTuple l1 xs) (hl2 : s.heap.IsTuple l2 ys) (hx : xs[i]? = none ∨ ys[i]? = none)
    (k : ∀ h', (∀ c o, c ≠ z → c ≠ TO → c ≠ i1 → c ≠ i2 → s.heap.get? c = some o → h'.get? c = some o) → Q none { s with heap := h' }) :
    wpAny (model prog w) A (pyNext (.ref z)) Q E s := by
  obtain ⟨⟨f0, f1, hz, hf⟩, hti, ⟨a, b, hto⟩, h1, h2⟩ := S
  have ty : s.TypeIs (.ref z) "zip" := ⟨_, hz, rfl⟩
  unfold pyNext
  refine wpAny_bind (wpAny_attempt ?_)
  refine wpAny_callSpecial?_slot (name := Str.ofString "__next__") ty F.slot_zip_next (wpAny_call_entry F.slot_zip_next ty F.entry_zip_next ?_ (F.args_zip_next_1 _))
  have stop : ∀ (h' : Heap) (e : Addr), (∀ c o, c ≠ z → c ≠ TO → c ≠ i1 → c ≠ i2 → s.heap.get? c = some o → h'.get? c = some o) → (∃ o, h'.get? e = some o ∧ o.cls = .type "StopIteration") →
      wpAny (model prog w) A (isInstance (.ref e) (.type "StopIteration") >>= fun d => if d = true then pure none else throw (.ref e)) Q E { s with heap := h' } := fun h' e kp he => by
    obtain ⟨o, ho, hc⟩ := he
    refine wpAny_bind (wpAny_isInstance (T := "StopIteration") (b := true) ⟨o, ho, hc⟩ rfl ?_)
    rw [if_pos rfl]
    exact wpAny_pure (k h' kp)
  rcases hf with rfl | ⟨T, rfl⟩
  · exact zipEndT hh ap hz (fun Q q => free_none hz Q q) hti hto h1 h2 hl1 hl2 hx stop
  · cases hT : s.heap.get? T with
    | none => exact zipEndT hh ap hz (fun Q q => free_dead hz hT Q q) hti hto h1 h2 hl1 hl2 hx stop
    | some o => exact zipEndN hh ap hz hT hti h1 h2 hl1 hl2 hx stop
/-- the owned pair is let go, or not, by the target's kind -/
theorem letGoZip {tg : Expr} {z TI TO i1 i2 l1 l2 a : Addr} {i : Nat} {Q : Unit → Shared → Prop} (ap : ZipApart z TI TO i1 i2 l1 l2) (S : ZipS s.heap z TI TO i1 i2 l1 l2 i) (k : ∀ h', ZipS h' z TI TO i1 i2 l1 l2 i → Heap.SameBut z s.heap h' → Q () { s with heap := h' }) :
    wpAny (model prog w) A (letOwnedTupleGo tg (.ref z) (.ref a)) Q E s := by
  have S' := S
  obtain ⟨⟨f0, f1, hz, hf⟩, hti, ⟨b, c, hto⟩, h1, h2⟩ := S'
  have way : wpAny (model prog w) A (load z >>= fun o => match o.cls, o.data with
        | Value.type n, Data.fields vs => if (["enumerate", "zip", "dict_itemiterator", "dict_reverseitemiterator", "odict_iterator", "itertools.zip_longest", "itertools.pairwise"].contains n && vs[0]? == some (rawInt (a : Int))) = true then do
            rule "for.unpacks-the-owned-tuple"
            updateField z 0 Value.none
          else pure ()
        | _, _ => pure ()) Q E s := by
    refine wpAny_bind (wpAny_load hz ?_)
    dsimp only
    split
    · refine wpAny_bind (wpAny_rule ?_)
      have sA := Heap.SameBut.update (h := s.heap) z (Obj.mapFields fun (x : Array Value) => x.setIfInBounds 0 Value.none)
      have zA : ZipO (s.heap.update z (Obj.mapFields fun (x : Array Value) => x.setIfInBounds 0 Value.none)) z TI TO .none f1 := Heap.get?_update_self _ hz rfl
      show wpAny _ _ (setField (.ref z) 0 Value.none) _ _ _
      refine wpAny_setField hz rfl (by simp) (k _ ⟨⟨_, _, zA, .inl rfl⟩, (sA.2 _ ap.TIz).trans hti, ⟨b, c, (sA.2 _ ap.TOz).trans hto⟩, ?_, ?_⟩ sA)
      · obtain ⟨o, e, r⟩ := h1
        exact ⟨o, (sA.2 _ ap.i1z).trans e, r⟩
      · obtain ⟨o, e, r⟩ := h2
        exact ⟨o, (sA.2 _ ap.i2z).trans e, r⟩
    · exact wpAny_pure (k _ S (Heap.SameBut.refl ..))
  cases tg with
  | Tuple => exact way
  | List => exact way
  | _ => exact wpAny_pure (k _ S (Heap.SameBut.refl ..))
theorem apart_new (n a b : Nat) (ha : a < n) (hb : b < n) : ZipApart (n + 4) (n + 2) (n + 3) n (n + 1) a b := by
  constructor <;> (intro q; have q' : (_ : Nat) = _ := q; omega)
theorem iterZip {z TI TO : Addr} {f0 f1 : Value} {Q : Value → Shared → Prop} (hz : ZipO s.heap z TI TO f0 f1) (q : Q (.ref z) s) : wpAny (model prog w) A (pyIter (.ref z)) Q E s := by
  have ty : s.TypeIs (.ref z) "zip" := ⟨_, hz, rfl⟩
  refine wpAny_pyIter_slot ty F.slot_zip_iter (wpAny_call_entry F.slot_zip_iter ty F.entry_zip_iter ?_ (F.args_zip_iter_1 _))
  unfold Builtin.«dict_keyiterator.__iter__»
  refine wpAny_bind (m := slotArgs "__iter__" 0 ⟨[.ref z], []⟩) (wpAny_of_eq (a := (Value.ref z, [])) (by rfl) ?_)
  exact wpAny_pure ⟨_, rfl, "zip", _, ty, F.slot_zip_next.lookup, q⟩
abbrev zT1 (h : Heap) (l1 : Addr) : Heap := h.push { cls := .type "tuple_iterator", data := .fields #[.ref l1, .int 0 0] }
abbrev zT2 (h : Heap) (l1 l2 : Addr) : Heap := (zT1 h l1).push { cls := .type "tuple_iterator", data := .fields #[.ref l2, .int 0 0] }
abbrev zT3 (h : Heap) (l1 l2 : Addr) : Heap := (zT2 h l1 l2).push { cls := .type "tuple", data := .seq #[.ref h.objs.size, .ref (zT1 h l1).objs.size] }
abbrev zT4 (h : Heap) (l1 l2 : Addr) : Heap := (zT3 h l1 l2).push { cls := .type "tuple", data := .seq #[.none, .none] }
abbrev zT5 (h : Heap) (l1 l2 : Addr) : Heap := (zT4 h l1 l2).push { cls := .type "zip", data := .fields #[.none, .bool false, .bool false, .ref (zT2 h l1 l2).objs.size, .ref (zT3 h l1 l2).objs.size] }
theorem newZipT (l1 l2 : Addr) (xs ys : Array Value) :
    Meets (Builtin.«zip.__new__» ⟨[.type "zip", .ref l1, .ref l2], []⟩) (fun _ R s => s.heap.IsTuple l1 xs ∧ s.heap.IsTuple l2 ys ∧ R (.ok (.ret (.ref (zT4 s.heap l1 l2).objs.size))) { s with heap := zT5 s.heap l1 l2 }) :=
  .of_wp fun prog w A R s h => by
    obtain ⟨hp, g, d, tk, os⟩ := s
    obtain ⟨hl1, hl2, h⟩ := h
    have hsub := sub_zip
    have hT2 : Heap.IsTuple (zT1 hp l1) l2 ys := let ⟨o, e, r⟩ := hl2; ⟨o, Heap.get?_push_of_some _ e, r⟩
    wp_walk using wpAny_pyIter_tuple hl1, wpAny_pyIter_tuple (s := ⟨zT1 hp l1, g, d, tk, os⟩) hT2
    exact ⟨_, rfl, h⟩
/-- zip(t, u), of tuples -/
theorem callZipT {l1 l2 : Addr} {xs ys : Array Value} {Q : Value → Shared → Prop} (hL1 : s.heap.IsTuple l1 xs) (hL2 : s.heap.IsTuple l2 ys)
    (k : ∀ h', ZipS h' (s.heap.objs.size + 4) (s.heap.objs.size + 2) (s.heap.objs.size + 3) s.heap.objs.size (s.heap.objs.size + 1) l1 l2 0 → h'.objs.size = s.heap.objs.size + 5 → (∀ c o, s.heap.get? c = some o → h'.get? c = some o) → Q (.ref (s.heap.objs.size + 4)) { s with heap := h' }) :
    wpAny (model prog w) A (call (.type "zip") [.ref l1, .ref l2]) Q E s := by
  refine callType_new F.called_zip (by decide) (F.typeCall_zip_2 _ _) (F.newCall_zip_2 _ _) (fun obj => F.args_object_init_3 obj _ _) F.entry_zip_new (newZipT l1 l2 xs ys) ⟨hL1, hL2, ?_⟩
  have z1 : (zT1 s.heap l1).objs.size = s.heap.objs.size + 1 := Heap.size_push ..
  have z2 : (zT2 s.heap l1 l2).objs.size = s.heap.objs.size + 2 := by rw [Heap.size_push, z1]
  have z3 : (zT3 s.heap l1 l2).objs.size = s.heap.objs.size + 3 := by rw [Heap.size_push, z2]
  have z4 : (zT4 s.heap l1 l2).objs.size = s.heap.objs.size + 4 := by rw [Heap.size_push, z3]
  have e1 : (zT1 s.heap l1).get? s.heap.objs.size = some { cls := .type "tuple_iterator", data := .fields #[.ref l1, .int 0 0] } := Heap.get?_push_size _ rfl
  have e2 : (zT2 s.heap l1 l2).get? (s.heap.objs.size + 1) = some { cls := .type "tuple_iterator", data := .fields #[.ref l2, .int 0 0] } := by rw [← z1]; exact Heap.get?_push_size _ rfl
  have e3 : (zT3 s.heap l1 l2).get? (s.heap.objs.size + 2) = some { cls := .type "tuple", data := .seq #[.ref s.heap.objs.size, .ref (zT1 s.heap l1).objs.size] } := by rw [← z2]; exact Heap.get?_push_size _ rfl
  have e4 : (zT4 s.heap l1 l2).get? (s.heap.objs.size + 3) = some { cls := .type "tuple", data := .seq #[.none, .none] } := by rw [← z3]; exact Heap.get?_push_size _ rfl
  have e5 : (zT5 s.heap l1 l2).get? (s.heap.objs.size + 4) = some { cls := .type "zip", data := .fields #[.none, .bool false, .bool false, .ref (zT2 s.heap l1 l2).objs.size, .ref (zT3 s.heap l1 l2).objs.size] } := by rw [← z4]; exact Heap.get?_push_size _ rfl
  rw [z2, z3] at e5
  rw [z1] at e3
  have up : ∀ {h : Heap} {o u : Obj} {c : Addr}, h.get? c = some u → (h.push o).get? c = some u := fun q => Heap.get?_push_of_some _ q
  show _ ∧ _
  rw [z4]
  refine ⟨⟨_, e5, rfl⟩, k _ ⟨⟨_, _, e5, .inl rfl⟩, up (up e3), ⟨_, _, up e4⟩, ⟨_, up (up (up (up e1))), rfl, rfl⟩, ⟨_, up (up (up e2)), rfl, rfl⟩⟩ (by rw [Heap.size_push, z4]) fun c o q => up (up (up (up (up q))))⟩
end
end HI
namespace L2
open PySem PySem.Spec PyProof.Rows
/-- zip of the tuples at a and b: a new pair a turn -/
def Itz (K : PySem.W.Frag) (a b : Addr) : It :=
  ⟨fun i H => ∃ xs ys x y, SqT K H a xs ∧ SqT K H b ys ∧ xs[i]? = some x ∧ ys[i]? = some y, fun i H v H' => ∃ p x y, v = .ref p ∧ H p = none ∧ H' = upd H p (.tup [x, y]) ∧ ∀ xs ys, SqT K H a xs → SqT K H b ys → xs[i]? = some x ∧ ys[i]? = some y,
    fun i H => ∃ xs ys, SqT K H a xs ∧ SqT K H b ys ∧ (xs.length ≤ i ∨ ys.length ≤ i)⟩
theorem turn_zip {P : Program} {w : World} {K : PySem.W.Frag} {tg : Expr} (a b z TI TO i1 i2 : Addr) (ap : ZipApart z TI TO i1 i2 a b) :
    Turn P w K tg (Itz K a b) [z, TI, TO, i1, i2] z (fun i h => HI.ZipS h z TI TO i1 i2 a b i) where
  mem := by simp
  obj := fun i h st c hc => by
    obtain ⟨⟨f0, f1, hz, _⟩, hti, ⟨u, v, hto⟩, ⟨o1, e1, c1, d1⟩, ⟨o2, e2, c2, d2⟩⟩ := st
    simp only [List.mem_cons, List.not_mem_nil, or_false] at hc
    rcases hc with rfl | rfl | rfl | rfl | rfl
    · exact ⟨_, hz, fun v q => by cases q⟩
    · exact ⟨_, hti, fun v q => by cases q⟩
    · exact ⟨_, hto, fun v q => by cases q⟩
    · exact ⟨_, e1, fun v q => by rw [d1] at q; cases q⟩
    · exact ⟨_, e2, fun v q => by rw [d2] at q; cases q⟩
  keep := fun i h h' st kk => by
    obtain ⟨⟨f0, f1, hz, hf⟩, hti, ⟨u, v, hto⟩, ⟨o1, e1, r1⟩, ⟨o2, e2, r2⟩⟩ := st
    exact ⟨⟨f0, f1, kk z (by simp) _ hz, hf⟩, kk TI (by simp) _ hti, ⟨u, v, kk TO (by simp) _ hto⟩, ⟨o1, kk i1 (by simp) _ e1, r1⟩, ⟨o2, kk i2 (by simp) _ e2, r2⟩⟩
  item := by
    intro X hP hw hK hc i pins s σ H E I hf st hg
    subst hP hw hK
    obtain ⟨xs, ys, x, y, hq, hq2, hx, hy⟩ := hg
    obtain ⟨its, rv, p, hz⟩ := I.tuple hq
    obtain ⟨its2, rv2, p2, hz2⟩ := I.tuple hq2
    obtain ⟨u, hu, ru⟩ := rv.get hx
    obtain ⟨u2, hu2, ru2⟩ := rv2.get hy
    refine HI.nextZip (xs := its.toArray) (ys := its2.toArray) ap st p p2 (by simpa using hu) (by simpa using hu2) fun h' S' pr sz kp => ?_
    refine ⟨_, rfl, HI.letGoZip ap S' fun h2 S2 sb => ?_⟩
    have nT : H s.heap.objs.size = none := I.hok.fresh (Nat.le_refl _)
    have zlt : z < s.heap.objs.size := by obtain ⟨⟨f0, f1, q, _⟩, _⟩ := st; exact Heap.lt_size q
    have kk : ∀ c o, c ∉ [z, TI, TO, i1, i2] → s.heap.get? c = some o → h2.get? c = some o := fun c o hn q => by
      simp only [List.mem_cons, List.not_mem_nil, or_false, not_or] at hn
      exact (sb.2 c hn.1).trans (kp c o hn.1 hn.2.2.1 hn.2.2.2.1 hn.2.2.2.2 q)
    have nit : ∀ c v, H c = some v → c ∉ [z, TI, TO, i1, i2] := fun c v q hm => by
      have := (hf c hm).1
      rw [this] at q
      cases q
    have hT2 : h2.get? s.heap.objs.size = some { cls := .type "tuple", data := .seq #[u, u2] } := (sb.2 _ (Nat.ne_of_gt zlt)).trans pr
    have ne1 : ∀ c v, H c = some v → c ≠ s.heap.objs.size := fun c v q => ne_of_none q nT
    have hok : HOk X.prog X.w (upd H s.heap.objs.size (.tup [x, y])) h2 := fun c ob q => by
      by_cases hb : c = s.heap.objs.size
      · subst hb
        rw [upd_same] at q
        cases q
        exact ⟨by show 2 ≤ sizeLine; decide, [u, u2], .cons ru (.cons ru2 .nil), ⟨_, hT2, rfl, _, rfl⟩⟩
      · rw [upd_ne hb] at q
        refine (I.hok c ob q).stay (fun d v hd r => ?_) (fun d r => by rw [upd_ne (ne1 _ _ r)]; exact r) fun d ys r => by rw [upd_ne (ne1 _ _ r)]; exact r
        have nc : d ∉ [z, TI, TO, i1, i2] := by
          rcases hd with e | e
          · rw [e]; exact nit c ob q
          · exact nit d _ e
        exact kk d v nc r
    have I2 : Inv X pins σ (upd H s.heap.objs.size (.tup [x, y])) { s with heap := h2 } := by
      refine I.step (g' := s.gens) (d' := s.drawn) (t' := s.toks) (ch := [z, TI, TO, i1, i2]) (fun c hc' => ?_) (fun c o _ _ hc' q _ => kk c o hc' q) (fun c o _ _ hc' q _ => ⟨o.slots, kk c o hc' q⟩)
        (fun c o _ q n => by rw [upd_ne (Nat.ne_of_lt (Heap.lt_size q))]; exact n) (fun c o hc' q => ⟨o, kk c o hc' q⟩) (fun c ys q => by rw [upd_ne (ne1 _ _ q)]; exact q) (fun c o u q => by rw [upd_ne (ne1 _ _ q)]; exact q)
        (fun c ps q => ⟨#[], by rw [upd_ne (ne1 _ _ q), q]; simp⟩) (fun m hm => ?_) hok I.bare
      · obtain ⟨f0, f1, f2, f3, f4, f5⟩ := hf c hc'
        exact ⟨f3, f1, f4, f5⟩
      · obtain ⟨o, es', ep, ho', r⟩ := hm
        refine ⟨o, es', ep, kk _ o (fun hm' => ?_) ho', r⟩
        exact (hf _ hm').2.1 rfl
    refine ⟨.ref s.heap.objs.size, _, I2, rfl, ⟨_, x, y, rfl, nT, rfl, fun zs ws hz' hw' => by rw [I.tuple_inj hz' hq, I.tuple_inj hw' hq2]; exact ⟨hx, hy⟩⟩, S2, fun c hc' => ?_⟩
    have h0 := (hf c hc').1
    have hlt : c < s.heap.objs.size := by
      obtain ⟨⟨f0, f1, q, _⟩, hti, ⟨_, _, hto⟩, ⟨o1, e1, _⟩, ⟨o2, e2, _⟩⟩ := st
      simp only [List.mem_cons, List.not_mem_nil, or_false] at hc'
      rcases hc' with rfl | rfl | rfl | rfl | rfl
      · exact Heap.lt_size q
      · exact Heap.lt_size hti
      · exact Heap.lt_size hto
      · exact Heap.lt_size e1
      · exact Heap.lt_size e2
    rw [upd_ne (Nat.ne_of_lt hlt)]
    exact h0
  done := by
    intro X hP hw hK hc i pins s σ H E I hf st hg
    subst hP hw hK
    obtain ⟨xs, ys, hq, hq2, hx⟩ := hg
    obtain ⟨its, rv, p, hz⟩ := I.tuple hq
    obtain ⟨its2, rv2, p2, hz2⟩ := I.tuple hq2
    have l1 := rv.length
    have l2 := rv2.length
    refine HI.endZip (xs := its.toArray) (ys := its2.toArray) (I.ok.hd hc) ap st p p2 (by
      rcases hx with q | q
      · exact .inl (by simp; omega)
      · exact .inr (by simp; omega)) fun h' kp => ⟨rfl, ?_⟩
    refine I.step (g' := s.gens) (d' := s.drawn) (t' := s.toks) (ch := [z, TI, TO, i1, i2]) (H' := H) (fun c hc' => ?_) (fun c o _ _ hc' q _ => ?_) (fun c o _ _ hc' q _ => ?_) (fun c o _ q n => n) (fun c o hc' q => ?_) (fun c ys q => q) (fun c o u q => q) (fun c ps q => ⟨#[], by rw [q]; simp⟩) (fun m hm => ?_) (fun c ob q => ?_) I.bare
    · obtain ⟨f0, f1, f2, f3, f4, f5⟩ := hf c hc'
      exact ⟨f3, f1, f4, f5⟩
    · simp only [List.mem_cons, List.not_mem_nil, or_false, not_or] at hc'
      exact kp c o hc'.1 hc'.2.2.1 hc'.2.2.2.1 hc'.2.2.2.2 q
    · simp only [List.mem_cons, List.not_mem_nil, or_false, not_or] at hc'
      exact ⟨o.slots, kp c o hc'.1 hc'.2.2.1 hc'.2.2.2.1 hc'.2.2.2.2 q⟩
    · simp only [List.mem_cons, List.not_mem_nil, or_false, not_or] at hc'
      exact ⟨o, kp c o hc'.1 hc'.2.2.1 hc'.2.2.2.1 hc'.2.2.2.2 q⟩
    · obtain ⟨o, es', ep, ho', r⟩ := hm
      have nl : ∀ c ∈ [z, TI, TO, i1, i2], X.env.locals ≠ c := fun c hc' e => (hf c hc').2.1 e.symm
      exact ⟨o, es', ep, kp _ o (nl z (by simp)) (nl TO (by simp)) (nl i1 (by simp)) (nl i2 (by simp)) ho', r⟩
    · refine (I.hok c ob q).stay (fun d v hd r => ?_) (fun d r => r) fun d ys r => r
      have nd : ∀ e, H d = some e → ∀ c ∈ [z, TI, TO, i1, i2], d ≠ c := fun e q' c hc' e' => by
        have := (hf c hc').1
        rw [← e', q'] at this
        cases this
      have hd' : ∃ e, H d = some e := by
        rcases hd with e | e
        · rw [e]; exact ⟨_, q⟩
        · exact ⟨_, e⟩
      obtain ⟨e, he⟩ := hd'
      exact kp d v (nd e he z (by simp)) (nd e he TO (by simp)) (nd e he i1 (by simp)) (nd e he i2 (by simp)) r
  self := fun _ _ _ _ _ st h => by
    obtain ⟨⟨f0, f1, hz, _⟩, _⟩ := st
    exact HI.iterZip hz h
section
variable {X : Cx}
def iZip (K : PySem.W.Frag) (ta : TA) : TI := fun σ H R => ta σ H fun vs H1 => ∃ a b, vs = [.ref a, .ref b] ∧ (∃ xs ys, SqT K H1 a xs ∧ SqT K H1 b ys) ∧ R (Itz K a b) H1
theorem pi_zip {tg a b : Expr} {ta : TA} {p pos : Pos} (hg : Gl X "zip") (hm : X.mg "zip" = none) (ha : PA X [a, b] ta) (hs : starEach [a, b] X.env = [(false, eval a X.env), (false, eval b X.env)] := by rfl) (hs2 : starEach [b] X.env = [(false, eval b X.env)] := by rfl) :
    PI X tg (.Call (.Name "zip" p) [a, b] [] pos) (iZip X.K ta) := by
  intro pins s σ H R I h
  refine Call_ (ld_blt I hg hm boot_zip (PyProof.Rows.callWith_type1 (thn (ha pos pins s σ H _ I h) fun us s1 ⟨vs, H1, I1, r1, q1⟩ => ?_) (by rw [hs, hs2]) (by rw [hs2]; rfl)))
  obtain ⟨l1, l2, e, ⟨xs, ys, hq1, hq2⟩, q⟩ := q1
  subst e
  cases r1 with
  | cons r rr =>
    cases rr with
    | cons r' rr =>
      cases rr
      cases r
      cases r'
      obtain ⟨its, rv, pt, hz⟩ := I1.tuple hq1
      obtain ⟨its2, rv2, pt2, hz2⟩ := I1.tuple hq2
      have lt1 : l1 < s1.heap.objs.size := by obtain ⟨o, e, _⟩ := pt; exact Heap.lt_size e
      have lt2 : l2 < s1.heap.objs.size := by obtain ⟨o, e, _⟩ := pt2; exact Heap.lt_size e
      refine HI.callZipT (show s1.heap.IsTuple l1 its.toArray from pt) (show s1.heap.IsTuple l2 its2.toArray from pt2) fun h' S' hsz hk => ?_
      have I2 : Inv X pins σ H1 { s1 with heap := h' } := I1.kept (t' := s1.toks) hk
      obtain ⟨f0, f1, zo, hf⟩ := S'.zo
      have ap : ZipApart (s1.heap.objs.size + 4) (s1.heap.objs.size + 2) (s1.heap.objs.size + 3) s1.heap.objs.size (s1.heap.objs.size + 1) l1 l2 := HI.apart_new _ _ _ lt1 lt2
      refine HI.iterZip zo ⟨s1.heap.objs.size + 4, [s1.heap.objs.size + 4, s1.heap.objs.size + 2, s1.heap.objs.size + 3, s1.heap.objs.size, s1.heap.objs.size + 1], _, _, H1, rfl, I2, turn_zip l1 l2 _ _ _ _ _ ap, S', fun b hb => ?_, q⟩
      have hb' : s1.heap.objs.size ≤ b := by
        simp only [List.mem_cons, List.not_mem_nil, or_false] at hb
        rcases hb with rfl | rfl | rfl | rfl | rfl
        · exact Nat.le_add_right _ _
        · exact Nat.le_add_right _ _
        · exact Nat.le_add_right _ _
        · exact Nat.le_refl _
        · exact Nat.le_add_right _ _
      exact I1.fpOk hb' (I1.hok.fresh hb')
end
/-- over zip of tuples that stay -/
theorem for_zip {K : PySem.W.Frag} {a b : Addr} {xs ys : List V} {g : TG} {tb : TS} {D : Ends} {σ : St} {H : Hp} (Pv : Nat → St → Hp → Prop) (h0 : Pv 0 σ H) (hl : ∀ i σ H, i ≤ min xs.length ys.length → Pv i σ H → SqT K H a xs ∧ SqT K H b ys)
    (hs : ∀ i x y σ H p, xs[i]? = some x → ys[i]? = some y → Pv i σ H → H p = none → g (.ref p) σ (upd H p (.tup [x, y])) fun σ2 H2 => tb { D with nx := Pv (i + 1), ct := Pv (i + 1), bk := D.nx } σ2 H2) (hd : ∀ σ H, Pv (min xs.length ys.length) σ H → D.nx σ H) :
    ∃ W : Nat → Nat → St → Hp → Prop, (∃ m, W 0 m σ H) ∧ ∀ i m σ H, W i m σ H →
      ((Itz K a b).stop i H ∧ D.nx σ H) ∨ ((Itz K a b).go i H ∧ ∃ N : St → Hp → Prop, (∀ σ' H', N σ' H' → ∃ m', m' < m ∧ W (i + 1) m' σ' H') ∧ ∀ x H', (Itz K a b).yld i H x H' → g x σ H' fun σ2 H2 => tb { D with nx := N, ct := N, bk := D.nx } σ2 H2) := by
  refine ⟨fun i m σ H => m = min xs.length ys.length - i ∧ i ≤ min xs.length ys.length ∧ Pv i σ H, ⟨min xs.length ys.length, by simp, Nat.zero_le _, h0⟩, ?_⟩
  rintro i m σ H ⟨rfl, hi, p⟩
  obtain ⟨q1, q2⟩ := hl i σ H hi p
  by_cases hlt : i < min xs.length ys.length
  · have l1 : i < xs.length := by omega
    have l2 : i < ys.length := by omega
    refine .inr ⟨⟨xs, ys, xs[i], ys[i], q1, q2, by simp [l1], by simp [l2]⟩, Pv (i + 1), fun σ' H' p' => ⟨min xs.length ys.length - (i + 1), by omega, rfl, hlt, p'⟩, fun v H' y => ?_⟩
    obtain ⟨pp, x, y, rfl, hp, rfl, z⟩ := y
    obtain ⟨z1, z2⟩ := z xs ys q1 q2
    exact hs i x y σ _ pp z1 z2 p hp
  · have e : i = min xs.length ys.length := by omega
    refine .inl ⟨⟨xs, ys, q1, q2, by omega⟩, hd σ H (by rw [← e]; exact p)⟩
theorem comp_zip {K : PySem.W.Frag} {a b D : Addr} {xs ys : List V} {g : TG} {tt : TT} {te : TE} {σ0 : St} {Q : VK} {Hs : Hp} (Pv : Nat → List V → Hp → Prop) (h0 : Pv 0 [] Hs) (hl : ∀ i acc H, i ≤ min xs.length ys.length → Pv i acc H → SqT K H a xs ∧ SqT K H b ys)
    (hs : ∀ i x y acc H p, xs[i]? = some x → ys[i]? = some y → Pv i acc H → H p = none → g (.ref p) σ0 (upd H p (.tup [x, y])) fun σ2 H2 => Wk σ0 σ2 ∧ tt σ2 H2 fun b H3 => if b = true then te σ2 H3 fun y H4 => H4 D = some (.lst acc) ∧ acc.length < sizeLine ∧ Pv (i + 1) (acc ++ [y]) (upd H4 D (.lst (acc ++ [y]))) else Pv (i + 1) acc H3)
    (hd : ∀ acc H, Pv (min xs.length ys.length) acc H → Q (.ref D) H) : LoopC (Itz K a b) g tt te σ0 D Q Hs := by
  refine ⟨fun i m acc H => m = min xs.length ys.length - i ∧ i ≤ min xs.length ys.length ∧ Pv i acc H, ⟨min xs.length ys.length, by simp, Nat.zero_le _, h0⟩, ?_⟩
  rintro i m acc H ⟨rfl, hi, p⟩
  obtain ⟨q1, q2⟩ := hl i acc H hi p
  by_cases hlt : i < min xs.length ys.length
  · have l1 : i < xs.length := by omega
    have l2 : i < ys.length := by omega
    refine .inr ⟨⟨xs, ys, xs[i], ys[i], q1, q2, by simp [l1], by simp [l2]⟩, Pv (i + 1), fun acc' H' p' => ⟨min xs.length ys.length - (i + 1), by omega, rfl, hlt, p'⟩, fun v H' y => ?_⟩
    obtain ⟨pp, x, y, rfl, hp, rfl, z⟩ := y
    obtain ⟨z1, z2⟩ := z xs ys q1 q2
    exact hs i x y acc _ pp z1 z2 p hp
  · have e : i = min xs.length ys.length := by omega
    exact .inl ⟨⟨xs, ys, q1, q2, by omega⟩, hd acc H (by rw [← e]; exact p)⟩
end L2

set_option Elab.async false
set_option linter.all false
set_option maxRecDepth 100000
set_option maxHeartbeats 4000000
namespace HI
open PySem PyProof.Rows
section
variable {prog : Program} {w : World} {A : Around} {E : Value → Shared → Prop} {s : Shared} {R : Result → Shared → Prop}
theorem maxLoop0 {I S t : Addr} {its : Array Value} {v : Value} {c : Nat} (hI : s.heap.IsTupleIter I t 0) (ht : s.heap.IsTuple t its) (hv : its[0]? = some v) (hS : s.heap.get? S = some { cls := .type "list", data := .seq #[] c }) (hIS : S ≠ I)
    (k : ∀ h' c', h'.IsTupleIter I t 1 → h'.get? S = some { cls := .type "list", data := .seq #[v, v] c' } → (∀ b o, b ≠ I → b ≠ S → s.heap.get? b = some o → h'.get? b = some o) → codeAny (model prog w) A (Code.builtin "max.loop" ⟨[.ref I, .none, .ref S], []⟩) R { s with heap := h' }) :
    codeAny (model prog w) A (Code.builtin "max.loop" ⟨[.ref I, .none, .ref S], []⟩) R s := by
  refine codeAny_builtin F.entry_max_loop ?_
  unfold Builtin.«max.loop»
  refine wpAny_bind (m := seqItems? (.ref S)) (wpAny_seqItems hS rfl ?_)
  refine wpAny_bind (wpAny_tryCatch (wpAny_pyNext_tuple_item hI ht hv fun h' h1 sb => ?_))
  have hS' : h'.get? S = some { cls := .type "list", data := .seq #[] c } := (sb.2 S hIS).trans hS
  refine wpAny_bind (wpAny_pure ?_)
  dsimp only
  refine wpAny_bind (wpAny_updateSeq hS' rfl ?_ (by show 0 ≤ sizeLine; decide) (by show 2 ≤ _; decide))
  have sC := Heap.SameBut.update (h := h') S (Obj.mapSeq fun (_ : Array Value) => #[v, v])
  have hC : ∃ c', (h'.update S (Obj.mapSeq fun (_ : Array Value) => #[v, v])).get? S = some { cls := .type "list", data := .seq #[v, v] c' } := ⟨_, Heap.get?_update_self _ hS' rfl⟩
  generalize h'.update S (Obj.mapSeq fun (_ : Array Value) => #[v, v]) = HC at *
  obtain ⟨c', hC⟩ := hC
  refine wpAny_pure ⟨rfl, k HC c' ?_ hC fun b o n1 n2 e => ?_⟩
  · obtain ⟨o, e, r⟩ := h1
    exact ⟨o, (sC.2 I (Ne.symm hIS)).trans e, r⟩
  · rw [sC.2 b n2, sb.2 b n1]
    exact e
theorem maxLoop1 {I S t : Addr} {its : Array Value} {i : Nat} {v u : Value} {c : Nat} {b : Bool} (hI : s.heap.IsTupleIter I t i) (ht : s.heap.IsTuple t its) (hv : its[i]? = some v) (hS : s.heap.get? S = some { cls := .type "list", data := .seq #[u, u] c }) (hIS : S ≠ I)
    (cmp : ∀ (A' : Around) (h' : Heap) (Q : Value → Shared → Prop) (E' : Value → Shared → Prop), A'.units ≤ (A.under (Code.builtin "max.loop" ⟨[.ref I, .none, .ref S], []⟩)).units → (∀ b o, b ≠ I → s.heap.get? b = some o → h'.get? b = some o) → Q (.bool b) { s with heap := h' } → wpAny (model prog w) A' (richCompare .Gt v u) Q E' { s with heap := h' })
    (k : ∀ h' c', h'.IsTupleIter I t (i + 1) → h'.get? S = some { cls := .type "list", data := .seq (if b = true then #[v, v] else #[u, u]) c' } → (∀ b o, b ≠ I → b ≠ S → s.heap.get? b = some o → h'.get? b = some o) → codeAny (model prog w) A (Code.builtin "max.loop" ⟨[.ref I, .none, .ref S], []⟩) R { s with heap := h' }) :
    codeAny (model prog w) A (Code.builtin "max.loop" ⟨[.ref I, .none, .ref S], []⟩) R s := by
  refine codeAny_builtin F.entry_max_loop ?_
  unfold Builtin.«max.loop»
  refine wpAny_bind (m := seqItems? (.ref S)) (wpAny_seqItems hS rfl ?_)
  refine wpAny_bind (wpAny_tryCatch (wpAny_pyNext_tuple_item hI ht hv fun h' h1 sb => ?_))
  have hS' : h'.get? S = some { cls := .type "list", data := .seq #[u, u] c } := (sb.2 S hIS).trans hS
  refine wpAny_bind (wpAny_pure ?_)
  dsimp only
  refine wpAny_bind (wpAny_tryCatch (wpAny_holding (wpAny_bind (cmp _ _ _ _ (Nat.le_refl _) (fun b o n e => (sb.2 b n).trans e) ?_))))
  refine wpAny_bind (wpAny_holding (wpAny_truthy_bool ?_))
  refine wpAny_bind (wpAny_letGo (wpAny_pure ?_))
  cases b with
  | true =>
    rw [if_pos rfl]
    refine wpAny_bind (wpAny_updateSeq hS' rfl ?_ (by show 2 ≤ sizeLine; decide) (by show 2 ≤ _; decide))
    have sC := Heap.SameBut.update (h := h') S (Obj.mapSeq fun (_ : Array Value) => #[v, v])
    have hC : (h'.update S (Obj.mapSeq fun (_ : Array Value) => #[v, v])).get? S = some { cls := .type "list", data := .seq #[v, v] c } := Heap.get?_update_self _ hS' rfl
    generalize h'.update S (Obj.mapSeq fun (_ : Array Value) => #[v, v]) = HC at *
    refine wpAny_bind (wpAny_letGo (wpAny_pure ⟨rfl, k HC c ?_ hC fun b o n1 n2 e => ?_⟩))
    · obtain ⟨o, e, r⟩ := h1
      exact ⟨o, (sC.2 I (Ne.symm hIS)).trans e, r⟩
    · rw [sC.2 b n2, sb.2 b n1]
      exact e
  | false =>
    rw [if_neg (by decide)]
    exact wpAny_bind (wpAny_letGo (wpAny_pure ⟨rfl, k h' c h1 hS' fun b o n1 n2 e => (sb.2 b n1).trans e⟩))
theorem maxLoop2 {I S t : Addr} {its : Array Value} {i : Nat} {u : Value} {c : Nat} (hh : A.handled = none) (hI : s.heap.IsTupleIter I t i) (ht : s.heap.IsTuple t its) (hv : its[i]? = none) (hS : s.heap.get? S = some { cls := .type "list", data := .seq #[u, u] c }) (hIS : S ≠ I)
    (k : ∀ h', (∀ b o, b ≠ I → b ≠ S → s.heap.get? b = some o → h'.get? b = some o) → R (.ok (.ret u)) { s with heap := h' }) :
    codeAny (model prog w) A (Code.builtin "max.loop" ⟨[.ref I, .none, .ref S], []⟩) R s := by
  refine codeAny_builtin F.entry_max_loop ?_
  unfold Builtin.«max.loop»
  refine wpAny_bind (m := seqItems? (.ref S)) (wpAny_seqItems hS rfl ?_)
  refine wpAny_bind (wpAny_tryCatch (wpAny_pyNext_tuple_end hh hI ht hv fun h' eb => ?_))
  dsimp only
  have hS' : h'.get? S = some { cls := .type "list", data := .seq #[u, u] c } := eb S _ hIS hS
  refine wpAny_bind (wpAny_updateSeq hS' rfl ?_ (by show 2 ≤ sizeLine; decide) (by show 0 ≤ _; decide))
  refine wpAny_bind (wpAny_letGo (wpAny_pure (k _ fun b o n1 n2 e => ?_)))
  rw [(Heap.SameBut.update (h := h') S (Obj.mapSeq fun (_ : Array Value) => #[])).2 b n2]
  exact eb b o n1 e
theorem maxPair {t x y : Addr} {vx vy : Array Value} {nx ny : List Int} {Q : Value → Shared → Prop} (hh : A.handled = none) (hu : A.units + 64 < cLine) (ht : s.heap.IsTuple t #[.ref x, .ref y]) (hx : IsTup s.heap x vx) (hy : IsTup s.heap y vy) (ix : IntsAre vx.toList nx) (iy : IntsAre vy.toList ny)
    (k : ∀ h', (∀ c o, s.heap.get? c = some o → h'.get? c = some o) → Q (if HT.lexGt ny nx = true then .ref y else .ref x) { s with heap := h' }) : wpAny (model prog w) A (call (.builtin "max") [.ref t]) Q E s := by
  refine wpAny_call (codeAny_call_builtin_at rfl F.entry_max ?_)
  have hc : checkBuiltinCall "max" ⟨[.ref t], []⟩ = pure () := by rfl
  rw [hc]
  refine wpAny_pure ?_
  unfold Builtin.max
  wp_walk using wpAny_pyIter_tuple ht
  show (Code.builtin "max.loop" ⟨[.ref s.heap.objs.size, .none, .ref (s.heap.push { cls := .type "tuple_iterator", data := .fields #[.ref t, .int 0 0] }).objs.size], []⟩).quiet = true ∧ codeAny (model prog w) A (Code.builtin "max.loop" ⟨[.ref s.heap.objs.size, .none, .ref (s.heap.push { cls := .type "tuple_iterator", data := .fields #[.ref t, .int 0 0] }).objs.size], []⟩) _ _
  refine ⟨rfl, ?_⟩
  have z1 : (s.heap.push { cls := .type "tuple_iterator", data := .fields #[.ref t, .int 0 0] }).objs.size = s.heap.objs.size + 1 := Heap.size_push ..
  have e1 : (s.heap.push { cls := .type "tuple_iterator", data := .fields #[.ref t, .int 0 0] }).get? s.heap.objs.size = some { cls := .type "tuple_iterator", data := .fields #[.ref t, .int 0 0] } := Heap.get?_push_size _ rfl
  have e2 := Heap.get?_push_size (s.heap.push { cls := .type "tuple_iterator", data := .fields #[.ref t, .int 0 0] }) (o := { cls := .type "list", data := .seq #[] }) rfl
  have kp : ∀ c o, s.heap.get? c = some o → ((s.heap.push { cls := .type "tuple_iterator", data := .fields #[.ref t, .int 0 0] }).push { cls := .type "list", data := .seq #[] }).get? c = some o := fun c o e => Heap.get?_push_of_some _ (Heap.get?_push_of_some _ e)
  have e1' := Heap.get?_push_of_some { cls := .type "list", data := .seq #[] } e1
  rw [z1] at e2 ⊢
  generalize hHA : (s.heap.push { cls := .type "tuple_iterator", data := .fields #[.ref t, .int 0 0] }).push { cls := .type "list", data := .seq #[] } = HA at *
  have hS : (s.heap.objs.size + 1 : Addr) ≠ s.heap.objs.size := Nat.succ_ne_self _
  have up : ∀ {h : Heap}, (∀ b o, b ≠ s.heap.objs.size → b ≠ s.heap.objs.size + 1 → HA.get? b = some o → h.get? b = some o) → ∀ c o, s.heap.get? c = some o → h.get? c = some o := fun f c o e => f c o (Nat.ne_of_lt (Heap.lt_size e)) (Nat.ne_of_lt (Nat.lt_succ_of_lt (Heap.lt_size e))) (kp c o e)
  have tupUp : ∀ {h : Heap} {a : Addr} {vs : Array Value}, (∀ c o, s.heap.get? c = some o → h.get? c = some o) → s.heap.IsTuple a vs → h.IsTuple a vs := fun f ⟨o, e, r⟩ => ⟨o, f _ _ e, r⟩
  refine maxLoop0 (s := { s with heap := HA }) (its := #[.ref x, .ref y]) (v := .ref x) ⟨_, e1', rfl, rfl⟩ (tupUp kp ht) rfl e2 hS fun HB c hI hSB kB => ?_
  have kB' := up (h := HB) kB
  refine maxLoop1 (s := { s with heap := HB }) (its := #[.ref x, .ref y]) (v := .ref y) (u := .ref x) (b := HT.lexGt ny nx) hI (tupUp kB' ht) rfl hSB hS (fun A' h' Q' E' hA' kk q => ?_) fun HC c' hI2 hSC kC => ?_
  · have kk' : ∀ c o, s.heap.get? c = some o → h'.get? c = some o := fun c o e => kk c o (Nat.ne_of_lt (Heap.lt_size e)) (kB' c o e)
    refine (HT.gt_tupInts (s := { s with heap := h' }) (tupUp kk' hy) (tupUp kk' hx) iy ix ?_ q : wpAny (model prog w) A' (compareOp .Gt (.ref y) (.ref x)) Q' E' _)
    have hA2 : (A.under (Code.builtin "max.loop" ⟨[.ref s.heap.objs.size, .none, .ref (s.heap.objs.size + 1)], []⟩)).units = A.units + 1 := by first | rfl | simp [Around.under, Code.cUnits, Code.frames, Code.isFrame]
    omega
  have kC' : ∀ c o, s.heap.get? c = some o → HC.get? c = some o := fun c o e => kC c o (Nat.ne_of_lt (Heap.lt_size e)) (Nat.ne_of_lt (Nat.lt_succ_of_lt (Heap.lt_size e))) (kB' c o e)
  have fin : ∀ u : Value, HC.get? (s.heap.objs.size + 1) = some { cls := .type "list", data := .seq #[u, u] c' } → (if HT.lexGt ny nx = true then Value.ref y else .ref x) = u → codeAny (model prog w) A (Code.builtin "max.loop" ⟨[.ref s.heap.objs.size, .none, .ref (s.heap.objs.size + 1)], []⟩) (wants Q E) { s with heap := HC } := fun u hSu eu => by
    refine maxLoop2 (s := { s with heap := HC }) (its := #[.ref x, .ref y]) hh hI2 (tupUp kC' ht) rfl hSu hS fun HD kD => ?_
    show Q u _
    rw [← eu]
    exact k HD fun c o e => kD c o (Nat.ne_of_lt (Heap.lt_size e)) (Nat.ne_of_lt (Nat.lt_succ_of_lt (Heap.lt_size e))) (kC' c o e)
  cases hb : HT.lexGt ny nx with
  | true =>
    rw [hb, if_pos rfl] at hSC
    exact fin _ hSC (by rw [hb]; rfl)
  | false =>
    rw [hb, if_neg (by decide)] at hSC
    exact fin _ hSC (by rw [hb]; rfl)
end
end HI
namespace L2
open PySem PySem.Spec PyProof.Rows
section
variable {X : Cx}
/-- max(t), t a pair of words -/
theorem call_maxW (hc : X.calm = true) (hu : X.A.units + 64 < cLine) : CallR X (.builtin "max") (fun xs H Q => ∃ (t : Addr) (x y : V) (a b : Int × Int), xs = [.ref t] ∧ H t = some (.tup [x, y]) ∧ Tr H x (wordD a) ∧ Tr H y (wordD b) ∧ Q (if gtW b a = true then y else x) H) := by
  intro pins s σ H xs us Q I r h
  obtain ⟨t, x, y, a, b, rfl, ht, ta, tb, q⟩ := h
  obtain ⟨u, rfl, ru⟩ := vals1 r
  cases ru
  obtain ⟨q1, rfl, h1⟩ := ta.wordI
  obtain ⟨q2, rfl, h2⟩ := tb.wordI
  obtain ⟨its, rv, p, _⟩ := I.tuple (SqT.of ht)
  obtain ⟨i1, r1, p1, _⟩ := I.tuple (SqT.of h1 (xs := [a.1, a.2].map V.int))
  obtain ⟨i2, r2, p2, _⟩ := I.tuple (SqT.of h2 (xs := [b.1, b.2].map V.int))
  obtain ⟨w1, w2, rfl, rw1, rw2⟩ := vals2 rv
  cases rw1
  cases rw2
  refine HI.maxPair (x := q1) (y := q2) (I.ok.hd hc) hu p p1 p2 (intsAre_of r1) (intsAre_of r2) fun h' kp => ?_
  refine ⟨if gtW b a = true then .ref q2 else .ref q1, H, I.kept (t' := s.toks) kp, ?_, q⟩
  show RelV (if HT.lexGt [b.1, b.2] [a.1, a.2] = true then V.ref q2 else V.ref q1) _
  cases HT.lexGt [b.1, b.2] [a.1, a.2] <;> rfl
end
end L2

set_option Elab.async false
set_option linter.all false
set_option maxRecDepth 100000
set_option maxHeartbeats 4000000
namespace L2
open PySem PySem.Spec PyProof.Rows
section
variable {X : Cx} {pos : Pos}
/-- a, b, c = x, y, z with plain local names: stored from the right -/
def tPar3 (i j l : Nat) (ta : TA) : TS := fun D σ H => ta σ H fun vs H1 => ∃ v w z, vs = [v, w, z] ∧ D.nx (((σ.set l (some z)).set j (some w)).set i (some v)) H1
theorem ps_par3 {i j l : Nat} {x y z : Str} {a b c : Expr} {ta : TA} {px py pz pt : Pos} {kt k2 pt2} (hc : X.calm = true) (hN : X.N.Nodup) (hi : X.N[i]? = some x) (hj : X.N[j]? = some y) (hl : X.N[l]? = some z)
    (hx : X.env.scope.names.lookup x = some .local) (hy : X.env.scope.names.lookup y = some .local) (hz : X.env.scope.names.lookup z = some .local) (ha : PA X [a, b, c] ta)
    (hw : swappedStores [.Tuple [.Name x px, .Name y py, .Name z pz] kt pt] (.Tuple [a, b, c] k2 pt2) X.env = pure (some [x, y, z]) := by rfl)
    (hs : swapsWithSole [.Tuple [.Name x px, .Name y py, .Name z pz] kt pt] (.Tuple [a, b, c] k2 pt2) pos.line X.env = pure false := by rfl) :
    PS X (.Assign [.Tuple [.Name x px, .Name y py, .Name z pz] kt pt] (.Tuple [a, b, c] k2 pt2) pos) (tPar3 i j l ta) := by
  intro pins s σ H D I h
  rw [exec_Assign_arm]
  refine wpAny_bind (wpAny_standAt ?_)
  rw [hs]
  refine wpAny_bind (wpAny_pure ?_)
  rw [if_neg (by decide)]
  refine wpAny_bind (Tuple_ (thn (ha _ pins s σ H _ I h) fun us s1 ⟨vs, H1, I1, r1, q1⟩ => ?_))
  obtain ⟨v, w, v3, e1, q1⟩ := q1
  subst e1
  obtain ⟨u1, u2, u3, rfl, rv, rw', rz⟩ : ∃ u1 u2 u3, us = [u1, u2, u3] ∧ RelV v u1 ∧ RelV w u2 ∧ RelV v3 u3 := by
    cases r1 with
    | cons p q =>
      cases q with
      | cons p' q' =>
        cases q' with
        | cons p2 q2 =>
          cases q2
          exact ⟨_, _, _, rfl, p, p', p2⟩
  refine wpAny_newObj_type ?_ (by show 3 ≤ sizeLine; decide)
  have I2 : Inv X pins σ H1 { s1 with heap := s1.heap.push { cls := .type "tuple", data := .seq [u1, u2, u3].toArray } } := I1.kept (t' := s1.toks) fun b o e => Heap.get?_push_of_some _ e
  rw [hw]
  refine wpAny_bind (wpAny_pure ?_)
  show wpAny (model X.prog X.w) X.A (do rule "assign.swapped-stores"; let items ← unpackItems (.ref s1.heap.objs.size) 3 none; assignInOrder [fun v => bindName X.env z v, fun v => bindName X.env y v, fun v => bindName X.env x v] items.reverse; pure Flow.next) _ _ _
  refine wpAny_bind (wpAny_rule (wpAny_bind (unpackItems_tuple (items := #[u1, u2, u3]) (I.ok.hd hc) (IsTup.new s1.heap _) fun h' hx' => ?_)))
  have I3 := I2.kept (h' := h') (t' := s1.toks) fun b o e => hx' b o (Nat.ne_of_lt (Heap.lt_size e)) e
  show wpAny _ _ (assignInOrder [fun v => bindName X.env z v, fun v => bindName X.env y v, fun v => bindName X.env x v] [u3, u2, u1] >>= fun _ => pure Flow.next) _ _ _
  refine wpAny_bind (assignInOrder_cons (wpAny_bindName (store_ok I3 hN hl (.inl hz) rz (fun s2 I4 => ?_) (.inr hz))))
  refine assignInOrder_cons (wpAny_bindName (store_ok I4 hN hj (.inl hy) rw' (fun s3 I5 => ?_) (.inr hy)))
  refine assignInOrder_cons (wpAny_bindName (store_ok I5 hN hi (.inl hx) rv (fun s4 I6 => assignInOrder_nil (wpAny_pure ?_)) (.inr hx)))
  exact ⟨_, H1, I6, q1⟩
end
end L2

set_option Elab.async false
set_option linter.all false
set_option maxRecDepth 100000
set_option maxHeartbeats 4000000
namespace HT
open PySem PyProof.Rows
section
variable {prog : Program} {w : World} {A : Around} {E : Value → Shared → Prop} {s : Shared}
theorem getItem_tuple_whole {t sl : Addr} {items : Array Value} {vl vu : Value} {lo hi : Option Int} {Q : Value → Shared → Prop} (ht : IsTup s.heap t items) (hs : s.heap.IsSliceOf sl vl vu .none) (pl : IsPart vl lo) (pu : IsPart vu hi)
    (hw : sIx items.size 0 lo = 0 ∧ sIx items.size items.size hi = items.size) (h : Q (.ref t) s) : wpAny (model prog w) A (getItem (.ref t) (.ref sl)) Q E s := by
  obtain ⟨os, hos, hcs, hds⟩ := id hs
  have hTs : s.TypeIs (.ref sl) "slice" := ⟨os, hos, hcs⟩
  unfold getItem
  try with_reducible refine wpAny_holding ?_
  first | refine wpAny_bind (wpAny_pure ?_) | skip
  refine wpAny_bind (wpAny_sequenceKey ht.typeIs (by decide) ?_)
  refine wpAny_bind (wpAny_callSpecial?_slot (name := Str.ofString "__getitem__") ht.typeIs PyProof.Rows.slot_tuple_getitem
    (wpAny_call_entry PyProof.Rows.slot_tuple_getitem ht.typeIs entry_tuple_getitem ?_ (args_tuple_getitem _ _)))
  show wpAny _ _ (Builtin.Tuple.tupleItemsOf (.ref t) >>= _) _ _ s
  refine wpAny_bind (tupleItemsOf_ ht ?_)
  refine wpAny_bind (wpAny_typeOf hTs ?_)
  rw [if_pos (by decide)]
  refine wpAny_bind (sliceApplied_gen hs pl pu ?_)
  show wpAny _ _ (if (((sIx items.size 0 lo : Nat) : Int) == 0 && (1 : Int) == 1 && (sIx items.size items.size hi - sIx items.size 0 lo) == items.size) = true then _ else _) _ _ s
  have hyes : (((sIx items.size 0 lo : Nat) : Int) == 0 && (1 : Int) == 1 && (sIx items.size items.size hi - sIx items.size 0 lo) == items.size) = true := by
    rw [hw.1, hw.2]
    simp
  rw [if_pos hyes]
  unfold Builtin.Tuple.tupleIsExact
  refine wpAny_bind (wpAny_bind (wpAny_typeOf ht.typeIs (wpAny_pure ?_)))
  rw [if_pos (by rfl)]
  exact wpAny_bind (wpAny_rule (wpAny_pure ⟨_, rfl, wpAny_pure h⟩))
end
end HT
namespace L2
open PySem PySem.Spec PyProof.Rows
section
variable {X : Cx}
/-- t[lo:hi], the whole of it or not -/
theorem sl_tupA : SlR X (fun x lo hi H Q => ∃ a xs, x = .ref a ∧ SqT X.K H a xs ∧ ((HT.sIx xs.length 0 lo = 0 ∧ HT.sIx xs.length xs.length hi = xs.length) → Q (.ref a) H) ∧
    (¬ (HT.sIx xs.length 0 lo = 0 ∧ HT.sIx xs.length xs.length hi = xs.length) → ∀ p, H p = none → Q (.ref p) (upd H p (.tup (cutV xs lo hi))))) := by
  intro pins s σ H x v vl vu lo hi sl Q I rx hs pl pu h
  obtain ⟨a, xs, rfl, hx, q1, q2⟩ := h
  by_cases hw : HT.sIx xs.length 0 lo = 0 ∧ HT.sIx xs.length xs.length hi = xs.length
  · cases rx
    obtain ⟨its, r, ht, hz⟩ := I.tuple hx
    have hlen : its.toArray.size = xs.length := by rw [List.size_toArray]; exact r.length.symm
    refine ⟨"tuple", _, PyProof.Rows.slot_tuple_getitem.lookup, ht.typeIs, ?_⟩
    exact HT.getItem_tuple_whole ht hs pl pu (by rw [hlen]; exact hw) ⟨.ref a, H, I, rfl, q1 hw⟩
  · exact sl_tup pins s σ H (.ref a) v vl vu lo hi sl Q I rx hs pl pu ⟨a, xs, rfl, hx, hw, q2 hw⟩
theorem sl_tupS : SlR X (fun x lo hi H Q => ∃ a xs, x = .ref a ∧ H a = some (.tup xs) ∧ ∀ p H', Same H H' → H' p = some (.tup (cutV xs lo hi)) → Q (.ref p) H') := by
  intro pins s σ H x v vl vu lo hi sl Q I rx hs pl pu h
  obtain ⟨a, xs, rfl, hx, q⟩ := h
  refine sl_tupA pins s σ H (.ref a) v vl vu lo hi sl Q I rx hs pl pu ⟨a, xs, rfl, SqT.of hx, fun hw => ?_, fun _ p hp => ?_⟩
  · refine q a H (Same.refl H) ?_
    have e : cutV xs lo hi = xs := by
      unfold cutV
      rw [hw.1, hw.2]
      simp
    rw [e]
    exact hx
  · exact q p _ (fun a' u e => by rw [upd_ne (ne_of_none e hp)]; exact e) upd_same
/-- l.insert(k, y) -/
def rInsert : V → List V → Hp → VK → Prop := fun x vs H Q => ∃ l xs k y, x = .ref l ∧ vs = [.int k, y] ∧ H l = some (.lst xs) ∧ (0 ≤ k ∧ k ≤ xs.length) ∧ xs.length < 1000 ∧ Q .non (upd H l (.lst (xs.take k.toNat ++ y :: xs.drop k.toNat)))
theorem mt_insert : MtM X "list.insert" rInsert := by
  intro pins s σ H x vs v us Q I rx rv h
  obtain ⟨l, xs, k, y, rfl, rfl, hH, ⟨k0, k1⟩, hz, q⟩ := h
  cases rx
  obtain ⟨u1, u, rfl, ⟨t, rfl⟩, ru⟩ := rv.two
  obtain ⟨z, its, n, r, hl, e⟩ := I.lstM hH
  have hlen := r.length
  have hfit : ¬ (!Builtin.List.listFitsIndex k) = true := by
    have h1 : (xs.length : Int) < 1000 := by omega
    simp [Builtin.List.listFitsIndex]
    omega
  refine call_meets F.slot_list_insert ⟨_, e, rfl⟩ F.entry_list_insert (F.args_list_insert_3 _ _ _) (PySem.AutoSeq1.list_insert_list_int_val_1 l its.toArray n k t u hfit (by rw [List.size_toArray]; exact Nat.le_of_lt (small1000 (by omega)))) ⟨e, ?_⟩
  refine ⟨.non, _, I.lset (its' := its.take k.toNat ++ u :: its.drop k.toNat) hH e ?_ ((r.take _).append (.cons ru (r.drop _))) ?_, rfl, q⟩
  · dsimp only
    rw [if_neg (by omega), List.size_toArray, Nat.min_eq_left (by omega)]
    simp [List.extract_toArray]
    exact List.take_of_length_le (by rw [List.length_drop]; exact Nat.le_refl _)
  · rw [List.length_append, List.length_cons, List.length_take, List.length_drop]
    exact Nat.le_of_lt (small1000 (by omega))
/-- any(xs), xs a list of truths -/
theorem call_any (hc : X.calm = true) : CallR X (.builtin "any") (fun xs H Q => ∃ (p : Addr) (bs : List Bool), xs = [.ref p] ∧ SqL X.K H p (bs.map V.bl) ∧ Q (.bl (bs.any id)) H) := by
  intro pins s σ H xs us Q I r h
  obtain ⟨p, bs, rfl, hq, q⟩ := h
  obtain ⟨u, rfl, ru⟩ := vals1 r
  cases ru
  obtain ⟨its, rv, pl, hz⟩ := I.list hq
  have hlen := rv.length
  rw [List.length_map] at hlen
  have hpl : p < s.heap.objs.size := by
    obtain ⟨o, n, e, _⟩ := pl
    exact Heap.lt_size e
  refine call_any_walk (wpAny_pyIter_list pl.isList ⟨s.heap.objs.size, _, _, _, _, _, fun i => bs.getD i false, rfl, Walks.list (A := X.A.in1) (show X.A.in1.handled = none from I.ok.hd hc) s.heap.objs.size p (Nat.ne_of_lt hpl) its.toArray, ?_, ?_, fun h' tk k => ?_⟩)
  · exact ⟨⟨_, Heap.get?_push_size _ rfl, rfl, rfl⟩, pl.isList.at fun o e => Heap.get?_push_of_some _ e⟩
  · intro i v s' Q' E' hv hQ
    have hv' : its[i]? = some v := by simpa using hv
    have hi : i < bs.length := by rw [hlen]; exact (List.getElem?_eq_some_iff.mp hv').1
    obtain ⟨u, hu, ru⟩ := rv.get (i := i) (x := V.bl bs[i]) (by simp [hi])
    rw [hv'] at hu
    cases hu
    cases ru
    have e : bs.getD i false = bs[i] := by simp [List.getD, hi]
    dsimp only at hQ
    rw [e] at hQ
    exact wpAny_truthy_bool hQ
  · have e : ((List.range its.toArray.size).any fun i => bs.getD i false) = bs.any id := by
      rw [Bool.eq_iff_iff, List.any_eq_true, List.any_eq_true]
      constructor
      · rintro ⟨i, hi, z⟩
        have hi' : i < bs.length := by simpa [← hlen] using hi
        exact ⟨bs[i], List.getElem_mem hi', by simpa [List.getD, hi'] using z⟩
      · rintro ⟨b, hb, z⟩
        obtain ⟨i, hi, rfl⟩ := List.mem_iff_getElem.mp hb
        exact ⟨i, by simp [← hlen, hi], by simpa [List.getD, hi] using z⟩
    rw [e]
    exact ⟨.bl (bs.any id), H, I.kept fun b o q => k b o (by simp; exact Nat.ne_of_lt (Heap.lt_size q)) (Heap.get?_push_of_some _ q), rfl, q⟩
/-- x in l, x not in l: data in a list -/
def rInD (f : Bool → Bool) : R2 := fun x y H Q => ∃ (p : Addr) (zs : List V) (ds : List PyData) (d : PyData) (L : Nat), y = .ref p ∧ H p = some (.lst zs) ∧ TrL H zs ds ∧ Tr H x d ∧ (∀ e ∈ ds, Fine e 40 L) ∧ Fine d 40 L ∧ Q (.bl (f (ds.any fun e => e.eqv d))) H
theorem op_notInD (hu : X.A.units + 64 < cLine) : OpR X (compareOp .NotIn) (rInD not) := by
  intro pins s σ H x y v u Q I rx ry h
  obtain ⟨p, zs, ds, d, L, rfl, hp, tz, td, fz, fd, q⟩ := h
  cases ry
  obtain ⟨bs, rb⟩ := td.reads I rx
  obtain ⟨_, its, n, rv, e⟩ := I.hok p _ hp
  obtain ⟨as, ra⟩ := tz.reads I rv
  have fa := Fine.all fz
  exact PySem.SeqAt.notIn_list_reads (.list e rfl rfl (by simpa using ra)) rb fa.1 fd.lay (by have := fd.dp; omega) ⟨.bl _, H, I, rfl, q⟩
end
end L2

set_option Elab.async false
set_option linter.all false
set_option maxRecDepth 100000
set_option maxHeartbeats 4000000
namespace L2
open PySem PySem.Spec PyProof.Rows
theorem rng_rev : ∀ n, n < 9 → sliceRange (sliceBounds none none (some (-1)) n).1 (sliceBounds none none (some (-1)) n).2.1 (sliceBounds none none (some (-1)) n).2.2 = (List.range n).reverse := by decide +kernel
theorem filt_rev : ∀ (its : List Value), its.length ≤ 8 → ((List.range its.length).reverse.filterMap fun x => its.toArray[x]?) = its.reverse
  | [], _ => rfl
  | [_], _ => rfl
  | [_, _], _ => rfl
  | [_, _, _], _ => rfl
  | [_, _, _, _], _ => rfl
  | [_, _, _, _, _], _ => rfl
  | [_, _, _, _, _, _], _ => rfl
  | [_, _, _, _, _, _, _], _ => rfl
  | [_, _, _, _, _, _, _, _], _ => rfl
  | _ :: _ :: _ :: _ :: _ :: _ :: _ :: _ :: _ :: r, h => by simp only [List.length_cons] at h; omega
theorem pick_rev (its : List Value) (h8 : its.length ≤ 8) : slicePick its.toArray none none (some (-1)) = its.reverse.toArray := by
  unfold slicePick
  rw [List.size_toArray, rng_rev _ (by omega), filt_rev its h8]
section
variable {X : Cx} {e m : Expr} {te tm : TE} {pos p2 : Pos}
/-- xs[::-1], of a list of two to eight -/
theorem pe_rev (he : PE X e te) (hm : PE X m tm) : PE X (.Subscript e (.Slice none none (some m) p2) pos) (fun σ H Q => te σ H fun x H1 => tm σ H1 fun y H2 => y = .int (-1) ∧ ∃ (a : Addr) (xs : List V), x = .ref a ∧ H2 a = some (.lst xs) ∧ (2 ≤ xs.length ∧ xs.length ≤ 8) ∧ ∀ p, H2 p = none → Q (.ref p) (upd H2 p (.lst xs.reverse))) := by
  intro pins s σ H Q I h
  refine Subscript_ (thn (he pins s σ H _ I h) fun v s1 ⟨x, H1, I1, r1, q1⟩ => ?_)
  refine wpAny_Slice ?_
  rw [evalPart_none]
  refine wpAny_pure (wpAny_pure ?_)
  rw [evalPart_some]
  refine thn (hm pins s1 σ H1 _ I1 q1) fun vu s3 ⟨y, H3, I3, r3, q3⟩ => ?_
  obtain ⟨rfl, a, xs, rfl, ha, ⟨h2, h8⟩, q⟩ := q3
  obtain ⟨t, rfl⟩ := r3
  cases r1
  have I4 : Inv X pins σ H3 { s3 with heap := s3.heap.push { cls := .type "slice", data := .fields #[.none, .none, .int (-1) t] } } := I3.kept (t' := s3.toks) fun b ob q => Heap.get?_push_of_some _ q
  obtain ⟨its, r, ht, hz⟩ := I4.list (SqL.of ha)
  have hlen := r.length
  show wpAny (model X.prog X.w) X.A (subscriptTail e (.Slice none none (some m) p2) (.ref a) (.ref s3.heap.objs.size)) (EP X pins σ Q) X.xe { s3 with heap := s3.heap.push { cls := .type "slice", data := .fields #[.none, .none, .int (-1) t] } }
  refine tail_any (ops := [.ref a, .ref s3.heap.objs.size]) ht.isList.typeIs slot_list_getitem.lookup ?_ (by with_unfolding_all rfl)
  refine wpAny_getItem_list_slice ht.isList (Heap.IsSliceOf.new ..) .none .none (.int (-1) t) (by simp) ?_ (by rw [List.size_toArray] <;> omega)
  rw [pick_rev its (by omega)]
  refine ⟨.ref _, _, I4.laid (t' := s3.toks) (o := .lst xs.reverse) (fun b ob q => Heap.get?_push_of_some _ q) (Nat.le_refl _) ?_, rfl, q _ (I4.hok.fresh (Nat.le_refl _))⟩
  exact ⟨by rw [List.length_reverse]; exact hz, its.reverse, 0, r.reverse, Heap.get?_push_size _ rfl⟩
/-- xs != ys, lists of data -/
theorem op_neLD (hu : X.A.units + 64 < cLine) : OpR X (compareOp .NotEq) (fun x y H Q => ∃ (p q : Addr) (zs us : List V) (ds : List PyData) (L : Nat), x = .ref p ∧ y = .ref q ∧ H p = some (.lst zs) ∧ H q = some (.lst us) ∧ TrL H zs ds ∧ TrL H us ds ∧ (∀ e ∈ ds, Fine e 40 L) ∧ Q (.bl false) H) := by
  intro pins s σ H x y v u Q I rx ry h
  obtain ⟨p, q', zs, us, ds, L, rfl, rfl, hp, hq, tz, tu, fz, q⟩ := h
  cases rx
  cases ry
  obtain ⟨_, its, n, rv, e⟩ := I.hok p _ hp
  obtain ⟨as, ra⟩ := tz.reads I rv
  obtain ⟨_, its2, n2, rv2, e2⟩ := I.hok q' _ hq
  obtain ⟨bs, rb⟩ := tu.reads I rv2
  have fa := Fine.all fz
  have hlay : (PyData.list ds).canLay0 = true := fa.1
  refine PySem.SeqAt.compareNe_reads (.list e rfl rfl (by simpa using ra)) (.list e2 rfl rfl (by simpa using rb)) hlay hlay ?_ ?_
  · rw [PyData.depth.eq_1]
    have := fa.2.2.1
    omega
  · rw [PySem.SeqAt.eqv_refl _ hlay]
    exact ⟨.bl false, H, I, rfl, q⟩
end
end L2

set_option Elab.async false
set_option linter.all false
set_option maxRecDepth 100000
set_option maxHeartbeats 4000000
namespace L2
open PySem PySem.Spec PyProof.Rows H1
def maxW (a b : Int × Int) : Int × Int := if gtW b a = true then b else a
def mergeL (ws us : List (Int × Int)) : List (Int × Int) := List.zipWith maxW ws us
def spMerged : Sp := fun vs H Q _ => ∃ (a b : Addr) (ws us : List (Int × Int)), vs = [.ref a, .ref b] ∧ Tr H (.ref a) (bookD ws) ∧ Tr H (.ref b) (bookD us) ∧ ws.length = us.length ∧ ws.length ≤ 8 ∧ ∀ r H', Same H H' → Tr H' (.ref r) (bookD (mergeL ws us)) → Q (.ref r) H'
theorem maxW_ge (a b : Int × Int) : geW (maxW a b) a ∧ geW (maxW a b) b := by
  unfold maxW
  split
  · rename_i c
    exact ⟨geW_of_gt c, geW.refl _⟩
  · rename_i c
    exact ⟨geW.refl _, by simpa [geW] using c⟩
theorem maxW_or (a b : Int × Int) : maxW a b = a ∨ maxW a b = b := by
  unfold maxW
  split
  · exact .inr rfl
  · exact .inl rfl
theorem maxW_lub {a b c : Int × Int} (h1 : geW c a) (h2 : geW c b) : geW c (maxW a b) := by
  rcases maxW_or a b with h | h <;> rw [h] <;> assumption
theorem maxW_comm (a b : Int × Int) : maxW a b = maxW b a := geW.anti (maxW_lub (maxW_ge a b).2 (maxW_ge a b).1) (maxW_lub (maxW_ge b a).2 (maxW_ge b a).1)
theorem maxW_self (a : Int × Int) : maxW a a = a := by rcases maxW_or a a with h | h <;> exact h
theorem maxW_assoc (a b c : Int × Int) : maxW (maxW a b) c = maxW a (maxW b c) := by
  refine geW.anti ?_ ?_
  · exact maxW_lub ((maxW_ge (maxW a b) c).1.trans (maxW_ge a b).1) (maxW_lub ((maxW_ge (maxW a b) c).1.trans (maxW_ge a b).2) (maxW_ge (maxW a b) c).2)
  · exact maxW_lub (maxW_lub (maxW_ge a (maxW b c)).1 ((maxW_ge a (maxW b c)).2.trans (maxW_ge b c).1)) ((maxW_ge a (maxW b c)).2.trans (maxW_ge b c).2)
theorem mergeL_comm : ∀ ws us : List (Int × Int), mergeL ws us = mergeL us ws
  | [], [] => rfl
  | [], _ :: _ => rfl
  | _ :: _, [] => rfl
  | a :: r, b :: t => by
    show maxW a b :: mergeL r t = maxW b a :: mergeL t r
    rw [maxW_comm, mergeL_comm r t]
theorem mergeL_self : ∀ ws : List (Int × Int), mergeL ws ws = ws
  | [] => rfl
  | a :: r => by
    show maxW a a :: mergeL r r = _
    rw [maxW_self, mergeL_self r]
theorem mergeL_assoc : ∀ ws us vs : List (Int × Int), mergeL (mergeL ws us) vs = mergeL ws (mergeL us vs)
  | [], _, _ => by simp [mergeL]
  | _ :: _, [], _ => by simp [mergeL]
  | _ :: _, _ :: _, [] => by simp [mergeL]
  | a :: r, b :: t, c :: u => by
    show maxW (maxW a b) c :: mergeL (mergeL r t) u = maxW a (maxW b c) :: mergeL r (mergeL t u)
    rw [maxW_assoc, mergeL_assoc r t u]
theorem mergeL_len {ws us : List (Int × Int)} (h : ws.length = us.length) : (mergeL ws us).length = ws.length := by
  unfold mergeL
  rw [List.length_zipWith]
  omega
theorem mergeL_all {P : Int × Int → Prop} : ∀ {ws us : List (Int × Int)}, (∀ w ∈ ws, P w) → (∀ w ∈ us, P w) → ∀ w ∈ mergeL ws us, P w
  | [], _, _, _, w, hw => by simp [mergeL] at hw
  | _ :: _, [], _, _, w, hw => by simp [mergeL] at hw
  | a :: r, b :: t, h1, h2, w, hw => by
    rcases List.mem_cons.mp (show w ∈ maxW a b :: mergeL r t from hw) with z | z
    · rw [z]
      rcases maxW_or a b with h | h
      · rw [h]; exact h1 a (List.mem_cons_self ..)
      · rw [h]; exact h2 b (List.mem_cons_self ..)
    · exact mergeL_all (fun w hw => h1 w (List.mem_cons_of_mem _ hw)) (fun w hw => h2 w (List.mem_cons_of_mem _ hw)) w z
theorem mergeL_take {ws us : List (Int × Int)} {i : Nat} {a b : Int × Int} (h1 : ws[i]? = some a) (h2 : us[i]? = some b) : (mergeL ws us).take (i + 1) = (mergeL ws us).take i ++ [maxW a b] := by
  have e : (mergeL ws us)[i]? = some (maxW a b) := by
    unfold mergeL
    rw [List.getElem?_zipWith, h1, h2]
  rw [List.take_add_one, e]
  rfl

theorem eq_of_getD {xs ys : List (Int × Int)} (hl : xs.length = ys.length) (h : ∀ j, xs.getD j (0, 0) = ys.getD j (0, 0)) : xs = ys := by
  apply List.ext_getElem hl
  intro j h1 h2
  have := h j
  simpa [List.getD, h1, h2] using this
theorem mergeL_getD {ws us : List (Int × Int)} (h : ws.length = us.length) (j : Nat) : (mergeL ws us).getD j (0, 0) = maxW (ws.getD j (0, 0)) (us.getD j (0, 0)) := by
  unfold mergeL
  rw [List.getD_eq_getElem?_getD, List.getD_eq_getElem?_getD, List.getD_eq_getElem?_getD, List.getElem?_zipWith]
  by_cases hj : j < ws.length
  · have hj2 : j < us.length := by omega
    rw [List.getElem?_eq_getElem hj, List.getElem?_eq_getElem hj2]
    rfl
  · rw [List.getElem?_eq_none (by omega), List.getElem?_eq_none (by omega)]
    exact (maxW_self (0, 0)).symm
abbrev Bk := List (Int × Int)
def geB (a b : Bk) : Prop := ∀ j, geW (a.getD j (0, 0)) (b.getD j (0, 0))
theorem geB.refl (a : Bk) : geB a a := fun _ => geW.refl _
theorem geB.trans {a b c : Bk} (h : geB a b) (h' : geB b c) : geB a c := fun j => (h j).trans (h' j)
theorem geB.anti {a b : Bk} (hl : a.length = b.length) (h : geB a b) (h' : geB b a) : a = b := eq_of_getD hl fun j => (h j).anti (h' j)
theorem mergeB_ge {a b : Bk} (h : a.length = b.length) : geB (mergeL a b) a ∧ geB (mergeL a b) b :=
  ⟨fun j => by rw [mergeL_getD h]; exact (maxW_ge _ _).1, fun j => by rw [mergeL_getD h]; exact (maxW_ge _ _).2⟩
theorem mergeB_lub {a b c : Bk} (h : a.length = b.length) (h1 : geB c a) (h2 : geB c b) : geB c (mergeL a b) := fun j => by rw [mergeL_getD h]; exact maxW_lub (h1 j) (h2 j)
theorem mergeB_of_ge {a b : Bk} (h : a.length = b.length) (g : geB b a) : mergeL a b = b := geB.anti (by rw [mergeL_len h]; exact h) (mergeB_ge h).2 (mergeB_lub h g (geB.refl b))
structure OkB (n : Nat) (B : List Bk) : Prop where
  ln : B.length = n
  bk : ∀ b ∈ B, b.length = n ∧ ∀ w ∈ b, Sml w
def foldM : List Bk → Bk
  | [] => []
  | b :: r => r.foldl mergeL b
theorem fold_ok {n : Nat} : ∀ (r : List Bk) (b : Bk), b.length = n → (∀ w ∈ b, Sml w) → (∀ x ∈ r, x.length = n ∧ ∀ w ∈ x, Sml w) →
    (r.foldl mergeL b).length = n ∧ (∀ w ∈ r.foldl mergeL b, Sml w) ∧ geB (r.foldl mergeL b) b ∧ (∀ x ∈ r, geB (r.foldl mergeL b) x) ∧ ∀ c, geB c b → (∀ x ∈ r, geB c x) → geB c (r.foldl mergeL b)
  | [], b, hb, hs, _ => ⟨hb, hs, geB.refl b, fun _ z => (nomatch z), fun c h _ => h⟩
  | x :: r, b, hb, hs, hr => by
    have hx := hr x (List.mem_cons_self ..)
    have hl : b.length = x.length := by rw [hb, hx.1]
    obtain ⟨a1, a2, a3, a4, a5⟩ := fold_ok r (mergeL b x) (by rw [mergeL_len hl]; exact hb) (mergeL_all hs hx.2) fun y hy => hr y (List.mem_cons_of_mem _ hy)
    refine ⟨a1, a2, a3.trans (mergeB_ge hl).1, fun y hy => ?_, fun c h1 h2 => a5 c (mergeB_lub hl h1 (h2 x (List.mem_cons_self ..))) fun y hy => h2 y (List.mem_cons_of_mem _ hy)⟩
    rcases List.mem_cons.mp hy with z | z
    · rw [z]; exact a3.trans (mergeB_ge hl).2
    · exact a4 y z
theorem foldM_ok {n : Nat} {B : List Bk} (ok : OkB n B) (h : 0 < n) : (foldM B).length = n ∧ (∀ w ∈ foldM B, Sml w) ∧ (∀ x ∈ B, geB (foldM B) x) ∧ ∀ c, (∀ x ∈ B, geB c x) → geB c (foldM B) := by
  cases B with
  | nil => have := ok.ln; simp at this; omega
  | cons b r =>
    obtain ⟨a1, a2, a3, a4, a5⟩ := fold_ok r b (ok.bk b (List.mem_cons_self ..)).1 (ok.bk b (List.mem_cons_self ..)).2 fun x hx => ok.bk x (List.mem_cons_of_mem _ hx)
    refine ⟨a1, a2, fun x hx => ?_, fun c hc => a5 c (hc b (List.mem_cons_self ..)) fun x hx => hc x (List.mem_cons_of_mem _ hx)⟩
    rcases List.mem_cons.mp hx with z | z
    · rw [z]; exact a3
    · exact a4 x z
theorem foldM_eq {n : Nat} {B C : List Bk} (ok : OkB n B) (oc : OkB n C) (h : 0 < n) (h1 : ∀ x ∈ C, geB (foldM B) x) (h2 : ∀ x ∈ B, geB (foldM C) x) : foldM C = foldM B := by
  have f1 := foldM_ok ok h
  have f2 := foldM_ok oc h
  exact geB.anti (by rw [f1.1, f2.1]) (f1.2.2.2 _ h2) (f2.2.2.2 _ h1)
def tellL (B : List Bk) (one other : Nat) (ps : List Nat) : List Bk := B.set other (heardL (B.getD other []) (ps.map fun p => (p, (B.getD one []).getD p (0, 0))))
theorem getD_mem {B : List Bk} {k : Nat} (h : k < B.length) : B.getD k [] ∈ B := by
  rw [List.getD_eq_getElem?_getD, List.getElem?_eq_getElem h]
  exact List.getElem_mem h
theorem getD_setB {B : List Bk} {o k : Nat} {c : Bk} (h : o < B.length) : (B.set o c).getD k [] = if o = k then c else B.getD k [] := by
  simp only [List.getD_eq_getElem?_getD, List.getElem?_set]
  by_cases e : o = k
  · subst e
    simp [h]
  · simp [e]
theorem tell_notes {n : Nat} {B : List Bk} {one : Nat} {ps : List Nat} (ok : OkB n B) (h1 : one < n) (hp : ∀ p ∈ ps, p < n) : ∀ m ∈ ps.map (fun p => (p, (B.getD one []).getD p (0, 0))), m.1 < n ∧ Sml m.2 := fun m hm => by
  obtain ⟨p, hp', rfl⟩ := List.mem_map.mp hm
  have hb := ok.bk _ (getD_mem (k := one) (by rw [ok.ln]; exact h1))
  have hpl : p < (B.getD one []).length := by rw [hb.1]; exact hp p hp'
  refine ⟨hp p hp', hb.2 _ ?_⟩
  rw [List.getD_eq_getElem?_getD (l := B.getD one []), List.getElem?_eq_getElem hpl]
  exact List.getElem_mem hpl
theorem tell_ok {n : Nat} {B : List Bk} {one other : Nat} {ps : List Nat} (ok : OkB n B) (h1 : one < n) (h2 : other < n) (hp : ∀ p ∈ ps, p < n) :
    OkB n (tellL B one other ps) ∧ (∀ k, geB ((tellL B one other ps).getD k []) (B.getD k [])) ∧ ((∀ p, p < n → p ∈ ps) → geB ((tellL B one other ps).getD other []) (B.getD one [])) ∧ ∀ W : Bk, (∀ k, k < n → geB W (B.getD k [])) → ∀ k, k < n → geB W ((tellL B one other ps).getD k []) := by
  have hbo := ok.bk _ (getD_mem (k := other) (by rw [ok.ln]; exact h2))
  have hb1 := ok.bk _ (getD_mem (k := one) (by rw [ok.ln]; exact h1))
  have hn := tell_notes (one := one) ok h1 hp
  have hn' : ∀ m ∈ ps.map (fun p => (p, (B.getD one []).getD p (0, 0))), m.1 < (B.getD other []).length := fun m hm => by rw [hbo.1]; exact (hn m hm).1
  have hol : other < B.length := by rw [ok.ln]; exact h2
  unfold tellL
  refine ⟨⟨by rw [List.length_set]; exact ok.ln, fun b hb => ?_⟩, fun k => ?_, fun hall => ?_, fun W hW k hk => ?_⟩
  · rcases List.mem_or_eq_of_mem_set hb with z | z
    · exact ok.bk b z
    · rw [z]
      exact ⟨by rw [heardL_len]; exact hbo.1, heardL_all (fun m hm => (hn m hm).2) hbo.2⟩
  · rw [getD_setB hol]
    split
    · rename_i e
      rw [← e]
      exact fun j => (heardL_get hn' j).1
    · exact geB.refl _
  · rw [getD_setB hol, if_pos rfl]
    intro j
    by_cases hj : j < n
    · exact (heardL_get hn' j).2.1 (j, (B.getD one []).getD j (0, 0)) (List.mem_map.mpr ⟨j, hall j hj, rfl⟩) rfl
    · have e1 : (B.getD one []).getD j (0, 0) = (0, 0) := by rw [List.getD_eq_getElem?_getD (l := B.getD one []), List.getElem?_eq_none (by rw [hb1.1]; omega)]; rfl
      have e2 : (heardL (B.getD other []) (ps.map fun p => (p, (B.getD one []).getD p (0, 0)))).getD j (0, 0) = (0, 0) := by rw [List.getD_eq_getElem?_getD, List.getElem?_eq_none (by rw [heardL_len, hbo.1]; omega)]; rfl
      rw [e1, e2]
      exact geW.refl _
  · rw [getD_setB hol]
    split
    · intro j
      rcases (heardL_get hn' j).2.2 with z | ⟨m, hm, z1, z2⟩
      · rw [z]; exact hW other h2 j
      · rw [z2]
        obtain ⟨p, _, rfl⟩ := List.mem_map.mp hm
        have e : j = p := z1
        rw [e]
        exact hW one h1 p
    · exact hW k hk
theorem Tr.tupI' {H : Hp} {v : V} {ds : List PyData} (t : Tr H v (.tuple ds)) : ∃ a xs, v = .ref a ∧ H a = some (.tup xs) := by
  cases t with
  | tup h hl => exact ⟨_, _, rfl, h⟩
theorem TrL.revD {H : Hp} : ∀ {vs : List V} {ds : List PyData}, TrL H vs ds → TrL H vs.reverse ds.reverse
  | _, _, .nil => .nil
  | _, _, .cons a r => by
    rw [List.reverse_cons, List.reverse_cons]
    exact (TrL.revD r).append (.cons a .nil)
theorem flat_one {α : Type} (x : α) : ∀ n : Nat, (List.replicate n [x]).flatten = List.replicate n x
  | 0 => rfl
  | n + 1 => by rw [List.replicate_succ, List.flatten_cons, flat_one x n, List.replicate_succ]; rfl
theorem trl_rep {H : Hp} {v : V} {b : Bk} (t : Tr H v (bookD b)) : ∀ n : Nat, TrL H (List.replicate n v) ((List.replicate n b).map bookD)
  | 0 => .nil
  | n + 1 => by
    rw [List.replicate_succ, List.replicate_succ, List.map_cons]
    exact .cons t (trl_rep t n)
/-- books in a list -/
structure Bks (H : Hp) (l : Addr) (n : Nat) (B : List Bk) : Prop where
  ok : OkB n B
  at_ : ∃ zs, H l = some (.lst zs) ∧ TrL H zs (B.map bookD)
theorem Bks.same {H H' : Hp} {l : Addr} {n : Nat} {B : List Bk} (b : Bks H l n B) (S : Same H H') : Bks H' l n B := ⟨b.ok, let ⟨zs, h, t⟩ := b.at_; ⟨zs, S _ _ h, t.same S⟩⟩
theorem Bks.ext {c l : Addr} {H H' : Hp} {n : Nat} {B : List Bk} (b : Bks H l n B) (E : Ext c H H') (X : Box H c) (hcl : l ≠ c) : Bks H' l n B := ⟨b.ok, let ⟨zs, h, t⟩ := b.at_; ⟨zs, E.kp _ _ h hcl, t.ext E X⟩⟩
theorem Bks.neb {H : Hp} {l b : Addr} {n : Nat} {B : List Bk} (bs : Bks H l n B) (n2 : 2 ≤ n) (X : Box H b) : l ≠ b := by
  intro e
  subst e
  obtain ⟨zs, h, t⟩ := bs.at_
  obtain ⟨o, ho, g, m, c, rfl, _⟩ := X
  rw [h] at ho
  cases ho
  have hl := bs.ok.ln
  cases B with
  | nil => simp at hl; omega
  | cons x r =>
    cases t with
    | cons a _ =>
      obtain ⟨_, _, e, _⟩ := (show Tr H (.int g) (.tuple (x.map wordD)) from a).tupI'
      cases e
def spAll : Sp := fun vs H Q _ => ∃ (l : Addr) (n : Nat) (B : List Bk), vs = [.ref l] ∧ Bks H l n B ∧ (2 ≤ n ∧ n ≤ 8) ∧ ∀ r H', Same H H' → Tr H' (.ref r) (bookD (foldM B)) → Q (.ref r) H'
def spTell : Sp := fun vs H Q _ => ∃ (l pl : Addr) (i1 i2 : Int) (one other n : Nat) (B : List Bk) (ps : List Nat), vs = [.ref l, .int i1, .int i2, .ref pl] ∧ Bks H l n B ∧ (i1 = (one : Int) ∧ i2 = (other : Int) ∧ one < n ∧ other < n ∧ 2 ≤ n ∧ n ≤ 8) ∧ H pl = some (.lst (ps.map fun (p : Nat) => V.int (p : Int))) ∧ (∀ p ∈ ps, p < n) ∧ ps.length ≤ 8 ∧ ∀ r H', Same H H' → Bks H' r n (tellL B one other ps) → Q (.ref r) H'
def spRounds : Sp := fun vs H Q _ => ∃ (l : Addr) (m : Int) (n : Nat) (B : List Bk), vs = [.ref l, .int m] ∧ Bks H l n B ∧ (m = (n : Int) ∧ 2 ≤ n ∧ n ≤ 8) ∧ ∀ r H', Same H H' → Bks H' r n (List.replicate n (foldM B)) → Q (.ref r) H'
end L2

set_option Elab.async false
set_option linter.all false
set_option maxRecDepth 100000
set_option maxHeartbeats 4000000
namespace HT
open PySem PyProof.Rows
section
variable {prog : Program} {w : World} {A : Around} {E : Value → Shared → Prop} {s : Shared}
/-- t[::-1] of a pair -/
theorem getItem_pair_rev {t sl : Addr} {x y : Value} {k : Tok} {Q : Value → Shared → Prop} (ht : IsTup s.heap t #[x, y]) (hs : s.heap.IsSliceOf sl .none .none (.int (-1) k))
    (h : Q (.ref s.heap.objs.size) { s with heap := s.heap.push { cls := .type "tuple", data := .seq #[y, x] } }) : wpAny (model prog w) A (getItem (.ref t) (.ref sl)) Q E s := by
  obtain ⟨os, hos, hcs, hds⟩ := id hs
  have hTs : s.TypeIs (.ref sl) "slice" := ⟨os, hos, hcs⟩
  unfold getItem
  try with_reducible refine wpAny_holding ?_
  first | refine wpAny_bind (wpAny_pure ?_) | skip
  refine wpAny_bind (wpAny_sequenceKey ht.typeIs (by decide) ?_)
  refine wpAny_bind (wpAny_callSpecial?_slot (name := Str.ofString "__getitem__") ht.typeIs PyProof.Rows.slot_tuple_getitem
    (wpAny_call_entry PyProof.Rows.slot_tuple_getitem ht.typeIs entry_tuple_getitem ?_ (args_tuple_getitem _ _)))
  show wpAny _ _ (Builtin.Tuple.tupleItemsOf (.ref t) >>= _) _ _ s
  refine wpAny_bind (tupleItemsOf_ ht ?_)
  refine wpAny_bind (wpAny_typeOf hTs ?_)
  rw [if_pos (by decide)]
  refine wpAny_bind (m := Builtin.Slice.sliceApplied (.ref sl) (pure ((#[x, y].size : Nat) : Int))) ?_
  unfold Builtin.Slice.sliceApplied Builtin.Slice.sliceFields
  refine wpAny_bind (wpAny_bind (wpAny_field hos hds (x := .none) rfl (wpAny_bind (wpAny_field hos hds (x := .none) rfl (wpAny_bind (wpAny_field hos hds (x := .int (-1) k) rfl (wpAny_pure ?_)))))))
  refine wpAny_bind (slicePart_ (.int (-1) k) ?_)
  show wpAny _ _ (if ((-1 : Int) == 0) = true then _ else _) _ _ s
  rw [if_neg (by decide)]
  refine wpAny_bind (slicePart_ .none (wpAny_bind (slicePart_ .none (wpAny_bind (wpAny_pure ?_)))))
  have e1 : Builtin.Slice.sliceAdjust none none (-1) 2 = (1, -1) := by decide +kernel
  have e2 : Builtin.Slice.slicePlaces 1 (-1) (-1) = 2 := by decide +kernel
  show wpAny _ _ (match Builtin.Slice.sliceAdjust none none (-1) 2 with | (lo, hi) => pure (lo, (-1 : Int), Builtin.Slice.slicePlaces lo hi (-1))) _ _ s
  rw [e1]
  show wpAny _ _ (pure ((1 : Int), (-1 : Int), Builtin.Slice.slicePlaces 1 (-1) (-1))) _ _ s
  rw [e2]
  refine wpAny_pure ?_
  show wpAny _ _ (if ((1 : Int) == 0 && (-1 : Int) == 1 && (2 : Nat) == #[x, y].size) = true then _ else _) _ _ s
  rw [if_neg (by intro z; cases z)]
  show wpAny _ _ (Builtin.Tuple.tupleExact #[y, x] >>= _) _ _ s
  first
    | exact wpAny_bind (m := Builtin.Tuple.tupleExact _) (wpAny_newObj_type (wpAny_pure ⟨_, rfl, wpAny_pure h⟩) (by show 2 ≤ sizeLine; decide))
    | exact wpAny_bind (m := Builtin.Tuple.tupleExact _) (wpAny_newObj_type (wpAny_bind (wpAny_pure (wpAny_pure ⟨_, rfl, wpAny_pure h⟩))) (by show 2 ≤ sizeLine; decide))
end
end HT
namespace L2
open PySem PySem.Spec PyProof.Rows
/-- an empty dict: of its class alone is spoken -/
def DictO (a : Addr) : HO := .ext fun h => ∃ o, h.get? a = some o ∧ o.cls = .type "dict"
/-- the kinds of things -/
inductive Kd (K : PySem.W.Frag) (H : Hp) : V → String → Prop
  | non : Kd K H .non "NoneType"
  | bl (b : Bool) : Kd K H (.bl b) "bool"
  | int (i : Int) : Kd K H (.int i) "int"
  | str (x : Str) : Kd K H (.str x) "str"
  | lst {a : Addr} {xs : List V} : H a = some (.lst xs) → Kd K H (.ref a) "list"
  | tup {a : Addr} {xs : List V} : SqT K H a xs → Kd K H (.ref a) "tuple"
  | dct {a : Addr} : H a = some (DictO a) → Kd K H (.ref a) "dict"
def isi (k T : String) : Bool := decide (k = T) || (decide (k = "bool") && decide (T = "int"))
section
variable {X : Cx} {pos p2 : Pos}
theorem call_isiK : CallR X (.builtin "isinstance") (fun xs H Q => ∃ (x : V) (T k : String), xs = [x, .ty T] ∧ Kd X.K H x k ∧ (T = "int" ∨ T = "bool" ∨ T = "tuple" ∨ T = "str") ∧ Q (.bl (isi k T)) H) := by
  intro pins s σ H xs us Q I r h
  obtain ⟨x, T, k, rfl, kd, hT, q⟩ := h
  obtain ⟨u, w', rfl, ru, rw'⟩ := vals2 r
  cases rw'
  have fin : ∀ (t : Value), PySem.W.kitOne X.K t (.type T) = some (isi k T) → ∀ {HH : Heap → Prop}, PySem.W.KitX X.K u t HH → HH s.heap → (u ≠ Value.builtin "__main__.__loader__#opaque") → wpAny (model X.prog X.w) X.A (call (.builtin "isinstance") [u, .type T]) (EP X pins σ Q) X.xe s := fun t e _ kx hh hu =>
    PySem.W.kia_one kx I.kIn hh e hu fun tk => ⟨.bl _, H, I.tok tk, rfl, q⟩
  cases kd with
  | non => cases ru; exact fin (.type "NoneType") (by rcases hT with rfl | rfl | rfl | rfl <;> rfl) PySem.W.kitx_none True.intro (fun z => nomatch z)
  | bl y => cases ru; exact fin (.type "bool") (by rcases hT with rfl | rfl | rfl | rfl <;> rfl) PySem.W.kitx_bool True.intro (fun z => nomatch z)
  | int i => obtain ⟨t, rfl⟩ := ru; exact fin (.type "int") (by rcases hT with rfl | rfl | rfl | rfl <;> rfl) PySem.W.kitx_int True.intro (fun z => nomatch z)
  | str y => obtain ⟨t, rfl⟩ := ru; exact fin (.type "str") (by rcases hT with rfl | rfl | rfl | rfl <;> rfl) PySem.W.kitx_str True.intro (fun z => nomatch z)
  | @lst a xs ea =>
    cases ru
    obtain ⟨_, _, n, _, h1⟩ := (show ObjOk X.prog X.w H s.heap a (.lst xs) from I.hok a _ ea)
    exact fin (.type "list") (by rcases hT with rfl | rfl | rfl | rfl <;> rfl) PySem.W.kitx_list ⟨_, h1, rfl⟩ (fun z => nomatch z)
  | @tup a xs ea =>
    cases ru
    obtain ⟨_, _, ⟨o, h1, h2, _⟩, _⟩ := I.tuple ea
    exact fin (.type "tuple") (by rcases hT with rfl | rfl | rfl | rfl <;> rfl) PySem.W.kitx_tuple ⟨o, h1, h2⟩ (fun z => nomatch z)
  | @dct a ea =>
    cases ru
    obtain ⟨⟨o, h1, h2⟩, _⟩ := (show ObjOk X.prog X.w H s.heap a (DictO a) from I.hok a _ ea)
    exact fin (.type "dict") (by rcases hT with rfl | rfl | rfl | rfl <;> rfl) PySem.W.kitx_dict ⟨o, h1, h2⟩ (fun z => nomatch z)
/-- {} -/
theorem pe_dict0 : PE X (.Dict [] [] pos) (fun _ H Q => ∀ p, H p = none → Q (.ref p) (upd H p (DictO p))) := fun pins s σ H Q I h =>
  wpAny_Dict_empty ⟨.ref s.heap.objs.size, _, I.laid (o := DictO s.heap.objs.size) (t' := s.toks) (fun _ _ q => Heap.get?_push_of_some _ q) (Nat.le_refl _) ⟨⟨_, Heap.get?_push_size _ rfl, rfl⟩, ⟨_, Heap.get?_push_size _ rfl⟩, fun h1 h2 ⟨o, e, c⟩ kp => ⟨o, kp o e, c⟩⟩, rfl, h _ (I.hok.fresh (Nat.le_refl _))⟩
/-- is not, of truths -/
theorem op_isnotB : OpR X (compareOp .IsNot) (fun x y H Q => ∃ i j, x = .bl i ∧ y = .bl j ∧ Q (.bl (!(i == j))) H) := by
  intro pins s σ H x y v u Q I rx ry h
  obtain ⟨i, j, rfl, rfl, q⟩ := h
  cases rx
  cases ry
  exact isnot_bool ⟨.bl _, H, I, rfl, q⟩
/-- t[::-1], of a pair -/
theorem pe_revP {e m : Expr} {te tm : TE} (he : PE X e te) (hm : PE X m tm) : PE X (.Subscript e (.Slice none none (some m) p2) pos) (fun σ H Q => te σ H fun x H1 => tm σ H1 fun y H2 => y = .int (-1) ∧ ∃ (a : Addr) (u v : V), x = .ref a ∧ H2 a = some (.tup [u, v]) ∧ ∀ p, H2 p = none → Q (.ref p) (upd H2 p (.tup [v, u]))) := by
  intro pins s σ H Q I h
  refine Subscript_ (thn (he pins s σ H _ I h) fun v s1 ⟨x, H1, I1, r1, q1⟩ => ?_)
  refine wpAny_Slice ?_
  rw [evalPart_none]
  refine wpAny_pure (wpAny_pure ?_)
  rw [evalPart_some]
  refine thn (hm pins s1 σ H1 _ I1 q1) fun vu s3 ⟨y, H3, I3, r3, q3⟩ => ?_
  obtain ⟨rfl, a, u1, u2, rfl, ha, q⟩ := q3
  obtain ⟨t, rfl⟩ := r3
  cases r1
  have I4 : Inv X pins σ H3 { s3 with heap := s3.heap.push { cls := .type "slice", data := .fields #[.none, .none, .int (-1) t] } } := I3.kept (t' := s3.toks) fun b ob q => Heap.get?_push_of_some _ q
  obtain ⟨its, r, ht, hz⟩ := I4.tuple (SqT.of ha)
  obtain ⟨w1, w2, rfl, rw1, rw2⟩ := vals2 r
  show wpAny (model X.prog X.w) X.A (subscriptTail e (.Slice none none (some m) p2) (.ref a) (.ref s3.heap.objs.size)) (EP X pins σ Q) X.xe { s3 with heap := s3.heap.push { cls := .type "slice", data := .fields #[.none, .none, .int (-1) t] } }
  refine tail_any (ops := [.ref a, .ref s3.heap.objs.size]) ht.typeIs PyProof.Rows.slot_tuple_getitem.lookup ?_ (by with_unfolding_all rfl)
  refine HT.getItem_pair_rev ht (Heap.IsSliceOf.new ..) ?_
  refine ⟨.ref _, _, I4.laid (t' := s3.toks) (o := .tup [u2, u1]) (fun b ob q => Heap.get?_push_of_some _ q) (Nat.le_refl _) ?_, rfl, q _ (I4.hok.fresh (Nat.le_refl _))⟩
  exact ⟨by show 2 ≤ sizeLine; decide, [w2, w1], .cons rw2 (.cons rw1 .nil), IsTup.new _ _⟩
/-- a module's whole number -/
def GInt (mg : Str → Option Value) (x : Str) (n : Int) : Prop := ∃ t, mg x = some (.int n t)
theorem pe_globI {x : Str} {n : Int} (hg : Gl X x) (h : GInt X.mg x n) (hd : (x == ("__debug__" : Str)) = false := by decide) : PE X (.Name x pos) (tC (.int n)) := by
  obtain ⟨t, e⟩ := h
  exact pe_glob hg e ⟨t, rfl⟩ hd
end
end L2

set_option Elab.async false
set_option linter.all false
set_option maxRecDepth 100000
set_option maxHeartbeats 4000000
namespace L2
open PySem PySem.Spec PyProof.Rows H1
inductive Kn where | non | bool | int | str | list | tup | dct
  deriving DecidableEq
def nm : Kn → String
  | .non => "NoneType" | .bool => "bool" | .int => "int" | .str => "str" | .list => "list" | .tup => "tuple" | .dct => "dict"
/-- lists that are no box of draws -/
def NB (xs : List V) : Prop := ∀ g m c : Int, xs ≠ [.int g, .int m, .int c]
theorem nb3 {xs : List V} (h : xs.length ≠ 3) : NB xs := fun g m c e => h (by rw [e]; rfl)
theorem nbx {xs : List V} (h : ∃ x ∈ xs, ∀ i : Int, x ≠ .int i) : NB xs := fun g m c e => by
  obtain ⟨x, hx, hi⟩ := h
  rw [e] at hx
  simp only [List.mem_cons, List.not_mem_nil, or_false] at hx
  rcases hx with rfl | rfl | rfl <;> exact hi _ rfl
/-- the kinds of things, by the heap alone -/
inductive Kh (H : Hp) : V → Kn → Prop
  | non : Kh H .non .non
  | bl (b : Bool) : Kh H (.bl b) .bool
  | int (i : Int) : Kh H (.int i) .int
  | str (x : Str) : Kh H (.str x) .str
  | lst {a : Addr} {xs : List V} : H a = some (.lst xs) → NB xs → Kh H (.ref a) .list
  | tup {a : Addr} {xs : List V} : H a = some (.tup xs) → Kh H (.ref a) .tup
  | dct {a : Addr} : H a = some (DictO a) → Kh H (.ref a) .dct
theorem Kh.kd {K : PySem.W.Frag} {H : Hp} {x : V} {k : Kn} (h : Kh H x k) : Kd K H x (nm k) := by
  cases h with
  | non => exact .non
  | bl b => exact .bl b
  | int i => exact .int i
  | str x => exact .str x
  | lst e _ => exact .lst e
  | tup e => exact .tup (SqT.of e)
  | dct e => exact .dct e
theorem Kh.same {H H' : Hp} (S : Same H H') {x : V} {k : Kn} (h : Kh H x k) : Kh H' x k := by
  cases h with
  | non => exact .non
  | bl b => exact .bl b
  | int i => exact .int i
  | str x => exact .str x
  | lst e n => exact .lst (S _ _ e) n
  | tup e => exact .tup (S _ _ e)
  | dct e => exact .dct (S _ _ e)
theorem Kh.ext {b : Addr} {H H' : Hp} (E : Ext b H H') (B : Box H b) {x : V} {k : Kn} (h : Kh H x k) : Kh H' x k := by
  cases h with
  | non => exact .non
  | bl b => exact .bl b
  | int i => exact .int i
  | str x => exact .str x
  | lst e n =>
    refine .lst (E.kp _ _ e fun z => ?_) n
    obtain ⟨o, hb, g, m, c, rfl, _⟩ := B
    rw [z, hb] at e
    cases e
    exact n _ _ _ rfl
  | tup e => exact .tup (E.tup B e)
  | dct e =>
    refine .dct (E.kp _ _ e fun z => ?_)
    obtain ⟨o, hb, g, m, c, rfl, _⟩ := B
    rw [z, hb] at e
    unfold DictO at e
    cases e
/-- a thing whose parts, if it is a tuple, are of some kind -/
def Th (H : Hp) (x : V) : Prop := (∃ k, Kh H x k) ∧ ∀ a xs, x = .ref a → H a = some (.tup xs) → ∀ y ∈ xs, ∃ k, Kh H y k
theorem Th.flat {H : Hp} {x : V} {k : Kn} (h : Kh H x k) (hk : k ≠ .tup) : Th H x := by
  refine ⟨⟨k, h⟩, fun a xs e ht => ?_⟩
  subst e
  cases h with
  | lst e _ => rw [ht] at e; cases e
  | tup _ => exact absurd rfl hk
  | dct e => rw [ht] at e; unfold DictO at e; cases e
theorem Th.tup {H : Hp} {a : Addr} {xs : List V} (h : H a = some (.tup xs)) (hx : ∀ y ∈ xs, ∃ k, Kh H y k) : Th H (.ref a) :=
  ⟨⟨_, .tup h⟩, fun a' xs' e h' => by cases e; rw [h] at h'; cases h'; exact hx⟩
theorem Th.ext {b : Addr} {H H' : Hp} (E : Ext b H H') (B : Box H b) {x : V} (h : Th H x) : Th H' x := by
  obtain ⟨⟨k, hk⟩, hx⟩ := h
  refine ⟨⟨k, hk.ext E B⟩, fun a xs e ht y hy => ?_⟩
  subst e
  cases hk with
  | lst e n => have := (Kh.lst e n).ext E B; cases this with
    | lst e2 _ => rw [ht] at e2; cases e2
  | tup e =>
    have := E.tup B e
    rw [ht] at this
    cases this
    obtain ⟨k, hk⟩ := hx a _ rfl e y hy
    exact ⟨k, hk.ext E B⟩
  | dct e =>
    obtain ⟨o, hb, g, m, c, rfl, _⟩ := B
    have := E.kp _ _ e (fun z => by rw [z, hb] at e; unfold DictO at e; cases e)
    rw [ht] at this
    unfold DictO at this
    cases this
/-- things of so many layers of tuples, of some kind each -/
def Thn : Nat → Hp → V → Prop
  | 0, H, x => ∃ k, Kh H x k
  | n + 1, H, x => (∃ k, Kh H x k) ∧ ∀ a xs, x = .ref a → H a = some (.tup xs) → xs.length ≤ 900 ∧ ∀ y ∈ xs, Thn n H y
theorem Kh.mono {H H' : Hp} (k : ∀ a o, H a = some o → (∀ g m c : Int, o ≠ .lst [.int g, .int m, .int c]) → H' a = some o) {x : V} {n : Kn} (h : Kh H x n) : Kh H' x n := by
  cases h with
  | non => exact .non
  | bl b => exact .bl b
  | int i => exact .int i
  | str x => exact .str x
  | lst e nb => exact .lst (k _ _ e fun g m c z => nb g m c (by cases z; rfl)) nb
  | tup e => exact .tup (k _ _ e fun g m c z => by cases z)
  | dct e => exact .dct (k _ _ e fun g m c z => by unfold DictO at z; cases z)
theorem Kh.back {H H' : Hp} (k : ∀ a o, H a = some o → (∀ g m c : Int, o ≠ .lst [.int g, .int m, .int c]) → H' a = some o) {a : Addr} {xs : List V} {n : Kn} (h : Kh H (.ref a) n) (ht : H' a = some (.tup xs)) : H a = some (.tup xs) := by
  cases h with
  | lst e nb => have := k _ _ e fun g m c z => nb g m c (by cases z; rfl); rw [ht] at this; cases this
  | tup e => have := k _ _ e fun g m c z => (by cases z); rw [ht] at this; cases this; exact e
  | dct e => have := k _ _ e fun g m c z => (by unfold DictO at z; cases z); rw [ht] at this; unfold DictO at this; cases this
theorem Thn.kind {n : Nat} {H : Hp} {x : V} (h : Thn n H x) : ∃ k, Kh H x k := by
  cases n with
  | zero => exact h
  | succ n => exact h.1
theorem Thn.mono {H H' : Hp} (k : ∀ a o, H a = some o → (∀ g m c : Int, o ≠ .lst [.int g, .int m, .int c]) → H' a = some o) : ∀ {n : Nat} {x : V}, Thn n H x → Thn n H' x
  | 0, _, ⟨kd, h⟩ => ⟨kd, h.mono k⟩
  | n + 1, _, ⟨⟨kd, h⟩, hx⟩ => ⟨⟨kd, h.mono k⟩, fun a xs e ht => ⟨(hx a xs e (by subst e; exact h.back k ht)).1, fun y hy => Thn.mono k ((hx a xs e (by subst e; exact h.back k ht)).2 y hy)⟩⟩
theorem keep_same {H H' : Hp} (S : Same H H') : ∀ a o, H a = some o → (∀ g m c : Int, o ≠ .lst [.int g, .int m, .int c]) → H' a = some o := fun a o h _ => S a o h
theorem keep_ext {b : Addr} {H H' : Hp} (E : Ext b H H') (B : Box H b) : ∀ a o, H a = some o → (∀ g m c : Int, o ≠ .lst [.int g, .int m, .int c]) → H' a = some o := fun a o h n => E.kp a o h fun z => by
  obtain ⟨o', hb, g, m, c, rfl, _⟩ := B
  rw [z, hb] at h
  cases h
  exact n _ _ _ rfl
theorem Thn.same {H H' : Hp} (S : Same H H') {n : Nat} {x : V} (h : Thn n H x) : Thn n H' x := h.mono (keep_same S)
theorem Thn.ext {b : Addr} {H H' : Hp} (E : Ext b H H') (B : Box H b) {n : Nat} {x : V} (h : Thn n H x) : Thn n H' x := h.mono (keep_ext E B)
theorem Thn.down : ∀ {n : Nat} {H : Hp} {x : V}, Thn (n + 1) H x → Thn n H x
  | 0, _, _, h => h.1
  | _ + 1, _, _, h => ⟨h.1, fun a xs e ht => ⟨(h.2 a xs e ht).1, fun y hy => Thn.down ((h.2 a xs e ht).2 y hy)⟩⟩
theorem Thn.flat {n : Nat} {H : Hp} {x : V} {k : Kn} (h : Kh H x k) (hk : k ≠ .tup) : Thn n H x := by
  cases n with
  | zero => exact ⟨k, h⟩
  | succ n =>
    refine ⟨⟨k, h⟩, fun a xs e ht => ?_⟩
    subst e
    cases h with
    | lst e _ => rw [ht] at e; cases e
    | tup _ => exact absurd rfl hk
    | dct e => rw [ht] at e; unfold DictO at e; cases e
theorem Thn.tup {n : Nat} {H : Hp} {a : Addr} {xs : List V} (h : H a = some (.tup xs)) (hl : xs.length ≤ 900) (hx : ∀ y ∈ xs, Thn n H y) : Thn (n + 1) H (.ref a) :=
  ⟨⟨_, .tup h⟩, fun a' xs' e h' => by cases e; rw [h] at h'; cases h'; exact ⟨hl, hx⟩⟩
theorem Thn.int {n : Nat} {H : Hp} (i : Int) : Thn n H (.int i) := .flat (.int i) (by decide)
theorem Thn.bl {n : Nat} {H : Hp} (i : Bool) : Thn n H (.bl i) := .flat (.bl i) (by decide)
theorem Thn.str {n : Nat} {H : Hp} (i : Str) : Thn n H (.str i) := .flat (.str i) (by decide)
theorem Thn.non {n : Nat} {H : Hp} : Thn n H .non := .flat .non (by decide)
theorem Thn.lst {n : Nat} {H : Hp} {a : Addr} {xs : List V} (h : H a = some (.lst xs)) (nb : NB xs) : Thn n H (.ref a) := .flat (.lst h nb) (by decide)
theorem Thn.dct {n : Nat} {H : Hp} {a : Addr} (h : H a = some (DictO a)) : Thn n H (.ref a) := .flat (.dct h) (by decide)
theorem Thn.th {H : Hp} {x : V} (h : Thn 1 H x) : Th H x := ⟨h.1, fun a xs e ht => (h.2 a xs e ht).2⟩
/-- a tuple of whole numbers, of any depth -/
theorem Thn.ints {n : Nat} {H : Hp} {a : Addr} {xs : List V} (h : H a = some (.tup xs)) (hl : xs.length ≤ 900) (hx : ∀ y ∈ xs, ∃ i, y = .int i) : Thn n H (.ref a) := by
  cases n with
  | zero => exact ⟨_, .tup h⟩
  | succ n => exact .tup h hl fun y hy => by obtain ⟨i, rfl⟩ := hx y hy; exact .int i
theorem Thn.pair {n : Nat} {H : Hp} {a : Addr} {i j : Int} (h : H a = some (.tup [.int i, .int j])) : Thn n H (.ref a) := .ints h (show (2 : Nat) ≤ 900 by decide) fun y hy => by
  simp only [List.mem_cons, List.not_mem_nil, or_false] at hy
  rcases hy with rfl | rfl <;> exact ⟨_, rfl⟩
theorem all_nil {P : V → Prop} : ∀ y ∈ ([] : List V), P y := fun _ z => nomatch z
theorem all_cons {P : V → Prop} {x : V} {xs : List V} (h : P x) (h' : ∀ y ∈ xs, P y) : ∀ y ∈ x :: xs, P y := fun y hy => by
  rcases List.mem_cons.mp hy with rfl | hy
  · exact h
  · exact h' y hy
theorem all_app {P : V → Prop} {xs ys : List V} (h : ∀ y ∈ xs, P y) (h' : ∀ y ∈ ys, P y) : ∀ y ∈ xs ++ ys, P y := fun y hy => (List.mem_append.mp hy).elim (h y) (h' y)
theorem all_cut {P : V → Prop} {xs : List V} (lo hi : Option Int) (h : ∀ y ∈ xs, P y) : ∀ y ∈ cutV xs lo hi, P y := fun y hy => h y (List.mem_of_mem_drop (List.mem_of_mem_take (by unfold cutV at hy; exact hy)))
theorem all_rep {P : V → Prop} {xs : List V} (n : Nat) (h : ∀ y ∈ xs, P y) : ∀ y ∈ (List.replicate n xs).flatten, P y := fun y hy => by
  obtain ⟨l, hl, hy⟩ := List.mem_flatten.mp hy
  rw [List.eq_of_mem_replicate hl] at hy
  exact h y hy
def spWholeK : Sp := fun vs H Q _ => ∃ (x : V) (k : Kn), vs = [x] ∧ Kh H x k ∧ Q (.bl (decide (k = Kn.int))) H
def spCountK : Sp := fun vs H Q _ => ∃ (x : V) (k : Kn), vs = [x] ∧ Kh H x k ∧ ∀ b, (b = true ↔ ∃ n : Int, x = .int n ∧ 0 ≤ n) → Q (.bl b) H
def spBetweenK : Sp := fun vs H Q _ => ∃ (x : V) (lo hi : Int) (k : Kn), vs = [x, .int lo, .int hi] ∧ Kh H x k ∧ ∀ b, (b = true ↔ ∃ n : Int, x = .int n ∧ lo ≤ n ∧ n ≤ hi) → Q (.bl b) H
def spTupleOf : Sp := fun vs H Q _ => ∃ (x : V) (m : Int) (k : Kn), vs = [x, .int m] ∧ Kh H x k ∧ ∀ b, (b = true ↔ ∃ a xs, x = .ref a ∧ H a = some (.tup xs) ∧ (xs.length : Int) = m) → Q (.bl b) H
theorem Kh.int_of {H : Hp} {x : V} {k : Kn} (h : Kh H x k) (e : k = .int) : ∃ n, x = .int n := by
  subst e
  cases h
  exact ⟨_, rfl⟩
theorem Kh.tup_of {H : Hp} {x : V} {k : Kn} (h : Kh H x k) (e : k = .tup) : ∃ a xs, x = .ref a ∧ H a = some (.tup xs) := by
  subst e
  cases h with
  | tup e => exact ⟨_, _, rfl, e⟩
theorem Kh.no_int {H : Hp} {x : V} {k : Kn} (h : Kh H x k) (e : k ≠ .int) : ∀ n, x ≠ .int n := fun n z => by
  subst z
  cases h
  exact e rfl
theorem Kh.no_tup {H : Hp} {x : V} {k : Kn} (h : Kh H x k) (e : k ≠ .tup) : ∀ a xs, x = .ref a → H a = some (.tup xs) → False := fun a xs z ht => by
  subst z
  cases h with
  | lst e' _ => rw [ht] at e'; cases e'
  | tup _ => exact e rfl
  | dct e' => rw [ht] at e'; unfold DictO at e'; cases e'
theorem isi_int {H : Hp} {x : V} {k : Kn} (h : Kh H x k) : (isi (nm k) "int" && !isi (nm k) "bool") = decide (k = Kn.int) := by
  cases h <;> decide
theorem isi_tup {H : Hp} {x : V} {k : Kn} (h : Kh H x k) : isi (nm k) "tuple" = decide (k = Kn.tup) := by
  cases h <;> decide
end L2

set_option Elab.async false
set_option linter.all false
namespace L2
open PySem PySem.Spec PyProof.Rows
section
variable {X : Cx} {es : List Expr} {te : TE} {t : TA}
/-- arguments and items, by the kind of the first: each starEach is told once -/
theorem pa_cC {c k p} (ha : PE X (.Constant c k p) te) (hr : PA X es t) : PA X (.Constant c k p :: es) (tCons te t) := pa_cons ha hr (by rfl)
theorem pa_cU {o e p} (ha : PE X (.UnaryOp o e p) te) (hr : PA X es t) : PA X (.UnaryOp o e p :: es) (tCons te t) := pa_cons ha hr (by rfl)
theorem pa_cT {e k p} (ha : PE X (.Tuple e k p) te) (hr : PA X es t) : PA X (.Tuple e k p :: es) (tCons te t) := pa_cons ha hr (by rfl)
theorem pa_cL {e p} (ha : PE X (.List e p) te) (hr : PA X es t) : PA X (.List e p :: es) (tCons te t) := pa_cons ha hr (by rfl)
theorem pa_cD {a b p} (ha : PE X (.Dict a b p) te) (hr : PA X es t) : PA X (.Dict a b p :: es) (tCons te t) := pa_cons ha hr (by rfl)
theorem pa_cB {a o b p} (ha : PE X (.BinOp a o b p) te) (hr : PA X es t) : PA X (.BinOp a o b p :: es) (tCons te t) := pa_cons ha hr (by rfl)
theorem pa_cN {a p} (ha : PE X (.Name a p) te) (hr : PA X es t) : PA X (.Name a p :: es) (tCons te t) := pa_cons ha hr (by rfl)
theorem pa_cF {f a kw p} (ha : PE X (.Call f a kw p) te) (hr : PA X es t) : PA X (.Call f a kw p :: es) (tCons te t) := pa_cons ha hr (by rfl)
theorem pa_cS {a b p} (ha : PE X (.Subscript a b p) te) (hr : PA X es t) : PA X (.Subscript a b p :: es) (tCons te t) := pa_cons ha hr (by rfl)
end
end L2

set_option Elab.async false
set_option linter.all false
set_option maxRecDepth 100000
set_option maxHeartbeats 4000000
namespace HT
open PySem PyProof.Rows
open Builtin
section
variable {prog : Program} {w : World} {A : Around} {E : Value → Shared → Prop} {s : Shared}
/-- t + u, whichever is empty -/
theorem cat_tupA {t b : Addr} {vs ws : List Value} {Q : Value → Shared → Prop} (ht : IsTup s.heap t vs.toArray) (hb : IsTup s.heap b ws.toArray)
    (h0 : vs = [] → Q (.ref b) s) (h1 : vs ≠ [] → ws = [] → Q (.ref t) s) (h2 : vs ≠ [] → ws ≠ [] → Q (.ref s.heap.objs.size) { s with heap := s.heap.push { cls := .type "tuple", data := .seq (vs ++ ws).toArray } })
    (hsz : vs.length + ws.length ≤ sizeLine) : wpAny (model prog w) A (binaryOp .Add (.ref t) (.ref b)) Q E s := by
  by_cases hv : vs = []
  · obtain ⟨⟨cls, dd, data, sl⟩, ho, hc, n, hd⟩ := id ht
    obtain ⟨⟨cls2, dd2, data2, sl2⟩, ho2, hc2, n2, hd2⟩ := id hb
    simp only at hc hd hc2 hd2
    subst hc hd hc2 hd2
    exact concat_meets ⟨_, ho, rfl⟩ ⟨_, ho2, rfl⟩ noFill_tuple_add seq_tuple_add PySem.F.slot_tuple_add PySem.F.entry_tuple_add (PySem.F.args_tuple_add_2 _ _)
      (tuple_addW0 t b vs.toArray ws.toArray n n2 dd dd2 sl sl2 (by simp [hv])) ⟨ho, ho2, h0 hv⟩
  · exact cat_tup ht hb hv (h1 hv) (h2 hv) hsz
theorem noFill_tuple_mul : fillsNumberSlot (.type "tuple") "mul" = pure false :=
  PySem.fillsNumberSlot_seq (id := "tuple.__mul__") (r := some (.builtin "tuple.__rmul__")) F.slot_tuple_mul.lookup (by decide +kernel) F.slot_tuple_rmul.lookup (by decide +kernel)
theorem repeat_tuple : seqRepeat? (.type "tuple") = pure (some (.builtin "tuple.__mul__")) := by
  unfold seqRepeat?
  rw [PySem.seqSlot_of (T := "tuple") (name := "__mul__") (id := "tuple.__mul__") F.slot_tuple_mul.lookup (by decide +kernel), PySem.seqSlot_of (T := "tuple") (name := "__rmul__") (id := "tuple.__rmul__") F.slot_tuple_rmul.lookup (by decide +kernel)]
  rfl
theorem rmul_tup (a : Int) (t : Tok) (l : Addr) (items : Array Value) (n : Nat) (dd : Option Addr) (sl : Array (Option Value)) :
    Meets (Builtin.«int.__rmul__» ⟨[.int a t, .ref l], []⟩) (fun _ R s => s.heap.get? l = some { cls := .type "tuple", dict := dd, data := .seq items n, slots := sl } ∧ R (.ok (.ret Value.notImplemented)) s) :=
  .of_wp fun prog w A R s h => by obtain ⟨hp, g, d, tk, os⟩ := s; obtain ⟨hl, h⟩ := h; wp_walk; exact ⟨_, rfl, h⟩
theorem tuple_mulW (l : Addr) (items : Array Value) (n : Nat) (dd : Option Addr) (sl : Array (Option Value)) (k : Int) (t : Tok) (hc0 : ¬ (decide (k < -(2 ^ 63)) || decide (k ≥ 2 ^ 63)) = true) (hc1 : ¬ (items.isEmpty || k == 1) = true) (hc2 : ¬ (decide (k ≤ 0) || items.isEmpty) = true)
    (hc3 : ¬ ((items.size : Int) * k > (2 ^ 63 - 1) / 8)) (hc4 : ¬ Builtin.Tuple.tupleTooMany ((items.size : Int) * k) = true) (hsz : ((List.replicate k.toNat items).foldl (· ++ ·) #[]).size ≤ sizeLine) :
    Meets (Builtin.«tuple.__mul__» ⟨[.ref l, .int k t], []⟩) (fun _ R s => s.heap.get? l = some { cls := .type "tuple", dict := dd, data := .seq items n, slots := sl } ∧ R (.ok (.ret (Value.ref s.heap.objs.size))) { s with heap := s.heap.push { cls := Value.type "tuple", data := Data.seq ((List.replicate k.toNat items).foldl (· ++ ·) #[]) }, toks := s.toks }) :=
  .of_wp fun prog w A R s h => by
    obtain ⟨hp, g, d, tk, os⟩ := s
    obtain ⟨hl, h⟩ := h
    have f1 := AutoSeq1.idx_int
    have f2 := AutoSeq1.sub_tuple_tuple
    wp_walk using wpAny_loadPart' hl
    rw [if_neg hc0]
    wp_walk using wpAny_loadPart' hl
    rw [if_neg hc3]
    wp_walk using wpAny_loadPart' hl
    exact ⟨_, rfl, h⟩
end
end HT
namespace L2
open PySem PySem.Spec PyProof.Rows
section
variable {X : Cx}
/-- t + u: some tuple of both -/
theorem op_catS : OpR X (binaryOp .Add) (fun x y H Q => ∃ a b xs ys, x = .ref a ∧ y = .ref b ∧ H a = some (.tup xs) ∧ H b = some (.tup ys) ∧ xs.length + ys.length ≤ 1000 ∧ ∀ p H', Same H H' → H' p = some (.tup (xs ++ ys)) → Q (.ref p) H') := by
  intro pins s σ H x y v u Q I rx ry h
  obtain ⟨a, b, xs, ys, rfl, rfl, ha, hb, hz, q⟩ := h
  have hz' : xs.length + ys.length ≤ sizeLine := Nat.le_trans hz (by decide)
  cases rx
  cases ry
  obtain ⟨its, r1, p1, _⟩ := I.tuple (SqT.of ha)
  obtain ⟨its2, r2, p2, _⟩ := I.tuple (SqT.of hb)
  refine HT.cat_tupA p1 p2 (fun z => ⟨.ref b, H, I, rfl, q b H (Same.refl H) ?_⟩) (fun _ z => ⟨.ref a, H, I, rfl, q a H (Same.refl H) ?_⟩) (fun _ z => ?_) (by rw [← r1.length, ← r2.length]; exact hz')
  · rw [r1.nil_iff.mp z]; exact hb
  · rw [r2.nil_iff.mp z, List.append_nil]; exact ha
  refine ⟨.ref s.heap.objs.size, _, I.laid (t' := s.toks) (o := .tup (xs ++ ys)) (fun b ob q => Heap.get?_push_of_some _ q) (Nat.le_refl _) ?_, rfl, q _ _ (fun a' u e => by rw [upd_ne (ne_of_none e (I.hok.fresh (Nat.le_refl _)))]; exact e) upd_same⟩
  exact ⟨by rw [List.length_append]; exact hz', _, r1.append r2, IsTup.new _ _⟩
/-- t * k, k from 2 on -/
theorem op_repS : OpR X (binaryOp .Mult) (fun x y H Q => ∃ (a : Addr) (k : Int) (xs : List V), x = .ref a ∧ y = .int k ∧ H a = some (.tup xs) ∧ (2 ≤ k ∧ k ≤ 20) ∧ (xs ≠ [] ∧ xs.length ≤ 20) ∧ ∀ p H', Same H H' → H' p = some (.tup (List.replicate k.toNat xs).flatten) → Q (.ref p) H') := by
  intro pins s σ H x y v u Q I rx ry h
  obtain ⟨a, k, xs, rfl, rfl, ha, ⟨k2, k20⟩, ⟨hne, h20⟩, q⟩ := h
  cases rx
  obtain ⟨t, rfl⟩ := ry
  obtain ⟨its, r, p1, _⟩ := I.tuple (SqT.of ha)
  obtain ⟨⟨cls, dd, data, sl⟩, ho, hc, n, hd⟩ := id p1
  simp only at hc hd
  subst hc hd
  have hlen : its.length = xs.length := r.length.symm
  have hine : its.toArray.isEmpty = false := by
    cases its with
    | nil => exact absurd (r.nil_iff.mp rfl) hne
    | cons _ _ => rfl
  have hmul : (List.replicate k.toNat xs).flatten.length ≤ 400 := by
    rw [len_rep]
    exact Nat.le_trans (Nat.mul_le_mul (show k.toNat ≤ 20 by omega) h20) (by decide)
  have hnew : List.foldl (fun x1 x2 => x1 ++ x2) #[] (List.replicate k.toNat its.toArray) = (List.replicate k.toNat its).flatten.toArray := by
    have := foldl_rep its k.toNat []
    rw [List.nil_append] at this
    exact this
  have hmI : (its.toArray.size : Int) * k ≤ 400 := by
    rw [List.size_toArray, hlen]
    have : (xs.length : Int) * k ≤ 20 * 20 := Int.mul_le_mul (by omega) k20 (by omega) (by decide)
    omega
  refine wpAny_binaryOp_repeat_ref (T := "tuple") (U := "int") (by decide) ⟨_, ho, rfl⟩ (fun s' => typeIs_int s' k t) HT.noFill_tuple_mul F.fills_int_mul F.slot_int_rmul HT.repeat_tuple F.slot_int_index.lookup
    (call_meets F.slot_int_rmul (typeIs_int s k t) F.entry_int_rmul (F.args_int_rmul_2 _ _) (HT.rmul_tup k t a its.toArray n dd sl)
      ⟨ho, rfl, ⟨_, ho, rfl⟩, call_meets F.slot_tuple_mul ⟨_, ho, rfl⟩ F.entry_tuple_mul (F.args_tuple_mul_2 _ _) (HT.tuple_mulW a its.toArray n dd sl k t ?_ ?_ ?_ ?_ ?_ ?_) ⟨ho, ?_⟩⟩)
  · simp; omega
  · rw [hine]; simp; omega
  · rw [hine]; simp; omega
  · omega
  · unfold Builtin.Tuple.tupleTooMany
    have : (400 : Int) ≤ (sizeLine : Int) := by decide
    rw [decide_eq_true_iff]
    omega
  · rw [hnew, List.size_toArray, ← (r.rep k.toNat).length]
    exact Nat.le_trans hmul (by decide)
  rw [hnew]
  refine ⟨.ref s.heap.objs.size, _, I.laid (t' := s.toks) (o := .tup (List.replicate k.toNat xs).flatten) (fun b ob q => Heap.get?_push_of_some _ q) (Nat.le_refl _) ?_, rfl, q _ _ (fun a' u e => by rw [upd_ne (ne_of_none e (I.hok.fresh (Nat.le_refl _)))]; exact e) upd_same⟩
  exact ⟨Nat.le_trans hmul (by decide), _, r.rep k.toNat, IsTup.new _ _⟩
end
end L2

set_option Elab.async false
set_option linter.all false
set_option maxRecDepth 100000
set_option maxHeartbeats 4000000
namespace L2
open PySem PySem.Spec PyProof.Rows H1
/-- all but boxes of draws is kept -/
def Kp (H H' : Hp) : Prop := ∀ a o, H a = some o → (∀ g m c : Int, o ≠ .lst [.int g, .int m, .int c]) → H' a = some o
theorem Kp.refl {H : Hp} : Kp H H := fun _ _ h _ => h
theorem Kp.trans {H H' H2 : Hp} (k : Kp H H') (k' : Kp H' H2) : Kp H H2 := fun a o h n => k' a o (k a o h n) n
theorem Kp.same {H H' : Hp} (S : Same H H') : Kp H H' := keep_same S
theorem Kp.ext {b : Addr} {H H' : Hp} (E : Ext b H H') (B : Box H b) : Kp H H' := keep_ext E B
theorem Kp.tup {H H' : Hp} (k : Kp H H') {a : Addr} {xs : List V} (h : H a = some (.tup xs)) : H' a = some (.tup xs) := k a _ h fun g m c z => by cases z
theorem Kp.lst {H H' : Hp} (k : Kp H H') {a : Addr} {xs : List V} (nb : NB xs) (h : H a = some (.lst xs)) : H' a = some (.lst xs) := k a _ h fun g m c z => nb g m c (by cases z; rfl)
theorem Kp.all {H H' : Hp} (k : Kp H H') {n : Nat} {xs : List V} (h : ∀ y ∈ xs, Thn n H y) : ∀ y ∈ xs, Thn n H' y := fun y hy => (h y hy).mono k
/-- all([f(x) for x in t]) -/
theorem comp_all {K : PySem.W.Frag} {a D : Addr} {xs : List V} {g : TG} {tt : TT} {te : TE} {σ0 : St} {Q : VK} {H0 : Hp} (P : V → Prop) (hD : H0 D = none) (ha : H0 a = some (.tup xs)) (hx : xs.length ≤ 900)
    (step : ∀ x ∈ xs, ∀ Hc, Same H0 Hc → ∀ (R : VK) (Z : Bool → Hp → Prop), (∀ bb H4, Same Hc H4 → (bb = true ↔ P x) → R (.bl bb) H4) → g x σ0 Hc fun σ2 H2 => Wk σ0 σ2 ∧ tt σ2 H2 fun b H3 => if b = true then te σ2 H3 R else Z b H3)
    (hd : ∀ (bs : List Bool) Hc, Same H0 Hc → Hc D = some (.lst (bs.map V.bl)) → (bs.all id = true ↔ ∀ y ∈ xs, P y) → Q (.ref D) Hc) : LoopC (Itt K a) g tt te σ0 D Q (upd H0 D (.lst [])) := by
  refine comp_tup (K := K) (a := a) (xs := xs) (fun i acc Hc => Same H0 Hc ∧ Hc D = some (.lst acc) ∧ ∃ bs : List Bool, acc = bs.map V.bl ∧ bs.length = i ∧ (bs.all id = true ↔ ∀ y ∈ xs.take i, P y)) ⟨H1.Same.upd hD, upd_same, [], rfl, rfl, by simp⟩ (fun _ _ _ _ ⟨sc, _⟩ => SqT.of (sc _ _ ha)) ?_ ?_
  · rintro i x acc Hc hv ⟨Sc, hDc, bs, rfl, hbl, hb⟩
    have hi : i < xs.length := (List.getElem?_eq_some_iff.mp hv).1
    refine step x (List.mem_of_getElem? hv) Hc Sc _ (fun _ H3 => _) fun bb H4 S4 hbb => ?_
    refine ⟨S4 _ _ hDc, small1000 (by rw [List.length_map, hbl]; omega), fun a' o e => by rw [upd_ne (ne_of_none e hD)]; exact S4 _ _ (Sc a' o e), upd_same, bs ++ [bb], by rw [List.map_append]; rfl, by rw [List.length_append, hbl]; rfl, ?_⟩
    have et : xs.take (i + 1) = xs.take i ++ [x] := by rw [List.take_add_one, hv]; rfl
    rw [et, List.all_append, Bool.and_eq_true, hb]
    constructor
    · rintro ⟨z1, z2⟩ y hy
      rcases List.mem_append.mp hy with y1 | y1
      · exact z1 y y1
      · rw [List.mem_singleton.mp y1]
        exact hbb.mp (by simpa using z2)
    · intro z
      refine ⟨fun y hy => z y (List.mem_append_left _ hy), ?_⟩
      have := hbb.mpr (z x (List.mem_append_right _ (List.mem_singleton.mpr rfl)))
      simpa using this
  · rintro acc Hc ⟨Sc, hDc, bs, rfl, hbl, hb⟩
    rw [List.take_length] at hb
    exact hd bs Hc Sc hDc hb
section
variable {X : Cx} {K : PySem.W.Frag}
theorem call_list_ofK (hK : X.K = K) : CallR X (.type "list") (fun xs H Q => ∃ p ys, xs = [.ref p] ∧ (SqL K H p ys ∨ SqT K H p ys) ∧ ∀ l, H l = none → Q (.ref l) (upd H l (.lst ys))) := hK ▸ call_list_of
theorem call_tuple_ofK (hK : X.K = K) : CallR X (.type "tuple") (fun xs H Q => ∃ p ys, xs = [.ref p] ∧ ((SqL K H p ys ∧ ∀ l, H l = none → Q (.ref l) (upd H l (.tup ys))) ∨ (SqT K H p ys ∧ Q (.ref p) H))) := hK ▸ call_tuple_of
end
theorem dct_nb {a : Addr} : ∀ g m c : Int, DictO a ≠ .lst [.int g, .int m, .int c] := fun g m c z => by unfold DictO at z; cases z
/-- a word -/
def IsW (H : Hp) (x : V) : Prop := ∃ (a : Addr) (n m : Int), x = .ref a ∧ H a = some (.tup [.int n, .int m]) ∧ 0 ≤ n ∧ 0 ≤ m ∧ m ≤ 3
theorem IsW.iff {H H' : Hp} (S : Same H H') {x : V} (t : Thn 0 H x) : IsW H' x ↔ IsW H x := by
  constructor
  · rintro ⟨a, n, m, rfl, h, r⟩
    obtain ⟨k, hk⟩ := t
    exact ⟨a, n, m, rfl, hk.back (keep_same S) h, r⟩
  · rintro ⟨a, n, m, rfl, h, r⟩
    exact ⟨a, n, m, rfl, S _ _ h, r⟩
def spIsWord : Sp := fun vs H Q _ => ∃ (x : V), vs = [x] ∧ Th H x ∧ ∀ b, (b = true ↔ IsW H x) → Q (.bl b) H
def spTruthB : Sp := fun vs H Q _ => ∃ (x : Bool), vs = [.bl x, .bl x] ∧ Q (.bl true) H
theorem tup2 {xs : List V} (hl : (xs.length : Int) = 2) : ∃ x0 x1, xs = [x0, x1] := by
  match xs, hl with
  | [x0, x1], _ => exact ⟨x0, x1, rfl⟩
  | [], h => exact absurd h (by decide)
  | [_], h => exact absurd (show ((1 : Nat) : Int) = 2 from h) (by decide)
  | _ :: _ :: _ :: r, h => simp only [List.length_cons] at h; omega
end L2

set_option Elab.async false
set_option linter.all false
set_option maxRecDepth 100000
set_option maxHeartbeats 4000000
namespace L2
open PySem PySem.Spec PyProof.Rows H1
section
variable {X : Cx}
/-- the parts of an f-string, behind what stands ahead -/
abbrev TJ := Str → St → Hp → VK → Prop
def PJ (X : Cx) (es : List Expr) (t : TJ) : Prop :=
  ∀ (pins : List (Addr × Obj)) (s : Shared) (σ : St) (H : Hp) (out : Str) (Q : VK), Inv X pins σ H s → t out σ H Q → wpAny (model X.prog X.w) X.A (joinParts out (evalEach es X.env)) (EP X pins σ Q) X.xe s
def tjNil : TJ := fun out σ H Q => out.length ≤ 100000 ∧ Q (.str out) H
def tjCons (te : TE) (t : TJ) : TJ := fun out σ H Q => te σ H fun x H1 => ∃ y : Str, x = .str y ∧ (out ++ y).length ≤ 100000 ∧ t (out ++ y) σ H1 Q
theorem pj_nil : PJ X [] tjNil := fun pins s σ H out Q I h => joinParts_nil ⟨.str out, H, I.tok _, ⟨_, rfl⟩, h.2⟩ (Nat.le_trans h.1 (by decide))
theorem pj_cons {e : Expr} {es : List Expr} {te : TE} {t : TJ} (he : PE X e te) (h : PJ X es t) : PJ X (e :: es) (tjCons te t) := by
  intro pins s σ H out Q I hh
  show wpAny (model X.prog X.w) X.A (joinParts out (eval e X.env :: evalEach es X.env)) _ _ _
  refine joinParts_cons (thn (he pins s σ H _ I hh) fun v s1 ⟨x, H1, I1, r1, q1⟩ => ?_)
  obtain ⟨y, rfl, hl, q⟩ := q1
  obtain ⟨t, rfl⟩ := r1
  exact ⟨Nat.le_trans hl (by decide), h pins s1 σ H1 (out ++ y) Q I1 q⟩
theorem pe_fstr {e1 e2 : Expr} {es : List Expr} {t : TJ} {pos : Pos} (h : PJ X (e1 :: e2 :: es) t) : PE X (.JoinedStr (e1 :: e2 :: es) pos) (fun σ H Q => t Str.empty σ H Q) := fun pins s σ H Q I hh => JoinedStr_many (h pins s σ H Str.empty Q I hh)
theorem pe_fstr1 {e : Expr} {te : TE} {pos : Pos} (h : PE X e te) : PE X (.JoinedStr [e] pos) te := fun pins s σ H Q I hh => JoinedStr_one (h pins s σ H Q I hh)
def tFmtI (te : TE) : TE := fun σ H Q => te σ H fun x H1 => ∃ i : Int, x = .int i ∧ i.natAbs < 10 ^ 12 ∧ Q (.str (toString i)) H1
theorem pe_fmtI {e : Expr} {te : TE} {pos : Pos} (h : PE X e te) : PE X (.FormattedValue e (-1) none pos) (tFmtI te) := by
  intro pins s σ H Q I hh
  refine FormattedValue_plain (thn (h pins s σ H _ I hh) fun v s1 ⟨x, H1, I1, r1, q1⟩ => ?_)
  obtain ⟨i, rfl, hi, q⟩ := q1
  obtain ⟨t, rfl⟩ := r1
  exact formatField_int_small (log_small hi) ⟨.str _, H1, I1.tok _, ⟨_, rfl⟩, q⟩
def tFmtS (te : TE) : TE := fun σ H Q => te σ H fun x H1 => ∃ y : Str, x = .str y ∧ y.length ≤ 100000 ∧ Q (.str y) H1
theorem pe_fmtS {e : Expr} {te : TE} {pos : Pos} (h : PE X e te) : PE X (.FormattedValue e (-1) none pos) (tFmtS te) := by
  intro pins s σ H Q I hh
  refine FormattedValue_plain (thn (h pins s σ H _ I hh) fun v s1 ⟨x, H1, I1, r1, q1⟩ => ?_)
  obtain ⟨y, rfl, hi, q⟩ := q1
  obtain ⟨t, rfl⟩ := r1
  exact formatField_str (fun t' tk => ⟨.str y, H1, I1.tok _, ⟨_, rfl⟩, q⟩) (Nat.le_trans hi (by decide))
theorem vals_strs : ∀ {ss : List Str} {us : List Value}, Vals (ss.map V.str) us → ∃ l : List (Str × Tok), us = strValues l ∧ l.map (·.1) = ss
  | [], _, r => by cases r; exact ⟨[], rfl, rfl⟩
  | x :: ss, _, r => by
    cases r with
    | cons r1 r2 =>
      obtain ⟨t, rfl⟩ := r1
      obtain ⟨l, rfl, h⟩ := vals_strs r2
      exact ⟨(x, t) :: l, rfl, by rw [List.map_cons, h]⟩
theorem sum_le {ss : List Str} {B : Nat} (h : ∀ x ∈ ss, x.length ≤ B) : (ss.map (·.length)).sum ≤ ss.length * B := by
  induction ss with
  | nil => simp
  | cons x r ih =>
    rw [List.map_cons, List.sum_cons, List.length_cons, Nat.succ_mul]
    have := ih fun y hy => h y (List.mem_cons_of_mem _ hy)
    have := h x (List.mem_cons_self ..)
    omega
/-- sep.join(xs), xs a list of texts -/
theorem mt_join : MtR X "str.join" (fun x vs H Q => ∃ (sep : Str) (l : Addr) (ss : List Str), x = .str sep ∧ vs = [.ref l] ∧ SqL X.K H l (ss.map V.str) ∧ sep.length ≤ 16 ∧ ss.length ≤ 1000 ∧ (∀ x ∈ ss, x.length ≤ 1000) ∧ Q (.str (Txt.join sep ss)) H) := by
  intro pins s σ H x vs v us Q I rx rv h
  obtain ⟨sep, l, ss, rfl, rfl, hl, h16, hn, hx, q⟩ := h
  obtain ⟨t, rfl⟩ := rx
  obtain ⟨u, rfl, ru⟩ := vals1 rv
  cases ru
  obtain ⟨its, r, pl, _⟩ := I.list hl
  obtain ⟨ps, rfl, hps⟩ := vals_strs r
  refine SC.join pl.isList hps (joinOk_of_weight ?_ h16) fun t' k => ⟨.str _, H, I.tok _, ⟨_, rfl⟩, q⟩
  have h1 := sum_le hx
  have h2 : ss.length * 1000 ≤ 1000 * 1000 := Nat.mul_le_mul_right _ hn
  omega
/-- xs != ys, lists of data -/
theorem op_neL2 (hu : X.A.units + 64 < cLine) : OpR X (compareOp .NotEq) (fun x y H Q => ∃ (p q : Addr) (zs us : List V) (ds es : List PyData) (L : Nat), x = .ref p ∧ y = .ref q ∧ H p = some (.lst zs) ∧ H q = some (.lst us) ∧ TrL H zs ds ∧ TrL H us es ∧ (∀ e ∈ ds, Fine e 40 L) ∧ (∀ e ∈ es, Fine e 40 L) ∧ Q (.bl (!((PyData.list ds).eqv (.list es)))) H) := by
  intro pins s σ H x y v u Q I rx ry h
  obtain ⟨p, q', zs, us, ds, es, L, rfl, rfl, hp, hq, tz, tu, fz, fu, q⟩ := h
  cases rx
  cases ry
  obtain ⟨_, its, n, rv, e⟩ := I.hok p _ hp
  obtain ⟨as, ra⟩ := tz.reads I rv
  obtain ⟨_, its2, n2, rv2, e2⟩ := I.hok q' _ hq
  obtain ⟨bs, rb⟩ := tu.reads I rv2
  have fa := Fine.all fz
  have fb := Fine.all fu
  refine PySem.SeqAt.compareNe_reads (.list e rfl rfl (by simpa using ra)) (.list e2 rfl rfl (by simpa using rb)) (show (PyData.list ds).canLay0 = true from fa.1) (show (PyData.list es).canLay0 = true from fb.1) ?_ ⟨.bl _, H, I, rfl, q⟩
  rw [PyData.depth.eq_1]
  have := fa.2.2.1
  omega
theorem ok_of (x : String) : PyData.strOk (Str.ofString x) = true := by
  unfold PyData.strOk
  rw [Str.ofString_eq_toList, List.all_toArray, List.all_eq_true]
  intro n hn
  obtain ⟨c, _, rfl⟩ := List.mem_map.mp hn
  rw [decide_eq_true_iff]
  rcases c.valid with h | h
  · exact Nat.lt_trans (show c.toNat < 0xd800 from h) (by decide)
  · exact h.2
theorem ok_app {a b : Str} (h : PyData.strOk a = true) (h' : PyData.strOk b = true) : PyData.strOk (a ++ b) = true := by
  unfold PyData.strOk at *
  rw [Str.cps_append, Array.all_append, h, h']
  rfl
theorem ok_join {sep : Str} (hs : PyData.strOk sep = true) : ∀ {ss : List Str}, (∀ x ∈ ss, PyData.strOk x = true) → PyData.strOk (Str.join sep ss) = true
  | [], _ => (by show PyData.strOk Str.empty = true; simp [PyData.strOk, Str.empty])
  | [x], h => h x (List.mem_singleton.mpr rfl)
  | x :: y :: r, h => by
    show PyData.strOk (x ++ sep ++ Str.join sep (y :: r)) = true
    exact ok_app (ok_app (h x (List.mem_cons_self ..)) hs) (ok_join hs fun z hz => h z (List.mem_cons_of_mem _ hz))
theorem ok_joinT {sep : Str} (hs : PyData.strOk sep = true) {ss : List Str} (h : ∀ x ∈ ss, PyData.strOk x = true) : PyData.strOk (Txt.join sep ss) = true := by
  show PyData.strOk (Builtin.Str.glued sep ss) = true
  rw [StrLaws.glued_eq_join]
  exact ok_join hs h
theorem lay_strs : ∀ ss : List Str, (∀ x ∈ ss, PyData.strOk x = true) → PyData.canLayAll0 (ss.map .str) = true ∧ PyData.depthAll (ss.map .str) ≤ 1
  | [], _ => ⟨rfl, by decide⟩
  | x :: r, h => by
    obtain ⟨h1, h2⟩ := lay_strs r fun y hy => h y (List.mem_cons_of_mem _ hy)
    refine ⟨?_, ?_⟩
    · show (PyData.strOk x && PyData.canLayAll0 (r.map .str)) = true
      rw [h1, h x (List.mem_cons_self ..)]
      rfl
    · rw [List.map_cons, PyData.depthAll.eq_2]
      exact Nat.max_le.mpr ⟨by show (0 : Nat) ≤ 1; decide, h2⟩
theorem trl_strs {H : Hp} : ∀ ss : List Str, TrL H (ss.map V.str) (ss.map .str)
  | [] => .nil
  | n :: r => .cons (.str n) (trl_strs r)
/-- xs != [], xs a list of texts -/
theorem op_neE (hu : X.A.units + 64 < cLine) : OpR X (compareOp .NotEq) (fun x y H Q => ∃ (p q : Addr) (ss : List Str), x = .ref p ∧ y = .ref q ∧ H p = some (.lst (ss.map V.str)) ∧ H q = some (.lst []) ∧ (∀ x ∈ ss, PyData.strOk x = true) ∧ Q (.bl (!ss.isEmpty)) H) := by
  intro pins s σ H x y v u Q I rx ry h
  obtain ⟨p, q', ss, rfl, rfl, hp, hq, hok, q⟩ := h
  cases rx
  cases ry
  obtain ⟨_, its, n, rv, e⟩ := I.hok p _ hp
  obtain ⟨as, ra⟩ := (trl_strs ss).reads I rv
  obtain ⟨_, its2, n2, rv2, e2⟩ := I.hok q' _ hq
  obtain ⟨bs, rb⟩ := (TrL.nil (H := H)).reads I rv2
  obtain ⟨l1, l2⟩ := lay_strs ss hok
  have he : (PyData.list (ss.map .str)).eqv (.list []) = ss.isEmpty := by cases ss <;> rfl
  rw [← he] at q
  refine PySem.SeqAt.compareNe_reads (.list e rfl rfl (by simpa using ra)) (.list e2 rfl rfl (by simpa using rb)) (show (PyData.list (ss.map .str)).canLay0 = true from l1) rfl ?_ ⟨.bl _, H, I, rfl, q⟩
  rw [PyData.depth.eq_1]
  omega
/-- a module's text -/
def GStr (mg : Str → Option Value) (x : Str) (n : Str) : Prop := ∃ t, mg x = some (.str n t)
theorem pe_globS {x n : Str} {pos : Pos} (hg : Gl X x) (h : GStr X.mg x n) (hd : (x == ("__debug__" : Str)) = false := by decide) : PE X (.Name x pos) (tC (.str n)) := by
  obtain ⟨t, e⟩ := h
  exact pe_glob hg e ⟨t, rfl⟩ hd
end
/-- over enumerate of a tuple that stays -/
theorem comp_enum {K : PySem.W.Frag} {a D : Addr} {xs : List V} {g : TG} {tt : TT} {te : TE} {σ0 : St} {Q : VK} {Hs : Hp} (Pv : Nat → List V → Hp → Prop) (h0 : Pv 0 [] Hs) (hl : ∀ i acc H, i ≤ xs.length → Pv i acc H → SqT K H a xs)
    (hs : ∀ i x acc H p, xs[i]? = some x → Pv i acc H → H p = none → g (.ref p) σ0 (upd H p (.tup [.int i, x])) fun σ2 H2 => Wk σ0 σ2 ∧ tt σ2 H2 fun b H3 => if b = true then te σ2 H3 fun y H4 => H4 D = some (.lst acc) ∧ acc.length < sizeLine ∧ Pv (i + 1) (acc ++ [y]) (upd H4 D (.lst (acc ++ [y]))) else Pv (i + 1) acc H3)
    (hd : ∀ acc H, Pv xs.length acc H → Q (.ref D) H) : LoopC (Ite K a) g tt te σ0 D Q Hs := by
  refine ⟨fun i m acc H => m = xs.length - i ∧ i ≤ xs.length ∧ Pv i acc H, ⟨xs.length, by simp, Nat.zero_le _, h0⟩, ?_⟩
  rintro i m acc H ⟨rfl, hi, p⟩
  have q := hl i acc H hi p
  by_cases hlt : i < xs.length
  · refine .inr ⟨⟨xs, xs[i], q, by simp [hlt]⟩, Pv (i + 1), fun acc' H' p' => ⟨xs.length - (i + 1), by omega, rfl, hlt, p'⟩, fun v H' y => ?_⟩
    obtain ⟨pp, x, rfl, hp, rfl, y⟩ := y
    exact hs i x acc _ pp (y xs q) p hp
  · have e : i = xs.length := by omega
    subst e
    exact .inl ⟨⟨xs, q, Nat.le_refl _⟩, hd acc H p⟩
theorem join_le {sep : Str} {ss : List Str} {B N : Nat} (h : ∀ x ∈ ss, x.length ≤ B) (hn : ss.length ≤ N) : (Txt.join sep ss).length ≤ N * B + N * sep.length := by
  show (Builtin.Str.glued sep ss).length ≤ _
  rw [StrLaws.glued_eq_join]
  cases ss with
  | nil => exact Nat.zero_le _
  | cons a r =>
    rw [len_join_cons]
    have h1 := sum_le h
    have h2 : (a :: r).length * B ≤ N * B := Nat.mul_le_mul_right _ hn
    have h3 : r.length * sep.length ≤ N * sep.length := Nat.mul_le_mul_right _ (by rw [List.length_cons] at hn; omega)
    omega
theorem int_text {i : Int} (h : i.natAbs < 10 ^ 12) : ((toString i : String) : Str).length ≤ 13 := PyData.shown_int_le h
end L2

set_option Elab.async false
set_option linter.all false
set_option maxRecDepth 100000
set_option maxHeartbeats 4000000
namespace L2
open PySem PySem.Spec PyProof.Rows H1
/-- houses and states as data -/
abbrev Hs := Int × List (Int × Int) × List Int × List Int
def intsD (ns : List Int) : PyData := .tuple (ns.map .int)
def houseD (h : Hs) : PyData := .tuple [.int h.1, bookD h.2.1, intsD h.2.2.1, intsD h.2.2.2]
def stateD (t : Int) (hs : List Hs) : PyData := .tuple [.int t, .tuple (hs.map houseD)]
theorem TrL.four {H : Hp} {xs : List V} {d e f g : PyData} (t : TrL H xs [d, e, f, g]) : ∃ x y z u, xs = [x, y, z, u] ∧ Tr H x d ∧ Tr H y e ∧ Tr H z f ∧ Tr H u g := by
  cases t with
  | cons t1 t => cases t with
    | cons t2 t => cases t with
      | cons t3 t => cases t with
        | cons t4 t => cases t; exact ⟨_, _, _, _, rfl, t1, t2, t3, t4⟩
theorem Tr.houseI {H : Hp} {v : V} {h : Hs} (t : Tr H v (houseD h)) : ∃ q b c d, v = .ref q ∧ H q = some (.tup [.int h.1, .ref b, .ref c, .ref d]) ∧ Tr H (.ref b) (bookD h.2.1) ∧ Tr H (.ref c) (intsD h.2.2.1) ∧ Tr H (.ref d) (intsD h.2.2.2) := by
  obtain ⟨q, xs, rfl, hq, tl⟩ := t.tupI
  obtain ⟨x, y, z, u, rfl, t1, t2, t3, t4⟩ := tl.four
  cases t1.intI
  obtain ⟨b, _, rfl, _⟩ := Tr.tupI (ds := h.2.1.map wordD) t2
  obtain ⟨c, _, rfl, _⟩ := Tr.tupI (ds := h.2.2.1.map .int) t3
  obtain ⟨d, _, rfl, _⟩ := Tr.tupI (ds := h.2.2.2.map .int) t4
  exact ⟨q, b, c, d, rfl, hq, t2, t3, t4⟩
theorem Tr.stateI {H : Hp} {v : V} {t : Int} {hs : List Hs} (tr : Tr H v (stateD t hs)) : ∃ q a xs, v = .ref q ∧ H q = some (.tup [.int t, .ref a]) ∧ H a = some (.tup xs) ∧ TrL H xs (hs.map houseD) := by
  obtain ⟨q, xs, rfl, hq, tl⟩ := tr.tupI
  obtain ⟨x, y, rfl, t1, t2⟩ := tl.two
  cases t1.intI
  obtain ⟨a, ys, rfl, ha, tl2⟩ := t2.tupI
  exact ⟨q, a, ys, rfl, hq, ha, tl2⟩
theorem trl_ints {H : Hp} : ∀ ns : List Int, TrL H (ns.map V.int) (ns.map .int)
  | [] => .nil
  | n :: r => .cons (.int n) (trl_ints r)
theorem TrL.ints {H : Hp} : ∀ {vs : List V} {ns : List Int}, TrL H vs (ns.map .int) → vs = ns.map V.int
  | _, [], t => by cases t; rfl
  | _, n :: r, t => by
    cases t with
    | cons t1 t2 => cases t1; rw [t2.ints]; rfl
theorem TrL.strs {H : Hp} : ∀ {vs : List V} {ss : List Str}, TrL H vs (ss.map .str) → vs = ss.map V.str
  | _, [], t => by cases t; rfl
  | _, n :: r, t => by
    cases t with
    | cons t1 t2 => cases t1; rw [t2.strs]; rfl
/-- [e for x in t], a datum each -/
theorem comp_mapD {K : PySem.W.Frag} {a D : Addr} {xs : List V} {g : TG} {tt : TT} {te : TE} {σ0 : St} {Q : VK} {H0 : Hp} (ds : List PyData) (hD : H0 D = none) (ha : H0 a = some (.tup xs)) (hx : xs.length ≤ 900) (hl : ds.length = xs.length)
    (step : ∀ (i : Nat) x d, xs[i]? = some x → ds[i]? = some d → ∀ Hc, Same H0 Hc → ∀ (R : VK) (Z : Bool → Hp → Prop), (∀ y H4, Same Hc H4 → Tr H4 y d → R y H4) → g x σ0 Hc fun σ2 H2 => Wk σ0 σ2 ∧ tt σ2 H2 fun b H3 => if b = true then te σ2 H3 R else Z b H3)
    (hd : ∀ acc Hc, Same H0 Hc → Hc D = some (.lst acc) → TrL Hc acc ds → Q (.ref D) Hc) : LoopC (Itt K a) g tt te σ0 D Q (upd H0 D (.lst [])) := by
  refine comp_tup (K := K) (a := a) (xs := xs) (fun i acc Hc => Same H0 Hc ∧ Hc D = some (.lst acc) ∧ acc.length = i ∧ TrL Hc acc (ds.take i)) ⟨H1.Same.upd hD, upd_same, rfl, .nil⟩ (fun _ _ _ _ ⟨sc, _⟩ => SqT.of (sc _ _ ha)) ?_ ?_
  · rintro i x acc Hc hv ⟨Sc, hDc, hal, tc⟩
    have hi : i < xs.length := (List.getElem?_eq_some_iff.mp hv).1
    have hdi : ds[i]? = some ds[i] := List.getElem?_eq_getElem (by omega)
    refine step i x _ hv hdi Hc Sc _ (fun _ H3 => _) fun y H4 S4 ty => ?_
    refine ⟨S4 _ _ hDc, small1000 (by omega), fun a' o e => by rw [upd_ne (ne_of_none e hD)]; exact S4 _ _ (Sc a' o e), upd_same, by rw [List.length_append, hal]; rfl, ?_⟩
    rw [List.take_add_one, hdi]
    exact ((tc.same S4).append (.cons ty .nil)).mono fun a' us e => by rw [upd_ne (ne_of e (S4 _ _ hDc) (by intro z; cases z))]; exact e
  · rintro acc Hc ⟨Sc, hDc, hal, tc⟩
    rw [← hl, List.take_length] at tc
    exact hd acc Hc Sc hDc tc
theorem comp_mapL {K : PySem.W.Frag} {a D : Addr} {xs : List V} {g : TG} {tt : TT} {te : TE} {σ0 : St} {Q : VK} {H0 : Hp} (ds : List PyData) (hD : H0 D = none) (ha : H0 a = some (.lst xs)) (hx : xs.length ≤ 900) (hl : ds.length = xs.length)
    (step : ∀ (i : Nat) x d, xs[i]? = some x → ds[i]? = some d → ∀ Hc, Same H0 Hc → ∀ (R : VK) (Z : Bool → Hp → Prop), (∀ y H4, Same Hc H4 → Tr H4 y d → R y H4) → g x σ0 Hc fun σ2 H2 => Wk σ0 σ2 ∧ tt σ2 H2 fun b H3 => if b = true then te σ2 H3 R else Z b H3)
    (hd : ∀ acc Hc, Same H0 Hc → Hc D = some (.lst acc) → TrL Hc acc ds → Q (.ref D) Hc) : LoopC (Itl K a) g tt te σ0 D Q (upd H0 D (.lst [])) := by
  refine comp_list (K := K) (a := a) (xs := xs) (fun i acc Hc => Same H0 Hc ∧ Hc D = some (.lst acc) ∧ acc.length = i ∧ TrL Hc acc (ds.take i)) ⟨H1.Same.upd hD, upd_same, rfl, .nil⟩ (fun _ _ _ _ ⟨sc, _⟩ => SqL.of (sc _ _ ha)) ?_ ?_
  · rintro i x acc Hc hv ⟨Sc, hDc, hal, tc⟩
    have hi : i < xs.length := (List.getElem?_eq_some_iff.mp hv).1
    have hdi : ds[i]? = some ds[i] := List.getElem?_eq_getElem (by omega)
    refine step i x _ hv hdi Hc Sc _ (fun _ H3 => _) fun y H4 S4 ty => ?_
    refine ⟨S4 _ _ hDc, small1000 (by omega), fun a' o e => by rw [upd_ne (ne_of_none e hD)]; exact S4 _ _ (Sc a' o e), upd_same, by rw [List.length_append, hal]; rfl, ?_⟩
    rw [List.take_add_one, hdi]
    exact ((tc.same S4).append (.cons ty .nil)).mono fun a' us e => by rw [upd_ne (ne_of e (S4 _ _ hDc) (by intro z; cases z))]; exact e
  · rintro acc Hc ⟨Sc, hDc, hal, tc⟩
    rw [← hl, List.take_length] at tc
    exact hd acc Hc Sc hDc tc
/-- tuple([draw for i in range(n)]) within draws -/
theorem comp_drawI {b D : Addr} {lo : Int} {n : Nat} {g : TG} {tt : TT} {te : TE} {σ0 : St} {Q : VK} {H0 : Hp} (P : Int → Prop) (B : Box H0 b) (hD : H0 D = none) (hn : n ≤ 900)
    (step : ∀ i Hc, i < n → Ext b H0 Hc → ∀ (R : VK) (Z : Bool → Hp → Prop), (∀ k H4, Ext b Hc H4 → P k → R (.int k) H4) → g (.int (lo + i)) σ0 Hc fun σ2 H2 => Wk σ0 σ2 ∧ tt σ2 H2 fun b H3 => if b = true then te σ2 H3 R else Z b H3)
    (hd : ∀ (ns : List Int) Hc, Ext b H0 Hc → Hc D = some (.lst (ns.map V.int)) → ns.length = n → (∀ k ∈ ns, P k) → Q (.ref D) Hc) : LoopC (Itr lo n) g tt te σ0 D Q (upd H0 D (.lst [])) := by
  have hbD : b ≠ D := B.ne0 hD
  refine comp_range (fun i acc Hc => Ext b H0 Hc ∧ Hc D = some (.lst acc) ∧ ∃ ns : List Int, acc = ns.map V.int ∧ ns.length = i ∧ ∀ k ∈ ns, P k) ⟨Ext.new B hD, upd_same, [], rfl, rfl, fun _ z => nomatch z⟩ ?_ ?_
  · rintro i acc Hc hi ⟨Ec, hDc, ns, rfl, hnl, hp⟩
    refine step i Hc hi Ec _ (fun _ H3 => _) fun k H4 E4 hk => ?_
    have hD4 := E4.kp _ _ hDc (Ne.symm hbD)
    refine ⟨hD4, small1000 (by rw [List.length_map, hnl]; omega), ⟨fun a o e na => ?_, ?_⟩, upd_same, ns ++ [k], by rw [List.map_append]; rfl, by rw [List.length_append, hnl]; rfl, fun k' hk' => ?_⟩
    · rw [upd_ne (ne_of_none e hD)]
      exact (Ec.trans E4).kp a o e na
    · obtain ⟨o, hb, r⟩ := E4.bx
      exact ⟨o, by rw [upd_ne hbD]; exact hb, r⟩
    · rcases List.mem_append.mp hk' with z | z
      · exact hp k' z
      · rw [List.mem_singleton.mp z]; exact hk
  · rintro acc Hc ⟨Ec, hDc, ns, rfl, hnl, hp⟩
    exact hd ns Hc Ec hDc hnl hp
/-- [thing(..) for i in range(n)] within draws, a datum each -/
theorem comp_drawD {α : Type} (f : α → PyData) {b D : Addr} {lo : Int} {n : Nat} {g : TG} {tt : TT} {te : TE} {σ0 : St} {Q : VK} {H0 : Hp} (P : α → Prop) (B : Box H0 b) (hD : H0 D = none) (hn : n ≤ 900)
    (step : ∀ i Hc, i < n → Ext b H0 Hc → ∀ (R : VK) (Z : Bool → Hp → Prop), (∀ k y H4, Ext b Hc H4 → Tr H4 y (f k) → P k → R y H4) → g (.int (lo + i)) σ0 Hc fun σ2 H2 => Wk σ0 σ2 ∧ tt σ2 H2 fun b H3 => if b = true then te σ2 H3 R else Z b H3)
    (hd : ∀ (ks : List α) acc Hc, Ext b H0 Hc → Hc D = some (.lst acc) → TrL Hc acc (ks.map f) → ks.length = n → (∀ k ∈ ks, P k) → Q (.ref D) Hc) : LoopC (Itr lo n) g tt te σ0 D Q (upd H0 D (.lst [])) := by
  have hbD : b ≠ D := B.ne0 hD
  refine comp_range (fun i acc Hc => Ext b H0 Hc ∧ Hc D = some (.lst acc) ∧ ∃ ks : List α, TrL Hc acc (ks.map f) ∧ ks.length = i ∧ ∀ k ∈ ks, P k) ⟨Ext.new B hD, upd_same, [], .nil, rfl, fun _ z => nomatch z⟩ ?_ ?_
  · rintro i acc Hc hi ⟨Ec, hDc, ks, tc, hnl, hp⟩
    refine step i Hc hi Ec _ (fun _ H3 => _) fun k y H4 E4 ty hk => ?_
    have hD4 := E4.kp _ _ hDc (Ne.symm hbD)
    refine ⟨hD4, small1000 (by rw [tc.lenM, hnl]; omega), ⟨fun a o e na => ?_, ?_⟩, upd_same, ks ++ [k], ?_, by rw [List.length_append, hnl]; rfl, fun k' hk' => ?_⟩
    · rw [upd_ne (ne_of_none e hD)]
      exact (Ec.trans E4).kp a o e na
    · obtain ⟨o, hb, r⟩ := E4.bx
      exact ⟨o, by rw [upd_ne hbD]; exact hb, r⟩
    · exact ((tc.ext E4 Ec.bx).snocM ty).mono fun a' us e => by rw [upd_ne (ne_of e hD4 (by intro z; cases z))]; exact e
    · rcases List.mem_append.mp hk' with z | z
      · exact hp k' z
      · rw [List.mem_singleton.mp z]; exact hk
  · rintro acc Hc ⟨Ec, hDc, ks, tc, hnl, hp⟩
    exact hd ks acc Hc Ec hDc tc hnl hp
/-- who is up, with its book -/
def ups (hs : List Hs) : List (Nat × List (Int × Int)) := (hs.zipIdx.filter fun p => decide (p.1.1 = 1)).map fun p => (p.2, p.1.2.1)
def upD (p : Nat × List (Int × Int)) : PyData := .tuple [.int (p.1 : Int), bookD p.2]
def viewD (p : Nat × List (Int × Int)) : PyData := .tuple [.int (p.1 : Int), intsD (p.2.map (·.2))]
theorem ups_take {hs : List Hs} {i : Nat} {h : Hs} (e : hs[i]? = some h) : ups (hs.take (i + 1)) = ups (hs.take i) ++ (if h.1 = 1 then [(i, h.2.1)] else []) := by
  have hi := (List.getElem?_eq_some_iff.mp e).1
  have et : hs.take (i + 1) = hs.take i ++ [h] := by rw [List.take_add_one, e]; rfl
  unfold ups
  rw [et, List.zipIdx_append, List.filter_append, List.map_append, List.length_take, Nat.min_eq_left (Nat.le_of_lt hi)]
  congr 1
  by_cases c : h.1 = 1
  · simp [c]
  · simp [c]
theorem ups_len (hs : List Hs) : (ups hs).length ≤ hs.length := by
  unfold ups
  rw [List.length_map]
  exact Nat.le_trans (List.length_filter_le _ _) (by rw [List.length_zipIdx]; exact Nat.le_refl _)
theorem ups_mem {hs : List Hs} {p : Nat × List (Int × Int)} (h : p ∈ ups hs) : p.1 < hs.length ∧ ∃ x ∈ hs, x.2.1 = p.2 := by
  unfold ups at h
  obtain ⟨⟨x, n⟩, hx, rfl⟩ := List.mem_map.mp h
  have hm := (List.mem_filter.mp hx).1
  have := List.mem_zipIdx hm
  refine ⟨by omega, x, ?_, rfl⟩
  rw [this.2.2]
  exact List.getElem_mem _
structure HsOk (m : Nat) (h : Hs) : Prop where
  up : h.1 = 0 ∨ h.1 = 1
  bl : h.2.1.length = m
  bs : ∀ w ∈ h.2.1, Sml w
  tl : h.2.2.1.length = m
  ts : ∀ n ∈ h.2.2.1, 0 ≤ n ∧ n ≤ 9
  ml : h.2.2.2.length = m
  ms : ∀ n ∈ h.2.2.2, 0 ≤ n ∧ n ≤ 9
theorem view_fine {p : Nat × List (Int × Int)} (h1 : p.1 < 1000) (h2 : p.2.length ≤ 8) (hs : ∀ w ∈ p.2, Sml w) : Fine (viewD p) 2 1000 := by
  have f2 : Fine (intsD (p.2.map (·.2))) 1 123 := Fine.tup (k := 0) (L := 13) (n := 8) (fun x hx => by
    obtain ⟨n, hn, rfl⟩ := List.mem_map.mp hx
    obtain ⟨w, hw, rfl⟩ := List.mem_map.mp hn
    have := hs w hw
    exact Fine.int (by unfold Sml at this; omega)) (by rw [List.length_map, List.length_map]; exact h2)
  have ff : Fine (viewD p) 2 253 := by
    refine Fine.tup (k := 1) (L := 123) (n := 2) (fun x hx => ?_) (Nat.le_refl 2)
    simp only [List.mem_cons, List.not_mem_nil, or_false] at hx
    rcases hx with rfl | rfl
    · exact (Fine.int (by omega)).mono (by decide) (by decide)
    · exact f2
  exact ff.mono (by decide) (by decide)
end L2

set_option Elab.async false
set_option linter.all false
set_option maxRecDepth 100000
set_option maxHeartbeats 4000000
namespace L2
open PySem PySem.Spec PyProof.Rows H1

/-- rules as data -/
structure Ru where
  o : Int
  w : Int
  t : Int
  c : Int
  cl : List Str
def clD (cl : List Str) : PyData := .tuple (cl.map .str)
def ruD (r : Ru) : PyData := .tuple [.int r.o, .int r.w, .int r.t, .int r.c, clD r.cl]
structure RuOk (r : Ru) : Prop where
  o : 0 ≤ r.o ∧ r.o ≤ 3
  w : 1 ≤ r.w ∧ r.w ≤ 9
  t : 0 ≤ r.t ∧ r.t ≤ 9
  c : 0 ≤ r.c ∧ r.c ≤ 8
  l : r.cl.length ≤ 7
theorem TrL.five {H : Hp} {xs : List V} {d e f g i : PyData} (t : TrL H xs [d, e, f, g, i]) : ∃ x y z u v, xs = [x, y, z, u, v] ∧ Tr H x d ∧ Tr H y e ∧ Tr H z f ∧ Tr H u g ∧ Tr H v i := by
  cases t with
  | cons t1 t => cases t with
    | cons t2 t => cases t with
      | cons t3 t => cases t with
        | cons t4 t => cases t with
          | cons t5 t => cases t; exact ⟨_, _, _, _, _, rfl, t1, t2, t3, t4, t5⟩
theorem Tr.ruI {H : Hp} {v : V} {r : Ru} (t : Tr H v (ruD r)) : ∃ q b, v = .ref q ∧ H q = some (.tup [.int r.o, .int r.w, .int r.t, .int r.c, .ref b]) ∧ H b = some (.tup (r.cl.map V.str)) := by
  obtain ⟨q, xs, rfl, hq, tl⟩ := t.tupI
  obtain ⟨x, y, z, u, v, rfl, t1, t2, t3, t4, t5⟩ := tl.five
  cases t1.intI
  cases t2.intI
  cases t3.intI
  cases t4.intI
  obtain ⟨b, ys, rfl, hb, tb⟩ := t5.tupI
  rw [tb.strs] at hb
  exact ⟨q, b, rfl, hq, hb⟩
def spRules : Sp := fun vs H Q _ => ∃ (b : Addr) (wh : Bool), vs = [.ref b, .bl wh] ∧ Box H b ∧ ∀ q r H', Ext b H H' → Tr H' (.ref q) (ruD r) → RuOk r → (wh = true → r.cl = (["about", "again", "newer", "others", "own", "refute", "wait"] : List Str)) → Q (.ref q) H'
theorem trl_strs' {H : Hp} (ss : List Str) : TrL H (ss.map V.str) (ss.map .str) := trl_strs ss
/-- clocks as data -/
def ClkD (c : Int × Int) : Prop := 1 ≤ c.1 ∧ c.1 ≤ 4 ∧ 0 ≤ c.2 ∧ c.2 < c.1
def spTownD : Sp := fun vs H Q _ => ∃ (b : Addr) (m : Int), vs = [.ref b, .int m] ∧ Box H b ∧ (2 ≤ m ∧ m ≤ 8) ∧ ∀ t ts H', Ext b H H' → Tr H' (.ref t) (bookD ts) → (2 ≤ ts.length ∧ (ts.length : Int) ≤ m) → (∀ c ∈ ts, ClkD c) → Q (.ref t) H'
/-- data of whole numbers and tuples, so many deep -/
def IT : Nat → PyData → Prop
  | _, .int _ => True
  | n + 1, .tuple ds => ds.length ≤ 100 ∧ ∀ d ∈ ds, IT n d
  | _, _ => False
theorem IT.int {n : Nat} {i : Int} : IT n (.int i) := by unfold IT; trivial
theorem IT.tup {n : Nat} {ds : List PyData} (h : ds.length ≤ 100) (hd : ∀ d ∈ ds, IT n d) : IT (n + 1) (.tuple ds) := by unfold IT; exact ⟨h, hd⟩
theorem IT.tupI {n : Nat} {ds : List PyData} (h : IT (n + 1) (.tuple ds)) : ds.length ≤ 100 ∧ ∀ d ∈ ds, IT n d := by unfold IT at h; exact h
def spSame (n : Nat) : Sp := fun vs H Q _ => ∃ (x y : V) (d : PyData), vs = [x, y] ∧ Tr H x d ∧ Tr H y d ∧ IT n d ∧ ∀ H', Same H H' → Q (.bl true) H'
def spS : Nat → Sp
  | 0 => fun _ _ _ _ => False
  | n + 1 => spSame n
end L2

set_option Elab.async false
set_option linter.all false
set_option maxRecDepth 100000
set_option maxHeartbeats 4000000
namespace L2
open PySem PySem.Spec PyProof.Rows H1
def hasC (cl : List Str) (x : Str) : Bool := inV (.str x) (cl.map V.str)
theorem flat_strs (cl : List Str) : (cl.map V.str).all flatV = true := by
  rw [List.all_eq_true]
  intro x hx
  obtain ⟨z, _, rfl⟩ := List.mem_map.mp hx
  rfl
theorem eqv_word (a b : Int × Int) : (wordD a).eqv (wordD b) = decide (a = b) := by
  show ((a.1 == b.1) && ((a.2 == b.2) && true)) = decide (a = b)
  rw [Bool.eq_iff_iff, Bool.and_true, Bool.and_eq_true, beq_iff_eq, beq_iff_eq, decide_eq_true_iff, Prod.ext_iff]
def givesW (cl : List Str) (old word : Int × Int) : Bool := if hasC cl "newer" = true then gtW word old else !decide (word = old)
def refH (cl : List Str) (h : Hs) (y : Nat) (w : Int × Int) : Hs := if h.1 = 1 ∧ hasC cl "refute" = true ∧ gtW w (h.2.1.getD y (0, 0)) = true then (h.1, h.2.1.set y (w.1 + 1, 0), h.2.2.1.set y 0, h.2.2.2) else h
def notH (cl : List Str) (h : Hs) (o : Nat) (w : Int × Int) : Hs := if givesW cl (h.2.1.getD o (0, 0)) w = true then (h.1, h.2.1.set o w, h.2.2.1.set o 0, if w.2 = 1 then h.2.2.2 else h.2.2.2.set o 0) else h
def noteH (cl : List Str) (y : Nat) (h : Hs) (n : Nat × (Int × Int)) : Hs := if n.1 = y then refH cl h y n.2 else notH cl h n.1 n.2
def takenH (cl : List Str) (y : Nat) (h : Hs) (ns : List (Nat × (Int × Int))) : Hs := ns.foldl (noteH cl y) h
/-- so many words and numbers, small ones -/
structure HW (n : Nat) (h : Hs) : Prop where
  up : h.1 = 0 ∨ h.1 = 1
  bl : h.2.1.length = n
  bs : ∀ w ∈ h.2.1, 0 ≤ w.1 ∧ w.1 ≤ 1000010 ∧ 0 ≤ w.2 ∧ w.2 ≤ 3
  tl : h.2.2.1.length = n
  ts : ∀ k ∈ h.2.2.1, 0 ≤ k ∧ k ≤ 9
  ml : h.2.2.2.length = n
  ms : ∀ k ∈ h.2.2.2, 0 ≤ k ∧ k ≤ 9
def NW (n : Nat) (x : Nat × (Int × Int)) : Prop := x.1 < n ∧ 0 ≤ x.2.1 ∧ x.2.1 ≤ 1000009 ∧ 0 ≤ x.2.2 ∧ x.2.2 ≤ 3
theorem mem_set_or {α : Type} {xs : List α} {i : Nat} {x y : α} {P : α → Prop} (h : ∀ z ∈ xs, P z) (hx : P x) : y ∈ xs.set i x → P y := fun hy => by
  rcases List.mem_or_eq_of_mem_set hy with z | z
  · exact h y z
  · rw [z]; exact hx
theorem noteH_ok {cl : List Str} {y n : Nat} {h : Hs} {x : Nat × (Int × Int)} (w : HW n h) (nx : NW n x) : HW n (noteH cl y h x) := by
  unfold noteH
  obtain ⟨h1, h2, h3, h4, h5⟩ := nx
  split
  · unfold refH
    split
    · refine ⟨w.up, by rw [List.length_set]; exact w.bl, fun z hz => ?_, by rw [List.length_set]; exact w.tl, fun z hz => ?_, w.ml, w.ms⟩
      · exact mem_set_or (P := fun w : Int × Int => 0 ≤ w.1 ∧ w.1 ≤ 1000010 ∧ 0 ≤ w.2 ∧ w.2 ≤ 3) w.bs ⟨by show 0 ≤ x.2.1 + 1; omega, by show x.2.1 + 1 ≤ 1000010; omega, by show (0 : Int) ≤ 0; decide, by show (0 : Int) ≤ 3; decide⟩ hz
      · exact mem_set_or (P := fun k : Int => 0 ≤ k ∧ k ≤ 9) w.ts ⟨by decide, by decide⟩ hz
    · exact w
  · unfold notH
    split
    · refine ⟨w.up, by rw [List.length_set]; exact w.bl, fun z hz => ?_, by rw [List.length_set]; exact w.tl, fun z hz => ?_, ?_, ?_⟩
      · exact mem_set_or (P := fun w : Int × Int => 0 ≤ w.1 ∧ w.1 ≤ 1000010 ∧ 0 ≤ w.2 ∧ w.2 ≤ 3) w.bs ⟨h2, by omega, h4, h5⟩ hz
      · exact mem_set_or (P := fun k : Int => 0 ≤ k ∧ k ≤ 9) w.ts ⟨by decide, by decide⟩ hz
      · show (if x.2.2 = 1 then h.2.2.2 else h.2.2.2.set x.1 0).length = n
        split
        · exact w.ml
        · rw [List.length_set]; exact w.ml
      · show ∀ k ∈ (if x.2.2 = 1 then h.2.2.2 else h.2.2.2.set x.1 0), 0 ≤ k ∧ k ≤ 9
        split
        · exact w.ms
        · exact fun z hz => mem_set_or (P := fun k : Int => 0 ≤ k ∧ k ≤ 9) w.ms ⟨by decide, by decide⟩ hz
    · exact w
theorem takenH_ok {cl : List Str} {y n : Nat} : ∀ {ns : List (Nat × (Int × Int))} {h : Hs}, HW n h → (∀ x ∈ ns, NW n x) → HW n (takenH cl y h ns)
  | [], _, w, _ => w
  | x :: r, h, w, hn => by
    show HW n (takenH cl y (noteH cl y h x) r)
    exact takenH_ok (noteH_ok w (hn x (List.mem_cons_self ..))) fun z hz => hn z (List.mem_cons_of_mem _ hz)
theorem takenH_take {cl : List Str} {y i : Nat} {h : Hs} {ns : List (Nat × (Int × Int))} {x : Nat × (Int × Int)} (e : ns[i]? = some x) : takenH cl y h (ns.take (i + 1)) = noteH cl y (takenH cl y h (ns.take i)) x := by
  unfold takenH
  rw [List.take_add_one, e, List.foldl_append]
  rfl
theorem takenH_ups {cl : List Str} {y n : Nat} {ns : List (Nat × (Int × Int))} {h : Hs} : (takenH cl y h ns).1 = h.1 := by
  induction ns generalizing h with
  | nil => rfl
  | cons x r ih =>
    show (takenH cl y (noteH cl y h x) r).1 = h.1
    rw [ih]
    unfold noteH refH notH
    split <;> split <;> rfl
theorem cut_take {xs : List V} {i : Nat} (h : i ≤ xs.length) : cutV xs none (some (i : Int)) = xs.take i := by
  unfold cutV
  rw [HT.sIx_none, HT.sIx_nat, List.drop_zero, Nat.sub_zero, Nat.min_eq_left h]
theorem cut_drop {xs : List V} {i : Nat} (h : i ≤ xs.length) : cutV xs (some (i : Int)) none = xs.drop i := by
  unfold cutV
  rw [HT.sIx_none, HT.sIx_nat, Nat.min_eq_left h]
  exact List.take_of_length_le (by rw [List.length_drop]; exact Nat.le_refl _)
theorem set_parts {xs : List V} {i : Nat} {x : V} (h : i < xs.length) : xs.take i ++ [x] ++ xs.drop (i + 1) = xs.set i x := by
  rw [List.set_eq_take_append_cons_drop, if_pos h, List.append_assoc]
  rfl
def spPut : Sp := fun vs H Q _ => ∃ (a : Addr) (k : Int) (i : Nat) (x : V) (xs : List V), vs = [.ref a, .int k, x] ∧ H a = some (.tup xs) ∧ (k = (i : Int) ∧ i < xs.length ∧ xs.length ≤ 100) ∧ ∀ r H', Same H H' → H' r = some (.tup (xs.set i x)) → Q (.ref r) H'
def spGives : Sp := fun vs H Q _ => ∃ (x y z : V) (r : Ru) (a b : Int × Int), vs = [x, y, z] ∧ Tr H x (ruD r) ∧ Tr H y (wordD a) ∧ Tr H z (wordD b) ∧ (Fine (wordD a) 1 33 ∧ Fine (wordD b) 1 33) ∧ Q (.bl (givesW r.cl a b)) H
def spRef : Sp := fun vs H Q _ => ∃ (x y z : V) (k : Int) (i n : Nat) (r : Ru) (h : Hs) (w : Int × Int), vs = [x, y, .int k, z] ∧ Tr H x (ruD r) ∧ Tr H y (houseD h) ∧ Tr H z (wordD w) ∧ (k = (i : Int) ∧ i < n ∧ n ≤ 8) ∧ HW n h ∧ ∀ q H', Same H H' → Tr H' (.ref q) (houseD (refH r.cl h i w)) → Q (.ref q) H'
def spNot : Sp := fun vs H Q _ => ∃ (x y z : V) (k : Int) (i n : Nat) (r : Ru) (h : Hs) (w : Int × Int), vs = [x, y, .int k, z] ∧ Tr H x (ruD r) ∧ Tr H y (houseD h) ∧ Tr H z (wordD w) ∧ (k = (i : Int) ∧ i < n ∧ n ≤ 8) ∧ (HW n h ∧ Fine (wordD w) 1 33) ∧ ∀ q H', Same H H' → Tr H' (.ref q) (houseD (notH r.cl h i w)) → Q (.ref q) H'
def spTaken : Sp := fun vs H Q _ => ∃ (x y z : V) (k : Int) (i n : Nat) (r : Ru) (h : Hs) (ns : List (Nat × (Int × Int))), vs = [x, y, .int k, z] ∧ Tr H x (ruD r) ∧ Tr H y (houseD h) ∧ Tr H z (notesD ns) ∧ (k = (i : Int) ∧ i < n ∧ n ≤ 8) ∧ (HW n h ∧ ns.length ≤ 100 ∧ ∀ x ∈ ns, NW n x) ∧ ∀ q H', Same H H' → Tr H' (.ref q) (houseD (takenH r.cl i h ns)) → Q (.ref q) H'
theorem wfine {w : Int × Int} (h : 0 ≤ w.1 ∧ w.1 ≤ 1000010 ∧ 0 ≤ w.2 ∧ w.2 ≤ 3) : Fine (wordD w) 1 33 := by
  refine Fine.tup (k := 0) (L := 13) (n := 2) (fun x hx => ?_) (Nat.le_refl 2)
  simp only [List.mem_cons, List.not_mem_nil, or_false] at hx
  rcases hx with rfl | rfl <;> exact Fine.int (by omega)
theorem getD_of {α : Type} {xs : List α} {i : Nat} {x d : α} (h : xs[i]? = some x) : xs.getD i d = x := by rw [List.getD_eq_getElem?_getD, h]; rfl
theorem Tr.ref {H : Hp} {v : V} {ds : List PyData} (t : Tr H v (.tuple ds)) : ∃ a, v = .ref a := by
  obtain ⟨a, _, e, _⟩ := t.tupI
  exact ⟨a, e⟩
theorem TrL.setI {H : Hp} {vs : List V} {ns : List Int} (t : TrL H vs (ns.map .int)) (i : Nat) (k : Int) : TrL H (vs.set i (.int k)) ((ns.set i k).map .int) := by
  rw [List.map_set]
  exact t.set (.int k) i
end L2

set_option Elab.async false
set_option linter.all false
set_option maxRecDepth 100000
set_option maxHeartbeats 4000000
namespace HU
open PySem PyProof.Rows
section
variable {prog : Program} {w : World} {A : Around} {E : Value → Shared → Prop}
/-- so many draws from a list's iterator -/
theorem drawsL {j l : Addr} {its : Array Value} (ne : l ≠ j) : ∀ (m k : Nat) (st : Shared) (R : List Value → Shared → Prop), st.heap.IsListIter j l k → st.heap.IsList l its → k + m ≤ its.size →
    (∀ g, g.IsListIter j l (k + m) → Heap.SameBut j st.heap g → R ((its.toList.drop k).take m) { st with heap := g }) → wpAny (model prog w) A (draw (.ref j) m) R E st
  | 0, k, st, R, hj, _, _, hR => wpAny_pure (by simpa using hR st.heap hj (Heap.SameBut.refl ..))
  | m + 1, k, st, R, hj, hl, hle, hR => by
    have lt : k < its.size := by omega
    show wpAny (model prog w) A (pyNext (.ref j) >>= _) R E st
    refine wpAny_bind (wpAny_pyNext_list_item hj hl (x := its[k]) (by simp [lt]) fun g1 j1 s1 => ?_)
    refine wpAny_bind (wpAny_holding (drawsL ne m (k + 1) _ _ j1 (hl.extBut s1.extBut ne) (by omega) fun g2 j2 s2 => wpAny_pure ?_))
    have cut : its.toList.drop k = its[k] :: its.toList.drop (k + 1) := by simp [List.drop_eq_getElem_cons, lt]
    have r := hR g2 (by rw [show k + (m + 1) = k + 1 + m by omega]; exact j2) (s1.trans s2)
    rw [cut, List.take_succ_cons] at r
    exact r
variable {st : Shared}
/-- a, b, .. = a list -/
theorem itemsL {l : Addr} {its : Array Value} {R : List Value → Shared → Prop} (hn : A.handled = none) (hl : st.heap.IsList l its)
    (hR : ∀ g, Heap.ExtBut st.heap.objs.size st.heap g → R its.toList { st with heap := g }) : wpAny (model prog w) A (unpackItems (.ref l) its.size none) R E st := by
  have ne : l ≠ st.heap.objs.size := by
    obtain ⟨o, e, _⟩ := hl
    exact Nat.ne_of_lt (Heap.lt_size e)
  unfold unpackItems notIterableAtAll
  refine wpAny_bind (wpAny_bind (wpAny_specialOf hl.typeIs PySem.slot_list_iter.lookup (wpAny_pure ?_)))
  simp only [if_false, Bool.false_eq_true]
  refine wpAny_bind (wpAny_holding (wpAny_pyIter_list hl ?_))
  refine wpAny_bind (wpAny_holding (drawsL ne its.size 0 _ _ ⟨_, Heap.get?_push_size _ rfl, rfl, rfl⟩ (hl.push _) (by omega) fun g1 j1 s1 => ?_))
  have whole : List.take its.size (List.drop 0 its.toList) = its.toList := by
    rw [List.drop_zero]
    exact List.take_of_length_le (by simp)
  rw [whole, if_neg (by simp)]
  have hl1 : g1.IsList l its := (hl.push _).extBut s1.extBut ne
  refine wpAny_bind (wpAny_holding (wpAny_pyNext_list_end hn j1 hl1 (by simp) fun g2 e2 => ?_))
  simp only [Option.isSome_none, Bool.false_eq_true, if_false]
  exact wpAny_pure (hR g2 fun b o hb e => e2 b o hb (s1.extBut b o hb (Heap.get?_push_of_some _ e)))
theorem assignL {env : Env} {es : List Expr} {x1} {pos : Pos} {l : Addr} {its : Array Value} {R : Unit → Shared → Prop} (hn : A.handled = none) (hl : st.heap.IsList l its)
    (he : (assignEach es env).length = its.size) (hs : (assignEach es env).findIdx? (·.1) = none)
    (h : ∀ g, Heap.ExtBut st.heap.objs.size st.heap g → wpAny (model prog w) A (assignInOrder ((assignEach es env).map (·.2)) its.toList) R E { st with heap := g }) :
    wpAny (model prog w) A (assign (.Tuple es x1 pos) env (.ref l)) R E st := by
  rw [assign_Tuple]
  refine wpAny_bind (wpAny_standAt ?_)
  unfold unpack
  rw [he, hs]
  exact wpAny_bind (wpAny_holding (itemsL hn hl h))
end
end HU
namespace L2
open PySem PySem.Spec PyProof.Rows H1
section
variable {X : Cx} {pos : Pos}
def gLst (K : PySem.W.Frag) (n : Nat) (t : TGs) : TG := fun v σ H Q => ∃ a xs, v = .ref a ∧ SqL K H a xs ∧ xs.length = n ∧ t xs σ H Q
theorem pg_lst {es : List Expr} {k : Nat} {t : TGs} {n : Nat} (hc : X.calm = true) (h : PGs X es t)
    (hn : (assignEach es X.env).length = n := by rfl) (hst : (assignEach es X.env).findIdx? (·.1) = none := by rfl) : PG X (.Tuple es k pos) (gLst X.K n t) := by
  intro pins s σ H v u Q I r hw
  obtain ⟨a, xs, rfl, hq, hl, hw⟩ := hw
  cases r
  obtain ⟨its, rv, ht, hz⟩ := I.list hq
  refine HU.assignL (I.ok.hd hc) ht.isList (by simp [hn, ← hl, rv.length]) hst fun g hx => ?_
  exact h pins _ σ H xs _ Q (I.kept (t' := s.toks) fun b o e => hx b o (Nat.ne_of_lt (Heap.lt_size e)) e) (by simpa using rv) hw
end
end L2
namespace L2
open PySem PySem.Spec PyProof.Rows H1
theorem gt_of_lt {a b : Int × Int} (h : b.1 < a.1) : gtW a b = true := gtW_iff.mpr (.inl h)
theorem gt_of_eq {a b : Int × Int} (e : a.1 = b.1) (h : b.2 < a.2) : gtW a b = true := gtW_iff.mpr (.inr ⟨e, h⟩)
theorem ngt_of_eq {a b : Int × Int} (e : a.1 = b.1) (h : ¬ b.2 < a.2) : ¬ gtW a b = true := fun z => by
  rcases gtW_iff.mp z with y | y
  · omega
  · exact h y.2
theorem ngt_of {a b : Int × Int} (h : ¬ b.1 < a.1) (e : ¬ a.1 = b.1) : ¬ gtW a b = true := fun z => by
  rcases gtW_iff.mp z with y | y
  · exact h y
  · exact e y.1
theorem gives_of_gt {cl : List Str} {a b : Int × Int} (g : gtW a b = true) : givesW cl b a = true := by
  unfold givesW
  split
  · exact g
  · rw [Bool.not_eq_true', decide_eq_false_iff_not]
    intro e
    rw [e] at g
    rcases gtW_iff.mp g with y | y
    · exact absurd y (Int.lt_irrefl _)
    · exact absurd y.2 (Int.lt_irrefl _)
theorem ixN_nat {n k : Nat} (h : k < n) : ixN n (k : Int) = some k := by
  unfold ixN
  rw [if_pos (by omega), if_pos (by omega)]
  rfl
end L2
namespace L2
open PySem PySem.Spec PyProof.Rows H1
/-- [draw for i in range(n)], whole numbers by their place -/
theorem comp_drawN {b D : Addr} {lo : Int} {n : Nat} {g : TG} {tt : TT} {te : TE} {σ0 : St} {Q : VK} {H0 : Hp} (P : Nat → Int → Prop) (B : Box H0 b) (hD : H0 D = none) (hn : n ≤ 900)
    (step : ∀ i Hc, i < n → Ext b H0 Hc → ∀ (R : VK) (Z : Bool → Hp → Prop), (∀ k H4, Ext b Hc H4 → P i k → R (.int k) H4) → g (.int (lo + i)) σ0 Hc fun σ2 H2 => Wk σ0 σ2 ∧ tt σ2 H2 fun b H3 => if b = true then te σ2 H3 R else Z b H3)
    (hd : ∀ (ns : List Int) Hc, Ext b H0 Hc → Hc D = some (.lst (ns.map V.int)) → ns.length = n → (∀ i k, ns[i]? = some k → P i k) → Q (.ref D) Hc) : LoopC (Itr lo n) g tt te σ0 D Q (upd H0 D (.lst [])) := by
  have hbD : b ≠ D := B.ne0 hD
  refine comp_range (fun i acc Hc => Ext b H0 Hc ∧ Hc D = some (.lst acc) ∧ ∃ ns : List Int, acc = ns.map V.int ∧ ns.length = i ∧ ∀ i k, ns[i]? = some k → P i k) ⟨Ext.new B hD, upd_same, [], rfl, rfl, fun _ _ z => by simp at z⟩ ?_ ?_
  · rintro i acc Hc hi ⟨Ec, hDc, ns, rfl, hnl, hp⟩
    refine step i Hc hi Ec _ (fun _ H3 => _) fun k H4 E4 hk => ?_
    have hD4 := E4.kp _ _ hDc (Ne.symm hbD)
    refine ⟨hD4, small1000 (by rw [List.length_map, hnl]; omega), ⟨fun a o e na => ?_, ?_⟩, upd_same, ns ++ [k], by rw [List.map_append]; rfl, by rw [List.length_append, hnl]; rfl, fun j k' hk' => ?_⟩
    · rw [upd_ne (ne_of_none e hD)]
      exact (Ec.trans E4).kp a o e na
    · obtain ⟨o, hb, r⟩ := E4.bx
      exact ⟨o, by rw [upd_ne hbD]; exact hb, r⟩
    · by_cases hj : j < ns.length
      · rw [List.getElem?_append_left hj] at hk'
        exact hp j k' hk'
      · rw [List.getElem?_append_right (by omega)] at hk'
        have hj0 : j - ns.length = 0 := by
          have := (List.getElem?_eq_some_iff.mp hk').1
          simp at this
          omega
        rw [hj0] at hk'
        cases hk'
        have : j = i := by omega
        rw [this]
        exact hk
  · rintro acc Hc ⟨Ec, hDc, ns, rfl, hnl, hp⟩
    exact hd ns Hc Ec hDc hnl hp
def spHouseB : Sp := fun vs H Q _ => ∃ (b : Addr) (m far : Int) (n : Nat) (x : V) (r : Ru), vs = [.ref b, .int m, x, .int far] ∧ Box H b ∧ (m = (n : Int) ∧ 2 ≤ n ∧ n ≤ 8) ∧ Tr H x (ruD r) ∧ RuOk r ∧ (0 ≤ far ∧ far ≤ 1000000) ∧ ∀ q hq o h H', Ext b H H' → H' q = some (.tup [.int ((o : Nat) : Int), .ref hq]) → Tr H' (.ref hq) (houseD h) → o < n → (HW n h ∧ h.1 = 1 ∧ h.2.2.2.getD o 0 = 0) → Q (.ref q) H'
def spNotesB : Sp := fun vs H Q _ => ∃ (b : Addr) (m far most : Int) (n : Nat), vs = [.ref b, .int m, .int far, .int most] ∧ Box H b ∧ (m = (n : Int) ∧ 2 ≤ n ∧ n ≤ 8) ∧ (0 ≤ far ∧ far ≤ 1000000) ∧ (0 ≤ most ∧ most ≤ 50) ∧ ∀ q ns H', Ext b H H' → Tr H' (.ref q) (notesD ns) → (∀ x ∈ ns, NW n x) → (ns.length : Int) ≤ most → Q (.ref q) H'
end L2
namespace L2
open PySem PySem.Spec PyProof.Rows H1
theorem ints_it {n : Nat} {ns : List Int} (h : ns.length ≤ 100) : IT (n + 1) (intsD ns) := .tup (by rw [List.length_map]; exact h) fun d hd => by
  obtain ⟨k, _, rfl⟩ := List.mem_map.mp hd
  exact .int
theorem word_it {n : Nat} (w : Int × Int) : IT (n + 1) (wordD w) := .tup (show (2 : Nat) ≤ 100 by decide) fun d hd => by
  simp only [List.mem_cons, List.not_mem_nil, or_false] at hd
  rcases hd with rfl | rfl <;> exact .int
theorem book_it {n : Nat} {ws : List (Int × Int)} (h : ws.length ≤ 100) : IT (n + 2) (bookD ws) := .tup (by rw [List.length_map]; exact h) fun d hd => by
  obtain ⟨k, _, rfl⟩ := List.mem_map.mp hd
  exact word_it k
theorem house_it {m n : Nat} {h : Hs} (h8 : m ≤ 8) (w : HW m h) : IT (n + 3) (houseD h) := .tup (show (4 : Nat) ≤ 100 by decide) fun d hd => by
  have h1 := w.bl
  have h2 := w.tl
  have h3 := w.ml
  simp only [List.mem_cons, List.not_mem_nil, or_false] at hd
  rcases hd with rfl | rfl | rfl | rfl
  · exact .int
  · exact book_it (by omega)
  · exact ints_it (by omega)
  · exact ints_it (by omega)
end L2

set_option Elab.async false
set_option linter.all false
set_option maxRecDepth 100000
set_option maxHeartbeats 4000000
namespace L2
open PySem PySem.Spec PyProof.Rows H1
theorem Thn.back {H H' : Hp} (S : Same H H') {n : Nat} {a : Addr} {xs : List V} (t : Thn n H (.ref a)) (h : H' a = some (.tup xs)) : H a = some (.tup xs) := by
  obtain ⟨k, hk⟩ := t.kind
  exact hk.back (keep_same S) h
theorem Thn.at {H : Hp} {n : Nat} {a : Addr} {xs : List V} (t : Thn (n + 1) H (.ref a)) (h : H a = some (.tup xs)) : ∀ y ∈ xs, Thn n H y := (t.2 a xs rfl h).2
/-- a word whose number is at most a million -/
def IsWM (H : Hp) (x : V) : Prop := ∃ (a : Addr) (n m : Int), x = .ref a ∧ H a = some (.tup [.int n, .int m]) ∧ (0 ≤ n ∧ n ≤ 1000000) ∧ 0 ≤ m ∧ m ≤ 3
theorem IsWM.iff {H H' : Hp} (S : Same H H') {n : Nat} {x : V} (t : Thn n H x) : IsWM H' x ↔ IsWM H x := by
  constructor
  · rintro ⟨a, n, m, rfl, h, r⟩
    exact ⟨a, n, m, rfl, t.back S h, r⟩
  · rintro ⟨a, n, m, rfl, h, r⟩
    exact ⟨a, n, m, rfl, S _ _ h, r⟩
def IsBk (H : Hp) (m : Int) (x : V) : Prop := ∃ (a : Addr) (xs : List V), x = .ref a ∧ H a = some (.tup xs) ∧ (xs.length : Int) = m ∧ ∀ y ∈ xs, IsWM H y
theorem IsBk.iff {H H' : Hp} (S : Same H H') {n : Nat} {m : Int} {x : V} (t : Thn (n + 1) H x) : IsBk H' m x ↔ IsBk H m x := by
  constructor
  · rintro ⟨a, xs, rfl, h, l, r⟩
    have h0 := t.back S h
    exact ⟨a, xs, rfl, h0, l, fun y hy => (IsWM.iff S (t.at h0 y hy)).mp (r y hy)⟩
  · rintro ⟨a, xs, rfl, h, l, r⟩
    exact ⟨a, xs, rfl, S _ _ h, l, fun y hy => (IsWM.iff S (t.at h y hy)).mpr (r y hy)⟩
def IsAB (H : Hp) (m hi : Int) (x : V) : Prop := ∃ (a : Addr) (xs : List V), x = .ref a ∧ H a = some (.tup xs) ∧ (xs.length : Int) = m ∧ ∀ y ∈ xs, ∃ k : Int, y = .int k ∧ 0 ≤ k ∧ k ≤ hi
theorem IsAB.iff {H H' : Hp} (S : Same H H') {n : Nat} {m hi : Int} {x : V} (t : Thn n H x) : IsAB H' m hi x ↔ IsAB H m hi x := by
  constructor
  · rintro ⟨a, xs, rfl, h, r⟩
    exact ⟨a, xs, rfl, t.back S h, r⟩
  · rintro ⟨a, xs, rfl, h, r⟩
    exact ⟨a, xs, rfl, S _ _ h, r⟩
def IsTm (H : Hp) (m w at_ up : Int) (x : V) : Prop := ∃ (a : Addr) (ns : List Int), x = .ref a ∧ H a = some (.tup (ns.map V.int)) ∧ (ns.length : Int) = m ∧ (∀ k ∈ ns, 0 ≤ k ∧ k ≤ w) ∧ ns[at_.toNat]? = some 0 ∧ (up = 1 ∨ ∀ k ∈ ns, k = 0)
theorem IsTm.iff {H H' : Hp} (S : Same H H') {n : Nat} {m w at_ up : Int} {x : V} (t : Thn n H x) : IsTm H' m w at_ up x ↔ IsTm H m w at_ up x := by
  constructor
  · rintro ⟨a, xs, rfl, h, r⟩
    exact ⟨a, xs, rfl, t.back S h, r⟩
  · rintro ⟨a, xs, rfl, h, r⟩
    exact ⟨a, xs, rfl, S _ _ h, r⟩
def IsHo (H : Hp) (r : Ru) (m at_ : Int) (x : V) : Prop := ∃ (a : Addr) (up : Int) (b t tm : V), x = .ref a ∧ H a = some (.tup [.int up, b, t, tm]) ∧ (0 ≤ up ∧ up ≤ 1) ∧ IsBk H m b ∧ IsAB H m r.t t ∧ IsTm H m r.w at_ up tm
theorem IsHo.iff {H H' : Hp} (S : Same H H') {n : Nat} {r : Ru} {m at_ : Int} {x : V} (t : Thn (n + 2) H x) : IsHo H' r m at_ x ↔ IsHo H r m at_ x := by
  constructor
  · rintro ⟨a, up, b, c, tm, rfl, h, u, h1, h2, h3⟩
    have h0 := t.back S h
    have tt := t.at h0
    exact ⟨a, up, b, c, tm, rfl, h0, u, (IsBk.iff S (tt b (by simp))).mp h1, (IsAB.iff S (tt c (by simp))).mp h2, (IsTm.iff S (tt tm (by simp))).mp h3⟩
  · rintro ⟨a, up, b, c, tm, rfl, h, u, h1, h2, h3⟩
    have tt := t.at h
    exact ⟨a, up, b, c, tm, rfl, S _ _ h, u, (IsBk.iff S (tt b (by simp))).mpr h1, (IsAB.iff S (tt c (by simp))).mpr h2, (IsTm.iff S (tt tm (by simp))).mpr h3⟩
def IsSt (H : Hp) (r : Ru) (n : Nat) (x : V) : Prop := ∃ (a : Addr) (k : Int) (hq : Addr) (xs : List V), x = .ref a ∧ H a = some (.tup [.int k, .ref hq]) ∧ 0 ≤ k ∧ H hq = some (.tup xs) ∧ xs.length = n ∧ ∀ (i : Nat) y, xs[i]? = some y → IsHo H r (n : Int) (i : Int) y
theorem IsSt.iff {H H' : Hp} (S : Same H H') {r : Ru} {n m : Nat} {x : V} (t : Thn (m + 4) H x) : IsSt H' r n x ↔ IsSt H r n x := by
  constructor
  · rintro ⟨a, k, hq, xs, rfl, h, k0, hh, hl, r⟩
    have h0 := t.back S h
    have th := t.at h0 (.ref hq) (by simp)
    have hh0 := th.back S hh
    exact ⟨a, k, hq, xs, rfl, h0, k0, hh0, hl, fun i y hy => (IsHo.iff S (th.at hh0 y (List.mem_of_getElem? hy))).mp (r i y hy)⟩
  · rintro ⟨a, k, hq, xs, rfl, h, k0, hh, hl, r⟩
    have th := t.at h (.ref hq) (by simp)
    exact ⟨a, k, hq, xs, rfl, S _ _ h, k0, S _ _ hh, hl, fun i y hy => (IsHo.iff S (th.at hh y (List.mem_of_getElem? hy))).mpr (r i y hy)⟩
def spBk : Sp := fun vs H Q _ => ∃ (x : V) (m : Int), vs = [x, .int m] ∧ Thn 2 H x ∧ ∀ b H', Same H H' → (b = true ↔ IsBk H m x) → Q (.bl b) H'
def spAB : Sp := fun vs H Q _ => ∃ (x : V) (m hi : Int), vs = [x, .int m, .int hi] ∧ Thn 1 H x ∧ ∀ b H', Same H H' → (b = true ↔ IsAB H m hi x) → Q (.bl b) H'
def spTm : Sp := fun vs H Q _ => ∃ (x y : V) (m at_ up : Int) (r : Ru), vs = [x, .int m, .int at_, .int up, y] ∧ Tr H x (ruD r) ∧ (0 ≤ at_ ∧ at_ < m) ∧ Thn 1 H y ∧ ∀ b H', Same H H' → (b = true ↔ IsTm H m r.w at_ up y) → Q (.bl b) H'
def spHo : Sp := fun vs H Q _ => ∃ (x y : V) (m at_ : Int) (r : Ru), vs = [x, .int m, .int at_, y] ∧ Tr H x (ruD r) ∧ (0 ≤ at_ ∧ at_ < m) ∧ Thn 3 H y ∧ ∀ b H', Same H H' → (b = true ↔ IsHo H r m at_ y) → Q (.bl b) H'
def spSt : Sp := fun vs H Q _ => ∃ (x t y : V) (r : Ru) (ts : List (Int × Int)), vs = [x, t, y] ∧ Tr H x (ruD r) ∧ Tr H t (bookD ts) ∧ Thn 5 H y ∧ ∀ b H', Same H H' → (b = true ↔ IsSt H r ts.length y) → Q (.bl b) H'
/-- all([f(i, x) for i, x in enumerate(t)]) -/
theorem comp_allE {K : PySem.W.Frag} {a D : Addr} {xs : List V} {g : TG} {tt : TT} {te : TE} {σ0 : St} {Q : VK} {H0 : Hp} (P : Nat → V → Prop) (hD : H0 D = none) (ha : H0 a = some (.tup xs)) (hx : xs.length ≤ 900)
    (step : ∀ (i : Nat) x, xs[i]? = some x → ∀ Hc p, Same H0 Hc → Hc p = some (.tup [.int i, x]) → ∀ (R : VK) (Z : Bool → Hp → Prop), (∀ bb H4, Same Hc H4 → (bb = true ↔ P i x) → R (.bl bb) H4) → g (.ref p) σ0 Hc fun σ2 H2 => Wk σ0 σ2 ∧ tt σ2 H2 fun b H3 => if b = true then te σ2 H3 R else Z b H3)
    (hd : ∀ (bs : List Bool) Hc, Same H0 Hc → Hc D = some (.lst (bs.map V.bl)) → (bs.all id = true ↔ ∀ (i : Nat) y, xs[i]? = some y → P i y) → Q (.ref D) Hc) : LoopC (Ite K a) g tt te σ0 D Q (upd H0 D (.lst [])) := by
  refine comp_enum (K := K) (a := a) (xs := xs) (fun i acc Hc => Same H0 Hc ∧ Hc D = some (.lst acc) ∧ ∃ bs : List Bool, acc = bs.map V.bl ∧ bs.length = i ∧ (bs.all id = true ↔ ∀ (j : Nat) y, j < i → xs[j]? = some y → P j y)) ⟨H1.Same.upd hD, upd_same, [], rfl, rfl, by simp⟩ (fun _ _ _ _ ⟨sc, _⟩ => SqT.of (sc _ _ ha)) ?_ ?_
  · rintro i x acc Hc p hv ⟨Sc, hDc, bs, rfl, hbl, hb⟩ hp
    have hi : i < xs.length := (List.getElem?_eq_some_iff.mp hv).1
    have Sp := H1.Same.upd (o := .tup [.int (i : Int), x]) hp
    have Pp : upd Hc p (.tup [.int (i : Int), x]) p = some (.tup [.int (i : Int), x]) := upd_same
    generalize upd Hc p (.tup [.int (i : Int), x]) = Hd at *
    refine step i x hv Hd p (L2.Same.trans Sc Sp) Pp _ (fun _ H3 => _) fun bb H4 S4 hbb => ?_
    have hD4 := S4 _ _ (Sp _ _ hDc)
    refine ⟨hD4, small1000 (by rw [List.length_map, hbl]; omega), fun a' o e => by rw [upd_ne (ne_of_none e hD)]; exact S4 _ _ (Sp _ _ (Sc a' o e)), upd_same, bs ++ [bb], by rw [List.map_append]; rfl, by rw [List.length_append, hbl]; rfl, ?_⟩
    rw [List.all_append, Bool.and_eq_true, hb]
    constructor
    · rintro ⟨z1, z2⟩ j y hj hy
      by_cases c : j < i
      · exact z1 j y c hy
      · have e : j = i := by omega
        subst e
        rw [hv] at hy
        cases hy
        exact hbb.mp (by simpa using z2)
    · intro z
      refine ⟨fun j y hj hy => z j y (by omega) hy, ?_⟩
      have := hbb.mpr (z i x (by omega) hv)
      simpa using this
  · rintro acc Hc ⟨Sc, hDc, bs, rfl, hbl, hb⟩
    refine hd bs Hc Sc hDc (hb.trans ⟨fun z i y hy => z i y (List.getElem?_eq_some_iff.mp hy).1 hy, fun z i y _ hy => z i y hy⟩)
section
variable {X : Cx} {K : PySem.W.Frag}
theorem call_len_seqK (hK : X.K = K) : CallR X (.builtin "len") (fun xs H Q => ∃ p ys, xs = [.ref p] ∧ (SqL K H p ys ∨ SqT K H p ys) ∧ Q (.int ys.length) H) := hK ▸ call_len_seq
/-- any(t), t a tuple of whole numbers -/
theorem call_anyI (hc : X.calm = true) : CallR X (.builtin "any") (fun xs H Q => ∃ (p : Addr) (ns : List Int), xs = [.ref p] ∧ H p = some (.tup (ns.map V.int)) ∧ Q (.bl (ns.any fun k => k != 0)) H) := by
  intro pins s σ H xs us Q I r h
  obtain ⟨p, ns, rfl, hq, q⟩ := h
  obtain ⟨u, rfl, ru⟩ := vals1 r
  cases ru
  obtain ⟨its, rv, pl, hz⟩ := I.tuple (SqT.of hq)
  have hlen := rv.length
  rw [List.length_map] at hlen
  have hpl : p < s.heap.objs.size := by
    obtain ⟨o, e, _⟩ := pl
    exact Heap.lt_size e
  refine call_any_walk (iter_tuple pl ⟨s.heap.objs.size, _, _, _, _, _, fun i => ns.getD i 0 != 0, rfl, Walks.tuple (A := X.A.in1) (show X.A.in1.handled = none from I.ok.hd hc) s.heap.objs.size p (Nat.ne_of_lt hpl) its.toArray, ?_, ?_, fun h' tk k => ?_⟩)
  · exact ⟨⟨_, Heap.get?_push_size _ rfl, rfl, rfl⟩, pl.push _⟩
  · intro i v s' Q' E' hv hQ
    have hv' : its[i]? = some v := by simpa using hv
    have hi : i < ns.length := by rw [hlen]; exact (List.getElem?_eq_some_iff.mp hv').1
    obtain ⟨u, hu, ru⟩ := rv.get (i := i) (x := V.int ns[i]) (by simp [hi])
    rw [hv'] at hu
    cases hu
    obtain ⟨t, rfl⟩ := ru
    have e : ns.getD i 0 = ns[i] := by simp [List.getD, hi]
    dsimp only at hQ
    rw [e] at hQ
    exact PySem.P.truthy_int hQ
  · have e : ((List.range its.toArray.size).any fun i => ns.getD i 0 != 0) = ns.any fun k => k != 0 := by
      rw [Bool.eq_iff_iff, List.any_eq_true, List.any_eq_true]
      constructor
      · rintro ⟨i, hi, z⟩
        have hi' : i < ns.length := by simpa [← hlen] using hi
        exact ⟨ns[i], List.getElem_mem hi', by simpa [List.getD, hi'] using z⟩
      · rintro ⟨b, hb, z⟩
        obtain ⟨i, hi, rfl⟩ := List.mem_iff_getElem.mp hb
        exact ⟨i, by simp [← hlen, hi], by simpa [List.getD, hi] using z⟩
    rw [e]
    exact ⟨.bl _, H, I.kept fun b o q => k b o (by simp; exact Nat.ne_of_lt (Heap.lt_size q)) (Heap.get?_push_of_some _ q), rfl, q⟩
end
end L2
namespace L2
open PySem PySem.Spec PyProof.Rows H1
theorem tup4 {xs : List V} (hl : (xs.length : Int) = 4) : ∃ x0 x1 x2 x3, xs = [x0, x1, x2, x3] := by
  match xs, hl with
  | [x0, x1, x2, x3], _ => exact ⟨x0, x1, x2, x3, rfl⟩
  | [], h => exact absurd h (by decide)
  | [_], h => exact absurd (show ((1 : Nat) : Int) = 4 from h) (by decide)
  | [_, _], h => exact absurd (show ((2 : Nat) : Int) = 4 from h) (by decide)
  | [_, _, _], h => exact absurd (show ((3 : Nat) : Int) = 4 from h) (by decide)
  | _ :: _ :: _ :: _ :: _ :: r, h => simp only [List.length_cons] at h; omega
theorem ints_of {hi : Int} : ∀ {xs : List V}, (∀ y ∈ xs, ∃ k : Int, y = .int k ∧ 0 ≤ k ∧ k ≤ hi) → ∃ ns : List Int, xs = ns.map V.int ∧ ∀ k ∈ ns, 0 ≤ k ∧ k ≤ hi
  | [], _ => ⟨[], rfl, fun _ z => nomatch z⟩
  | x :: r, h => by
    obtain ⟨k, rfl, hk⟩ := h x (List.mem_cons_self ..)
    obtain ⟨ns, rfl, hn⟩ := ints_of fun y hy => h y (List.mem_cons_of_mem _ hy)
    refine ⟨k :: ns, rfl, fun z hz => ?_⟩
    rcases List.mem_cons.mp hz with rfl | hz
    · exact hk
    · exact hn z hz
end L2
namespace L2
open PySem PySem.Spec PyProof.Rows H1
mutual
theorem tr_thn {H : Hp} : ∀ {n : Nat} {v : V} {d : PyData}, Tr H v d → IT n d → Thn n H v
  | n, _, _, .int i, _ => .int i
  | 0, _, _, .tup h hl, it => False.elim it
  | n + 1, _, _, .tup h hl, it => .tup h (by rw [hl.length]; exact Nat.le_trans it.tupI.1 (by decide)) (trl_thn hl it.tupI.2)
  | 0, _, _, .non, it => False.elim it
  | _ + 1, _, _, .non, it => False.elim it
  | 0, _, _, .bl _, it => False.elim it
  | _ + 1, _, _, .bl _, it => False.elim it
  | 0, _, _, .str _, it => False.elim it
  | _ + 1, _, _, .str _, it => False.elim it
theorem trl_thn {H : Hp} : ∀ {n : Nat} {vs : List V} {ds : List PyData}, TrL H vs ds → (∀ d ∈ ds, IT n d) → ∀ y ∈ vs, Thn n H y
  | _, _, _, .nil, _ => fun _ z => nomatch z
  | n, _, _, .cons t r, h => all_cons (tr_thn t (h _ (List.mem_cons_self ..))) (trl_thn r fun d hd => h d (List.mem_cons_of_mem _ hd))
end
/-- a house that is one by these rules -/
structure HV (r : Ru) (n i : Nat) (h : Hs) : Prop where
  up : 0 ≤ h.1 ∧ h.1 ≤ 1
  bl : h.2.1.length = n
  bs : ∀ w ∈ h.2.1, (0 ≤ w.1 ∧ w.1 ≤ 1000000) ∧ 0 ≤ w.2 ∧ w.2 ≤ 3
  tl : h.2.2.1.length = n
  ts : ∀ k ∈ h.2.2.1, 0 ≤ k ∧ k ≤ r.t
  ml : h.2.2.2.length = n
  ms : ∀ k ∈ h.2.2.2, 0 ≤ k ∧ k ≤ r.w
  m0 : h.2.2.2[i]? = some 0
  mu : h.1 = 1 ∨ ∀ k ∈ h.2.2.2, k = 0
theorem HV.is {H : Hp} {r : Ru} {n i : Nat} {h : Hs} {v : V} (w : HV r n i h) (t : Tr H v (houseD h)) : IsHo H r (n : Int) (i : Int) v := by
  obtain ⟨q, b, c, d, rfl, hq, tb, tc, td⟩ := t.houseI
  obtain ⟨_, xs, e, hb, tbl⟩ := tb.tupI
  cases e
  obtain ⟨_, us, e, hc, tcl⟩ := tc.tupI
  cases e
  obtain ⟨_, ms, e, hd, tdl⟩ := td.tupI
  cases e
  have e1 := tcl.ints
  have e2 := tdl.ints
  subst e1 e2
  refine ⟨q, h.1, _, _, _, rfl, hq, w.up, ⟨b, xs, rfl, hb, by rw [tbl.lenM, w.bl], fun y hy => ?_⟩, ⟨c, _, rfl, hc, by rw [List.length_map, w.tl], fun y hy => ?_⟩, ⟨d, _, rfl, hd, by rw [w.ml], w.ms, by rw [Int.toNat_natCast]; exact w.m0, w.mu⟩⟩
  · obtain ⟨j, hj, rfl⟩ := List.getElem_of_mem hy
    obtain ⟨x, hx, tv⟩ := tbl.getM (List.getElem?_eq_getElem hj)
    obtain ⟨q', e, hq'⟩ := tv.wordI
    exact ⟨q', x.1, x.2, e, hq', w.bs x (List.mem_of_getElem? hx)⟩
  · obtain ⟨k, hk, rfl⟩ := List.mem_map.mp hy
    exact ⟨k, rfl, w.ts k hk⟩
theorem isSt_of {H : Hp} {r : Ru} {t : Int} {hs : List Hs} {v : V} (tv : Tr H v (stateD t hs)) (h0 : 0 ≤ t) (hv : ∀ i h, hs[i]? = some h → HV r hs.length i h) : IsSt H r hs.length v := by
  obtain ⟨q, a, xs, rfl, hq, ha, tl⟩ := tv.stateI
  refine ⟨q, t, a, xs, rfl, hq, h0, ha, tl.lenM, fun i y hy => ?_⟩
  obtain ⟨h, hh, th⟩ := tl.getM hy
  exact (hv i h hh).is th
def begunH (t : Int) (n : Nat) : Hs := (1, List.replicate n (0, 0), List.replicate n t, List.replicate n 0)
def spBegun : Sp := fun vs H Q _ => ∃ (x t : V) (r : Ru) (ts : List (Int × Int)), vs = [x, t] ∧ Tr H x (ruD r) ∧ Tr H t (bookD ts) ∧ (2 ≤ ts.length ∧ ts.length ≤ 8) ∧ ∀ q H', Same H H' → Tr H' (.ref q) (stateD 0 (List.replicate ts.length (begunH r.t ts.length))) → Q (.ref q) H'
theorem trl_repl {H : Hp} {v : V} {d : PyData} (t : Tr H v d) : ∀ n : Nat, TrL H (List.replicate n v) (List.replicate n d)
  | 0 => .nil
  | n + 1 => .cons t (trl_repl t n)
theorem begunH_ok {r : Ru} {n i : Nat} (ro : RuOk r) (hi : i < n) : HV r n i (begunH r.t n) := by
  have := ro.t
  have := ro.w
  refine ⟨⟨by show (0 : Int) ≤ 1; decide, by show (1 : Int) ≤ 1; decide⟩, List.length_replicate, fun w hw => ?_, List.length_replicate, fun k hk => ?_, List.length_replicate, fun k hk => ?_, ?_, .inl rfl⟩
  · rw [List.eq_of_mem_replicate hw]
    exact ⟨⟨by decide, by decide⟩, by decide, by decide⟩
  · rw [List.eq_of_mem_replicate hk]
    omega
  · rw [List.eq_of_mem_replicate hk]
    omega
  · show (List.replicate n (0 : Int))[i]? = some 0
    rw [List.getElem?_replicate, if_pos hi]
theorem state_it {n : Nat} {t : Int} {hs : List Hs} (h8 : hs.length ≤ 100) (h : ∀ x ∈ hs, x.2.1.length ≤ 100 ∧ x.2.2.1.length ≤ 100 ∧ x.2.2.2.length ≤ 100) : IT (n + 5) (stateD t hs) := .tup (show (2 : Nat) ≤ 100 by decide) fun d hd => by
  simp only [List.mem_cons, List.not_mem_nil, or_false] at hd
  rcases hd with rfl | rfl
  · exact .int
  · refine .tup (by rw [List.length_map]; exact h8) fun d hd => ?_
    obtain ⟨x, hx, rfl⟩ := List.mem_map.mp hd
    obtain ⟨h1, h2, h3⟩ := h x hx
    refine .tup (show (4 : Nat) ≤ 100 by decide) fun d hd => ?_
    simp only [List.mem_cons, List.not_mem_nil, or_false] at hd
    rcases hd with rfl | rfl | rfl | rfl
    · exact .int
    · exact book_it h1
    · exact ints_it h2
    · exact ints_it h3
end L2
namespace L2
open PySem PySem.Spec PyProof.Rows H1
def spStateB : Sp := fun vs H Q _ => ∃ (b : Addr) (x t : V) (r : Ru) (ts : List (Int × Int)), vs = [.ref b, x, t] ∧ Box H b ∧ Tr H x (ruD r) ∧ RuOk r ∧ Tr H t (bookD ts) ∧ (2 ≤ ts.length ∧ ts.length ≤ 8) ∧ ∀ q tn hs H', Ext b H H' → Tr H' (.ref q) (stateD tn hs) → hs.length = ts.length → (0 ≤ tn ∧ tn ≤ 100000) → (∀ i h, hs[i]? = some h → HV r ts.length i h) → Q (.ref q) H'
theorem snocV {r : Ru} {n : Nat} {hs : List Hs} {h : Hs} (hv : ∀ i h, hs[i]? = some h → HV r n i h) (hn : HV r n hs.length h) : ∀ i x, (hs ++ [h])[i]? = some x → HV r n i x := fun i x e => by
  by_cases hj : i < hs.length
  · rw [List.getElem?_append_left hj] at e
    exact hv i x e
  · rw [List.getElem?_append_right (by omega)] at e
    have hj0 : i - hs.length = 0 := by
      have := (List.getElem?_eq_some_iff.mp e).1
      simp at this
      omega
    rw [hj0] at e
    cases e
    have : i = hs.length := by omega
    rw [this]
    exact hn
/-- the law's own reading of timers -/
theorem tm_iff {H : Hp} {m w at_ up : Int} {a : Addr} {xs : List V} (ha : H a = some (.tup xs)) (hl : (xs.length : Int) = m) (a0 : 0 ≤ at_) (a1 : at_ < m) (hu : 0 ≤ up ∧ up ≤ 1) (hw : 0 ≤ w) :
    (∀ (i : Nat) y, xs[i]? = some y → ∃ k : Int, y = .int k ∧ 0 ≤ k ∧ k ≤ w * up * (if (i : Int) = at_ then 0 else 1)) ↔ IsTm H m w at_ up (.ref a) := by
  have hup : up = 0 ∨ up = 1 := by omega
  constructor
  · intro z
    have hx : ∀ y ∈ xs, ∃ k : Int, y = .int k ∧ 0 ≤ k ∧ k ≤ w := fun y hy => by
      obtain ⟨i, hi⟩ := List.mem_iff_getElem?.mp hy
      obtain ⟨k, e, k0, k1⟩ := z i y hi
      refine ⟨k, e, k0, ?_⟩
      rcases hup with rfl | rfl <;> split at k1 <;> simp at k1 <;> omega
    obtain ⟨ns, rfl, hns⟩ := ints_of hx
    rw [List.length_map] at hl
    have hlt : at_.toNat < ns.length := by omega
    refine ⟨a, ns, rfl, ha, hl, hns, ?_, ?_⟩
    · obtain ⟨k, e, k0, k1⟩ := z at_.toNat (.int ns[at_.toNat]) (by rw [List.getElem?_map, List.getElem?_eq_getElem hlt]; rfl)
      rw [if_pos (by omega), Int.mul_zero] at k1
      cases e
      rw [List.getElem?_eq_getElem hlt]
      congr 1
      omega
    · rcases hup with rfl | rfl
      · right
        intro k hk
        obtain ⟨i, hi⟩ := List.mem_iff_getElem?.mp hk
        obtain ⟨k', e, k0, k1⟩ := z i (.int k) (by rw [List.getElem?_map, hi]; rfl)
        cases e
        rw [Int.mul_zero, Int.zero_mul] at k1
        omega
      · left
        rfl
  · rintro ⟨a', ns, e, h', l, hns, h0, hz⟩ i y hy
    cases e
    rw [ha] at h'
    cases h'
    rw [List.getElem?_map] at hy
    cases hi : ns[i]? with
    | none => rw [hi] at hy; cases hy
    | some k =>
      rw [hi] at hy
      cases hy
      have hk := hns k (List.mem_of_getElem? hi)
      refine ⟨k, rfl, hk.1, ?_⟩
      by_cases c : (i : Int) = at_
      · have : i = at_.toNat := by omega
        rw [this, h0] at hi
        cases hi
        rw [if_pos c, Int.mul_zero]
        exact Int.le_refl _
      · rw [if_neg c, Int.mul_one]
        rcases hup with rfl | rfl
        · rcases hz with hz | hz
          · cases hz
          · rw [hz k (List.mem_of_getElem? hi), Int.mul_zero]
            exact Int.le_refl _
        · rw [Int.mul_one]
          exact hk.2
def spStL : Sp := fun vs H Q _ => ∃ (x t y : V) (r : Ru) (ts : List (Int × Int)), vs = [x, t, y] ∧ Tr H x (ruD r) ∧ RuOk r ∧ Tr H t (bookD ts) ∧ Thn 5 H y ∧ (∀ a k xs, y = .ref a → H a = some (.tup (.int k :: xs)) → k ≤ 1000000000) ∧ ∀ b H', Same H H' → (b = true ↔ IsSt H r ts.length y) → Q (.bl b) H'
def spHoL : Sp := fun vs H Q _ => ∃ (x y : V) (m at_ : Int) (r : Ru), vs = [x, .int m, .int at_, y] ∧ Tr H x (ruD r) ∧ RuOk r ∧ (0 ≤ at_ ∧ at_ < m) ∧ Thn 3 H y ∧ ∀ b H', Same H H' → (b = true ↔ IsHo H r m at_ y) → Q (.bl b) H'
def spTold : Sp := fun vs H Q _ => ∃ (x t y : V) (r : Ru) (ts : List (Int × Int)), vs = [x, t, y] ∧ Tr H x (ruD r) ∧ RuOk r ∧ Tr H t (bookD ts) ∧ Thn 5 H y ∧ (∀ a k xs, y = .ref a → H a = some (.tup (.int k :: xs)) → k ≤ 1000000000) ∧ ∀ H', Same H H' → Q (.bl true) H'
end L2
namespace L2
open PySem PySem.Spec PyProof.Rows H1
theorem all_set {P : V → Prop} {xs : List V} {i : Nat} {x : V} (h : ∀ y ∈ xs, P y) (hx : P x) : ∀ y ∈ xs.set i x, P y := fun y hy => mem_set_or h hx hy
mutual
/-- data of whole numbers and tuples is a thing of any depth -/
theorem tr_any {H : Hp} : ∀ {m n : Nat} {v : V} {d : PyData}, Tr H v d → IT m d → Thn n H v
  | _, n, _, _, .int i, _ => .int i
  | 0, _, _, _, .tup h hl, it => False.elim it
  | m + 1, 0, _, _, .tup h hl, it => ⟨_, .tup h⟩
  | m + 1, n + 1, _, _, .tup h hl, it => .tup h (by rw [hl.length]; exact Nat.le_trans it.tupI.1 (by decide)) (trl_any hl it.tupI.2)
  | 0, _, _, _, .non, it => False.elim it
  | _ + 1, _, _, _, .non, it => False.elim it
  | 0, _, _, _, .bl _, it => False.elim it
  | _ + 1, _, _, _, .bl _, it => False.elim it
  | 0, _, _, _, .str _, it => False.elim it
  | _ + 1, _, _, _, .str _, it => False.elim it
theorem trl_any {H : Hp} : ∀ {m n : Nat} {vs : List V} {ds : List PyData}, TrL H vs ds → (∀ d ∈ ds, IT m d) → ∀ y ∈ vs, Thn n H y
  | _, _, _, _, .nil, _ => fun _ z => nomatch z
  | m, n, _, _, .cons t r, h => all_cons (tr_any t (h _ (List.mem_cons_self ..))) (trl_any r fun d hd => h d (List.mem_cons_of_mem _ hd))
end
def spOth : Sp := fun vs H Q _ => ∃ (b : Addr) (x y : V) (r : Ru) (tn : Int) (hs : List Hs), vs = [.ref b, x, y] ∧ Box H b ∧ Tr H x (ruD r) ∧ Tr H y (stateD tn hs) ∧ (2 ≤ hs.length ∧ hs.length ≤ 8) ∧ (∀ h ∈ hs, h.2.1.length = hs.length ∧ h.2.2.1.length = hs.length ∧ h.2.2.2.length = hs.length) ∧ (0 ≤ tn ∧ tn ≤ 100000) ∧ ∀ z H', Ext b H H' → Thn 5 H' z → (∀ a k xs, z = .ref a → H' a = some (.tup (.int k :: xs)) → k ≤ 1000000000) → Q z H'
end L2
namespace L2
open PySem PySem.Spec PyProof.Rows H1
theorem atI_ofI {xs : List V} {d : Int} {v : V} (e : d = ((d.toNat : Nat) : Int)) (h : xs[d.toNat]? = some v) : atI xs d = some v := by
  rw [e]
  exact atI_nat h
end L2
namespace L2
open PySem PySem.Spec PyProof.Rows H1
/-- slots read through what was stored since -/
theorem rd_ne {σ : St} {i j : Nat} {u : Option V} {r : Option (Option V)} (h : j ≠ i) (e : σ[i]? = r) : (σ.set j u)[i]? = r := by rw [List.getElem?_set_ne h]; exact e
theorem rd_same {σ : St} {i : Nat} {v : Option V} (h : i < σ.length) : (σ.set i v)[i]? = some v := by rw [List.getElem?_set_self h]
theorem rd_len {σ : St} {i j : Nat} {v : Option V} (h : i < σ.length) : i < (σ.set j v).length := by rw [List.length_set]; exact h
theorem rd_start {N : List Str} {vs : List V} {i : Nat} {v : V} (h : vs[i]? = some v) : (start N vs)[i]? = some (some v) := by
  have hi := (List.getElem?_eq_some_iff.mp h).1
  unfold start
  rw [List.getElem?_append_left (by rw [List.length_map]; exact hi), List.getElem?_map, h]
  rfl
end L2

set_option Elab.async false
set_option linter.all false
set_option maxRecDepth 100000
set_option maxHeartbeats 4000000
namespace HT
open PySem PyProof.Rows
/-- one >= other, of tuples of ints -/
def lexGe : List Int → List Int → Bool
  | [], [] => true
  | [], _ :: _ => false
  | _ :: _, [] => true
  | x :: xs, y :: ys => if x = y then lexGe xs ys else decide (y ≤ x)
theorem lexGe_cons (x y : Int) (xs ys : List Int) : lexGe (x :: xs) (y :: ys) = if x = y then lexGe xs ys else decide (y ≤ x) := rfl
theorem lexGe_nil_nil : lexGe [] [] = true := rfl
theorem lexGe_nil_cons (y : Int) (ys : List Int) : lexGe [] (y :: ys) = false := rfl
theorem lexGe_cons_nil (x : Int) (xs : List Int) : lexGe (x :: xs) [] = true := rfl
theorem rcGe_int (A : Around) (s : Shared) (a : Int) (t : Tok) (c : Int) (u : Tok) (prog : Program) (w : World) (E : Value → Shared → Prop) (Q : Value → Shared → Prop) (h : Q (.bool (decide (c ≤ a))) s) :
    wpAny (model prog w) A (richCompare .GtE (.int a t) (.int c u)) Q E s :=
  (PyProof.Rows.ge_int h : wpAny (model prog w) A (compareOp .GtE (.int a t) (.int c u)) Q E s)
section
open PySem.SeqAt
open PySem.AutoSeq1 (wpAny_loadPart')
open PySem.MeetsSeq PySem.MeetsSeq2 PySem.MeetsSeq3
theorem tuple_ge_ints (l b : Addr) (items items2 : Array Value) (n n2 : Nat) (dd dd2 : Option Addr) (sl sl2 : Array (Option Value)) (ns ms : List Int) (hi : IntsAre items.toList ns) (hj : IntsAre items2.toList ms) :
    Meets (Builtin.«tuple.__ge__» ⟨[.ref l, .ref b], []⟩)
      (fun _ R s => s.heap.get? l = some { cls := .type "tuple", dict := dd, data := .seq items n, slots := sl } ∧ s.heap.get? b = some { cls := .type "tuple", dict := dd2, data := .seq items2 n2, slots := sl2 } ∧
        R (.ok (.ret (.bool (lexGe ns ms)))) s) :=
  .of_wp fun prog w A R s h => by
    obtain ⟨hp, g, d, tk, os⟩ := s; obtain ⟨hl, hb, h⟩ := h
    have f2 := AutoSeq1.sub_tuple_tuple
    have z1 : items.size = ns.length := by rw [← hi.length]; simp
    have z2 : items2.size = ms.length := by rw [← hj.length]; simp
    wp_walk using wpAny_loadPart' hl, wpAny_loadPart' hb, wpAny_forIn_list _ (fun rest b s' => b.1 = none ∧ s' = ⟨hp, g, d, tk, os⟩ ∧ ∃ (vs ws : List Value) (ns' ms' : List Int), rest = vs.zip ws ∧
      IntsAre vs ns' ∧ IntsAre ws ms' ∧ ns'.length + items2.size = ms'.length + items.size ∧ R (.ok (.ret (.bool (lexGe ns' ms')))) ⟨hp, g, d, tk, os⟩) _
    case turn =>
      rintro ⟨y, x⟩ rest b s' ⟨hb', rfl, vs, ws, ns', ms', hz, hvi, hwi, hlen, hR⟩
      cases hvi with
      | nil => rw [List.zip_nil_left] at hz; cases hz
      | cons a t hvi' =>
        cases hwi with
        | nil => rw [List.zip_nil_right] at hz; cases hz
        | cons c u hwi' =>
          rw [List.zip_cons_cons] at hz
          injection hz with hyx hrest
          injection hyx with hy hx
          subst hy hx
          rw [lexGe_cons] at hR
          simp only [List.length_cons] at hlen
          obtain ⟨e, he, hiff⟩ := eqAt_int A.in1 ⟨hp, g, d, tk, os⟩ a t c u
          refine wpAny_bind (he prog w _ _ ?_)
          cases e with
          | true =>
            rw [if_pos (hiff.mp rfl)] at hR
            wp_walk
            exact ⟨rfl, rfl, _, _, _, _, hrest, hvi', hwi', by omega, hR⟩
          | false =>
            rw [if_neg (fun q => absurd (hiff.mpr q) Bool.false_ne_true)] at hR
            have hri := rcGe_int A.in1 ⟨hp, g, d, tk, os⟩ a t c u prog w
            wp_walk using hri
            exact ⟨_, rfl, by simpa using hR⟩
    case fin =>
      rintro ⟨b1, b2⟩ s' ⟨hb', rfl, vs, ws, ns', ms', hz, hvi, hwi, hlen, hR⟩
      simp only at hb'
      subst hb'
      have hv : lexGe ns' ms' = decide (items.size ≥ items2.size) := by
        cases hvi with
        | nil =>
          cases hwi with
          | nil =>
            simp only [List.length_nil] at hlen
            rw [lexGe_nil_nil]
            exact (decide_eq_true (by omega)).symm
          | cons c u hw =>
            simp only [List.length_nil, List.length_cons] at hlen
            rw [lexGe_nil_cons]
            exact (decide_eq_false (by omega)).symm
        | cons a t hv =>
          cases hwi with
          | nil =>
            simp only [List.length_nil, List.length_cons] at hlen
            rw [lexGe_cons_nil]
            exact (decide_eq_true (by omega)).symm
          | cons c u hw =>
            rw [List.zip_cons_cons] at hz
            cases hz
      rw [hv] at hR
      wp_walk
      exact ⟨_, rfl, by simpa [Builtin.Tuple.tupleCompareSizes] using hR⟩
    case h =>
      exact ⟨rfl, rfl, items.toList, items2.toList, ns, ms, rfl, hi, hj, by omega, h⟩
end
section
variable {prog : Program} {w : World} {A : Around} {E : Value → Shared → Prop} {s : Shared}
theorem ge_tupInts {l b : Addr} {items items2 : Array Value} {ns ms : List Int} {Q : Value → Shared → Prop} (hl : IsTup s.heap l items) (hb : IsTup s.heap b items2) (hi : IntsAre items.toList ns) (hj : IntsAre items2.toList ms)
    (hu : A.units < cLine) (h : Q (.bool (lexGe ns ms)) s) : wpAny (model prog w) A (compareOp .GtE (.ref l) (.ref b)) Q E s := by
  obtain ⟨⟨cls, dd, data, sl⟩, ho, hc, n, hd⟩ := id hl
  obtain ⟨⟨cls2, dd2, data2, sl2⟩, ho2, hc2, n2, hd2⟩ := id hb
  simp only at hc hd hc2 hd2
  subst hc hd hc2 hd2
  exact richCompare_meets_room (op := .GtE) ⟨_, ho, rfl⟩ ⟨_, ho2, rfl⟩ PySem.F.slot_tuple_ge PySem.F.entry_tuple_ge (PySem.F.args_tuple_ge_2 _ _) (tuple_ge_ints l b items items2 n n2 dd dd2 sl sl2 ns ms hi hj)
    ⟨ho, ho2, show Value.bool (lexGe ns ms) ≠ Value.notImplemented ∧ Q (.bool (lexGe ns ms)) s from ⟨(fun x => nomatch x), h⟩⟩ hu
end
end HT
namespace L2
open PySem PySem.Spec PyProof.Rows
section
variable {X : Cx} {a b : Expr} {ta tb : TE} {pos : Pos}
/-- t >= u of tuples of ints -/
def rGeT (K : PySem.W.Frag) : R2 := fun x y H Q => ∃ a b ns ms, x = .ref a ∧ y = .ref b ∧ SqT K H a (ns.map V.int) ∧ SqT K H b (ms.map V.int) ∧ Q (.bl (HT.lexGe ns ms)) H
theorem op_geT (hu : X.A.units < cLine) : OpR X (compareOp .GtE) (rGeT X.K) := by
  intro pins s σ H x y v u Q I rx ry h
  obtain ⟨a, b, ns, ms, rfl, rfl, ha, hb, q⟩ := h
  cases rx
  cases ry
  obtain ⟨its, r1, p1, _⟩ := I.tuple ha
  obtain ⟨its2, r2, p2, _⟩ := I.tuple hb
  have i1 : IntsAre its.toArray.toList ns := intsAre_of r1
  have i2 : IntsAre its2.toArray.toList ms := intsAre_of r2
  exact HT.ge_tupInts p1 p2 i1 i2 hu ⟨.bl (HT.lexGe ns ms), H, I, rfl, q⟩
end
/-- a >= b of words -/
theorem ge_iff {a b : Int × Int} : HT.lexGe [a.1, a.2] [b.1, b.2] = true ↔ (b.1 < a.1 ∨ (a.1 = b.1 ∧ b.2 ≤ a.2)) := by
  show (if a.1 = b.1 then (if a.2 = b.2 then true else decide (b.2 ≤ a.2)) else decide (b.1 ≤ a.1)) = true ↔ _
  by_cases h : a.1 = b.1
  · rw [if_pos h]
    by_cases g : a.2 = b.2
    · rw [if_pos g]
      exact ⟨fun _ => .inr ⟨h, by omega⟩, fun _ => rfl⟩
    · rw [if_neg g, decide_eq_true_iff]
      omega
  · rw [if_neg h, decide_eq_true_iff]
    omega
/-- the house's own word and told number, by what it hears of itself -/
def ownF (cl : List Str) (p : (Int × Int) × Int) (w : Int × Int) : (Int × Int) × Int := if gtW w p.1 = true ∧ hasC cl "refute" = true then ((w.1 + 1, 0), 0) else p
theorem getD_setG {α : Type} {xs : List α} {i j : Nat} {x d : α} (h : i < xs.length) : (xs.set i x).getD j d = if i = j then x else xs.getD j d := by
  rw [List.getD_eq_getElem?_getD, List.getD_eq_getElem?_getD]
  by_cases e : i = j
  · subst e
    rw [if_pos rfl, List.getElem?_set_self h]
    rfl
  · rw [if_neg e, List.getElem?_set_ne e]
/-- what a house tells of one -/
def cmp3 (h : Hs) (o : Nat) : (Int × Int) × Int × Int := (h.2.1.getD o (0, 0), h.2.2.1.getD o 0, h.2.2.2.getD o 0)
structure Sep (y n : Nat) (h g : Hs) (p : (Int × Int) × Int) : Prop where
  up : h.1 = 1
  l1 : h.2.1.length = n
  l2 : h.2.2.1.length = n
  l3 : h.2.2.2.length = n
  g1 : g.2.1.length = n
  g2 : g.2.2.1.length = n
  g3 : g.2.2.2.length = n
  ow : h.2.1.getD y (0, 0) = p.1
  ot : h.2.2.1.getD y 0 = p.2
  om : h.2.2.2.getD y 0 = 0
  eq : ∀ o, o ≠ y → cmp3 h o = cmp3 g o
theorem Sep.own {cl : List Str} {y n : Nat} {h g : Hs} {p : (Int × Int) × Int} (s : Sep y n h g p) (hy : y < n) (w : Int × Int) : Sep y n (noteH cl y h (y, w)) g (ownF cl p w) := by
  unfold noteH refH ownF
  rw [if_pos rfl, s.ow]
  by_cases c : gtW w p.1 = true ∧ hasC cl "refute" = true
  · rw [if_pos ⟨s.up, c.2, c.1⟩, if_pos c]
    refine ⟨s.up, by rw [List.length_set]; exact s.l1, by rw [List.length_set]; exact s.l2, s.l3, s.g1, s.g2, s.g3, ?_, ?_, s.om, fun o ho => ?_⟩
    · show (h.2.1.set y (w.1 + 1, 0)).getD y (0, 0) = _
      rw [getD_setG (by rw [s.l1]; exact hy), if_pos rfl]
    · show (h.2.2.1.set y 0).getD y 0 = _
      rw [getD_setG (by rw [s.l2]; exact hy), if_pos rfl]
    · rw [← s.eq o ho]
      show ((h.2.1.set y (w.1 + 1, 0)).getD o (0, 0), (h.2.2.1.set y 0).getD o 0, h.2.2.2.getD o 0) = _
      rw [getD_setG (by rw [s.l1]; exact hy), if_neg (Ne.symm ho), getD_setG (by rw [s.l2]; exact hy), if_neg (Ne.symm ho)]
      rfl
  · rw [if_neg fun z => c ⟨z.2.2, z.2.1⟩, if_neg c]
    exact s
theorem Sep.other {cl : List Str} {y n : Nat} {h g : Hs} {p : (Int × Int) × Int} (s : Sep y n h g p) {x : Nat × (Int × Int)} (hx : x.1 < n) (hne : x.1 ≠ y) : Sep y n (noteH cl y h x) (noteH cl y g x) p := by
  have e := s.eq x.1 hne
  have ew : h.2.1.getD x.1 (0, 0) = g.2.1.getD x.1 (0, 0) := congrArg (fun z => z.1) e
  unfold noteH notH
  rw [if_neg hne, if_neg hne, ew]
  split
  · have m1 : (if x.2.2 = 1 then h.2.2.2 else h.2.2.2.set x.1 0).length = n := by
      split
      · exact s.l3
      · rw [List.length_set]; exact s.l3
    have m2 : (if x.2.2 = 1 then g.2.2.2 else g.2.2.2.set x.1 0).length = n := by
      split
      · exact s.g3
      · rw [List.length_set]; exact s.g3
    refine ⟨s.up, by rw [List.length_set]; exact s.l1, by rw [List.length_set]; exact s.l2, m1, by rw [List.length_set]; exact s.g1, by rw [List.length_set]; exact s.g2, m2, ?_, ?_, ?_, fun o ho => ?_⟩
    · show (h.2.1.set x.1 x.2).getD y (0, 0) = _
      rw [getD_setG (by rw [s.l1]; exact hx), if_neg hne]
      exact s.ow
    · show (h.2.2.1.set x.1 0).getD y 0 = _
      rw [getD_setG (by rw [s.l2]; exact hx), if_neg hne]
      exact s.ot
    · show (if x.2.2 = 1 then h.2.2.2 else h.2.2.2.set x.1 0).getD y 0 = 0
      split
      · exact s.om
      · rw [getD_setG (by rw [s.l3]; exact hx), if_neg hne]
        exact s.om
    · have eo := s.eq o ho
      have e1 : h.2.1.getD o (0, 0) = g.2.1.getD o (0, 0) := congrArg (fun z => z.1) eo
      have e2 : h.2.2.1.getD o 0 = g.2.2.1.getD o 0 := congrArg (fun z => z.2.1) eo
      have e3 : h.2.2.2.getD o 0 = g.2.2.2.getD o 0 := congrArg (fun z => z.2.2) eo
      have e4 : (if x.2.2 = 1 then h.2.2.2 else h.2.2.2.set x.1 0).getD o 0 = (if x.2.2 = 1 then g.2.2.2 else g.2.2.2.set x.1 0).getD o 0 := by
        split
        · exact e3
        · rw [getD_setG (by rw [s.l3]; exact hx), getD_setG (by rw [s.g3]; exact hx), e3]
      show ((h.2.1.set x.1 x.2).getD o (0, 0), (h.2.2.1.set x.1 0).getD o 0, (if x.2.2 = 1 then h.2.2.2 else h.2.2.2.set x.1 0).getD o 0) = ((g.2.1.set x.1 x.2).getD o (0, 0), (g.2.2.1.set x.1 0).getD o 0, (if x.2.2 = 1 then g.2.2.2 else g.2.2.2.set x.1 0).getD o 0)
      rw [getD_setG (by rw [s.l1]; exact hx), getD_setG (by rw [s.l2]; exact hx), getD_setG (by rw [s.g1]; exact hx), getD_setG (by rw [s.g2]; exact hx), e1, e2, e4]
  · exact s
theorem sep_all {cl : List Str} {y n : Nat} (hy : y < n) : ∀ {ns : List (Nat × (Int × Int))} {h g : Hs} {p : (Int × Int) × Int}, Sep y n h g p → (∀ x ∈ ns, x.1 < n) →
    Sep y n (takenH cl y h ns) (takenH cl y g (ns.filter fun x => decide (x.1 ≠ y))) (((ns.filter fun x => decide (x.1 = y)).map (·.2)).foldl (ownF cl) p)
  | [], _, _, _, s, _ => s
  | x :: r, h, g, p, s, hn => by
    have hx := hn x (List.mem_cons_self ..)
    by_cases c : x.1 = y
    · rw [List.filter_cons_of_neg (by simpa using c), List.filter_cons_of_pos (by simpa using c), List.map_cons, List.foldl_cons]
      have e : x = (y, x.2) := by rw [← c]
      show Sep y n (takenH cl y (noteH cl y h x) r) _ _
      rw [e]
      exact sep_all hy (s.own hy x.2) fun z hz => hn z (List.mem_cons_of_mem _ hz)
    · rw [List.filter_cons_of_pos (by simpa using c), List.filter_cons_of_neg (by simpa using c)]
      exact sep_all hy (s.other hx c) fun z hz => hn z (List.mem_cons_of_mem _ hz)
/-- own notes put in, each behind those before -/
structure Mix (y : Nat) (others ns : List (Nat × (Int × Int))) (ws : List (Int × Int)) (at_ : Nat) : Prop where
  le : at_ ≤ ns.length
  ot : (ns.filter fun x => decide (x.1 ≠ y)) = others
  ow : ((ns.take at_).filter fun x => decide (x.1 = y)).map (·.2) = ws
  no : (ns.drop at_).filter (fun x => decide (x.1 = y)) = []
theorem Mix.own {y : Nat} {others ns : List (Nat × (Int × Int))} {ws : List (Int × Int)} {at_ : Nat} (m : Mix y others ns ws at_) : (ns.filter fun x => decide (x.1 = y)).map (·.2) = ws := by
  rw [← List.take_append_drop at_ ns, List.filter_append, m.no, List.append_nil]
  exact m.ow
theorem Mix.put {y : Nat} {others ns : List (Nat × (Int × Int))} {ws : List (Int × Int)} {at_ p : Nat} (m : Mix y others ns ws at_) (h1 : at_ ≤ p) (h2 : p ≤ ns.length) (w : Int × Int) : Mix y others (ns.take p ++ (y, w) :: ns.drop p) (ws ++ [w]) (p + 1) := by
  have ht : (ns.take p).length = p := by rw [List.length_take]; omega
  have hp : (ns.take p).filter (fun x => decide (x.1 = y)) = (ns.take at_).filter fun x => decide (x.1 = y) := by
    have e : ns.take p = ns.take at_ ++ (ns.drop at_).take (p - at_) := by
      rw [← List.take_add]
      congr 1
      omega
    rw [e, List.filter_append]
    have z : ((ns.drop at_).take (p - at_)).filter (fun x => decide (x.1 = y)) = [] := by
      rw [List.filter_eq_nil_iff]
      intro x hx
      exact List.filter_eq_nil_iff.mp m.no x (List.mem_of_mem_take hx)
    rw [z, List.append_nil]
  have hd : (ns.drop p).filter (fun x => decide (x.1 = y)) = [] := by
    rw [List.filter_eq_nil_iff]
    intro x hx
    refine List.filter_eq_nil_iff.mp m.no x ?_
    have e : ns.drop p = (ns.drop at_).drop (p - at_) := by rw [List.drop_drop]; congr 1; omega
    rw [e] at hx
    exact List.mem_of_mem_drop hx
  have et : (ns.take p ++ (y, w) :: ns.drop p).take (p + 1) = ns.take p ++ [(y, w)] := by
    rw [List.take_append, ht, List.take_of_length_le (by omega), show p + 1 - p = 1 by omega]
    rfl
  have ed : (ns.take p ++ (y, w) :: ns.drop p).drop (p + 1) = ns.drop p := by
    rw [List.drop_append, ht, List.drop_eq_nil_of_le (by omega), show p + 1 - p = 1 by omega]
    rfl
  refine ⟨by rw [List.length_append, ht, List.length_cons, List.length_drop]; omega, ?_, ?_, by rw [ed]; exact hd⟩
  · rw [List.filter_append, List.filter_cons_of_neg (by simp), ← List.filter_append, List.take_append_drop]
    exact m.ot
  · rw [et, List.filter_append, hp, List.map_append, m.ow, List.filter_cons_of_pos (by simp)]
    rfl
theorem ownF_no {cl : List Str} (h : ¬ hasC cl "refute" = true) : ∀ (ws : List (Int × Int)) (p : (Int × Int) × Int), ws.foldl (ownF cl) p = p
  | [], _ => rfl
  | w :: r, p => by
    rw [List.foldl_cons]
    have : ownF cl p w = p := by unfold ownF; rw [if_neg fun z => h z.2]
    rw [this]
    exact ownF_no h r p
theorem ownF_all {cl : List Str} (h : hasC cl "refute" = true) : ∀ (ws : List (Int × Int)) (p : (Int × Int) × Int), ((ws.foldl (ownF cl) p).1 = p.1 ∨ geW (ws.foldl (ownF cl) p).1 p.1) ∧ ∀ w ∈ ws, geW (ws.foldl (ownF cl) p).1 w
  | [], p => ⟨.inl rfl, fun _ z => nomatch z⟩
  | w :: r, p => by
    rw [List.foldl_cons]
    obtain ⟨i1, i2⟩ := ownF_all h r (ownF cl p w)
    have key : geW (ownF cl p w).1 p.1 ∧ geW (ownF cl p w).1 w := by
      unfold ownF
      by_cases c : gtW w p.1 = true
      · rw [if_pos ⟨c, h⟩]
        have hg : geW (w.1 + 1, 0) w := geW_iff.mpr (.inl (by show w.1 < w.1 + 1; omega))
        exact ⟨hg.trans (geW_of_gt c), hg⟩
      · rw [if_neg fun z => c z.1]
        exact ⟨geW.refl _, by unfold geW; exact H1.bfalse c⟩
    have kf : geW (r.foldl (ownF cl) (ownF cl p w)).1 (ownF cl p w).1 := by
      rcases i1 with e | e
      · rw [e]; exact geW.refl _
      · exact e
    refine ⟨.inr (kf.trans key.1), fun w' hw' => ?_⟩
    rcases List.mem_cons.mp hw' with rfl | hw'
    · exact kf.trans key.2
    · exact i2 w' hw'
/-- an own word that changed is as new as all that was heard -/
theorem ownF_ge {cl : List Str} {ws : List (Int × Int)} {p : (Int × Int) × Int} (h : (ws.foldl (ownF cl) p).1 ≠ p.1) : ∀ w ∈ ws, HT.lexGe [(ws.foldl (ownF cl) p).1.1, (ws.foldl (ownF cl) p).1.2] [w.1, w.2] = true := by
  by_cases c : hasC cl "refute" = true
  · intro w hw
    have := geW_iff.mp ((ownF_all c ws p).2 w hw)
    rw [ge_iff]
    rcases this with z | z
    · exact .inl z
    · exact .inr ⟨z.1.symm, z.2⟩
  · exact absurd (by rw [ownF_no c]) h
end L2
namespace L2
open PySem PySem.Spec PyProof.Rows H1
section
variable {X : Cx} {K : PySem.W.Frag}
/-- the slots told anew -/
theorem pss_ck {ss : List Stmt} {t : TS} (h : PSs X ss t) : PSs X ss (fun D σ H => ∃ σ' : St, σ = σ' ∧ t D σ' H) := fun pins s σ H D I hh => by
  obtain ⟨σ', e, hh⟩ := hh
  subst e
  exact h pins s σ H D I hh
theorem op_geTK (hK : X.K = K) (hu : X.A.units < cLine) : OpR X (compareOp .GtE) (rGeT K) := hK ▸ op_geT hu
end
def spOwn : Sp := fun vs H Q _ => ∃ (x y : V) (l : Addr) (k : Int) (i n : Nat) (r : Ru) (h : Hs) (ws : List (Int × Int)) (zs : List V), vs = [x, y, .int k, .ref l] ∧ Tr H x (ruD r) ∧ Tr H y (houseD h) ∧ (H l = some (.lst zs) ∧ TrL H zs (ws.map wordD)) ∧ (k = (i : Int) ∧ i < n) ∧ (h.2.1.length = n ∧ h.2.2.1.length = n) ∧ ∀ q wq H', Same H H' → H' q = some (.tup [.ref wq, .int (ws.foldl (ownF r.cl) (h.2.1.getD i (0, 0), h.2.2.1.getD i 0)).2]) → Tr H' (.ref wq) (wordD (ws.foldl (ownF r.cl) (h.2.1.getD i (0, 0), h.2.2.1.getD i 0)).1) → Q (.ref q) H'
end L2
namespace L2
open PySem PySem.Spec PyProof.Rows H1
theorem TrL.takeD {H : Hp} : ∀ {vs : List V} {ds : List PyData} (k : Nat), TrL H vs ds → TrL H (vs.take k) (ds.take k)
  | _, _, 0, _ => by rw [List.take_zero, List.take_zero]; exact .nil
  | _, _, _ + 1, .nil => .nil
  | _, _, k + 1, .cons t r => .cons t (r.takeD k)
theorem TrL.dropD {H : Hp} : ∀ {vs : List V} {ds : List PyData} (k : Nat), TrL H vs ds → TrL H (vs.drop k) (ds.drop k)
  | _, _, 0, t => t
  | _, _, _ + 1, .nil => .nil
  | _, _, k + 1, .cons _ r => r.dropD k
theorem TrL.insM {α : Type} {f : α → PyData} {H : Hp} {vs : List V} {ws : List α} {v : V} {w : α} (k : Nat) (t : TrL H vs (ws.map f)) (tv : Tr H v (f w)) : TrL H (vs.take k ++ v :: vs.drop k) ((ws.take k ++ w :: ws.drop k).map f) := by
  rw [List.map_append, List.map_cons, List.map_take, List.map_drop]
  exact (t.takeD k).append (.cons tv (t.dropD k))
theorem sep0 {y n : Nat} {h : Hs} (w : HW n h) (up : h.1 = 1) (m0 : h.2.2.2.getD y 0 = 0) : Sep y n h h (h.2.1.getD y (0, 0), h.2.2.1.getD y 0) := ⟨up, w.bl, w.tl, w.ml, w.bl, w.tl, w.ml, rfl, rfl, m0, fun _ _ => rfl⟩
theorem get_getD {α : Type} {xs : List α} {i : Nat} {d : α} (h : i < xs.length) : xs[i]? = some (xs.getD i d) := by rw [List.getElem?_eq_getElem h, getD_of (List.getElem?_eq_getElem h)]
/-- the parts of a house in the heap -/
theorem Tr.parts {H : Hp} {q : Addr} {h : Hs} (t : Tr H (.ref q) (houseD h)) : ∃ bq uq mq bxs, H q = some (.tup [.int h.1, .ref bq, .ref uq, .ref mq]) ∧ H bq = some (.tup bxs) ∧ TrL H bxs (h.2.1.map wordD) ∧ H uq = some (.tup (h.2.2.1.map V.int)) ∧ H mq = some (.tup (h.2.2.2.map V.int)) := by
  obtain ⟨_, bq, uq, mq, e, hh, tb, tu, tm⟩ := t.houseI
  cases e
  obtain ⟨_, bxs, e, hb, tbl⟩ := tb.tupI
  cases e
  obtain ⟨_, uxs, e, hu, tul⟩ := tu.tupI
  cases e
  obtain ⟨_, mxs, e, hm, tml⟩ := tm.tupI
  cases e
  rw [tul.ints] at hu
  rw [tml.ints] at hm
  exact ⟨bq, uq, mq, bxs, hh, hb, tbl, hu, hm⟩
theorem map_at {ns : List Int} {i : Nat} (h : i < ns.length) : (ns.map V.int)[i]? = some (V.int (ns.getD i 0)) := by rw [List.getElem?_map, get_getD h]; rfl
theorem word_at {H : Hp} {bxs : List V} {ws : List (Int × Int)} {i : Nat} (t : TrL H bxs (ws.map wordD)) (h : i < ws.length) : ∃ v, bxs[i]? = some v ∧ Tr H v (wordD (ws.getD i (0, 0))) := by
  have hl := t.lenM
  have hb : bxs[i]? = some bxs[i] := List.getElem?_eq_getElem (by omega)
  obtain ⟨w, hw, tw⟩ := t.getM hb
  rw [getD_of hw]
  exact ⟨_, hb, tw⟩
theorem ne_false {a b : Int × Int} (h : a = b) : (!(wordD a).eqv (wordD b)) = false := by rw [eqv_word, decide_eq_true h]; rfl
theorem ne_falseI {a b : Int} (h : a = b) : (!(PyData.int a).eqv (.int b)) = false := by subst h; show (!(a == a)) = false; simp
end L2
namespace L2
open PySem PySem.Spec PyProof.Rows H1
theorem TrL.trues {H : Hp} {α : Type} : ∀ {vs : List V} {ws : List α}, TrL H vs (ws.map fun _ => .bool true) → vs = (List.replicate ws.length true).map V.bl
  | _, [], t => by cases t; rfl
  | _, _ :: r, t => by
    cases t with
    | cons t1 t2 => cases t1; rw [t2.trues]; rfl
theorem all_trues (n : Nat) : (List.replicate n true).all id = true := by simp
end L2

set_option Elab.async false
set_option linter.all false
set_option maxRecDepth 100000
set_option maxHeartbeats 4000000
namespace L2
open PySem PySem.Spec PyProof.Rows H1
section
variable {X : Cx}
/-- sorted(xs), xs a list of texts -/
theorem call_sortedS : CallR X (.builtin "sorted") (fun xs H Q => ∃ (p : Addr) (ss : List Str), xs = [.ref p] ∧ SqL X.K H p (ss.map V.str) ∧ ss.length < 64 ∧ ∀ l (ts : List Str), H l = none → ts.Perm ss → Q (.ref l) (upd H l (.lst (ts.map V.str)))) := by
  intro pins s σ H xs us Q I r h
  obtain ⟨p, ss, rfl, hq, hn, q⟩ := h
  obtain ⟨u, rfl, ru⟩ := vals1 r
  cases ru
  obtain ⟨its, rv, pl, hz⟩ := I.list hq
  have hlen := rv.length
  rw [List.length_map] at hlen
  have sa : StrsAre its ss := by
    clear hlen pl hq hz q hn
    induction ss generalizing its with
    | nil => cases rv; exact .nil
    | cons x r ih =>
      cases rv with
      | cons r1 r2 =>
        obtain ⟨t, rfl⟩ := r1
        exact .cons x t (ih _ r2)
  refine sorted_strs (vs := its) (ss := ss) pl.isList sa (by omega) fun out ts ia pm hso => ?_
  obtain ⟨e, he⟩ := sortedAll_at s.heap its out
  have rv' : Vals (ts.map V.str) out.toList := by
    clear pm he hso
    generalize out.toList = l at ia
    induction ia with
    | nil => exact .nil
    | cons a t h ih => exact .cons ⟨t, rfl⟩ ih
  refine ⟨.ref (s.heap.objs.size + 1), _, I.laid (t' := s.toks) (fun b o e => sortedAll_old e) (Nat.le_succ _) (o := .lst (ts.map V.str)) ⟨?_, out.toList, e, rv', by simpa using he⟩, rfl, q _ ts (I.hok.fresh (Nat.le_succ _)) pm⟩
  rw [List.length_map, pm.length_eq]
  exact Nat.le_of_lt (small1000 (by omega))
end
abbrev Nt := Nat × (Int × Int)
theorem gives_newer {cl : List Str} (hn : hasC cl "newer" = true) (a b : Int × Int) : givesW cl a b = gtW b a := by
  unfold givesW
  rw [if_pos hn]
theorem taken_heard {cl : List Str} {y : Nat} (hn : hasC cl "newer" = true) : ∀ {ns : List Nt} {h : Hs}, (∀ n ∈ ns, n.1 ≠ y) → (takenH cl y h ns).2.1 = heardL h.2.1 ns
  | [], _, _ => rfl
  | n :: r, h, hy => by
    show (takenH cl y (noteH cl y h n) r).2.1 = heardL (stepW h.2.1 n) r
    rw [taken_heard hn fun m hm => hy m (List.mem_cons_of_mem _ hm)]
    congr 1
    unfold noteH notH stepW
    rw [if_neg (hy n (List.mem_cons_self ..)), gives_newer hn]
    split <;> rfl
theorem taken_stay {cl : List Str} {y : Nat} (hn : hasC cl "newer" = true) {h : Hs} : ∀ {ns : List Nt}, (∀ n ∈ ns, n.1 ≠ y) → (∀ n ∈ ns, geW (h.2.1.getD n.1 (0, 0)) n.2) → takenH cl y h ns = h
  | [], _, _ => rfl
  | n :: r, hy, hg => by
    have e : noteH cl y h n = h := by
      unfold noteH notH
      rw [if_neg (hy n (List.mem_cons_self ..)), gives_newer hn, if_neg]
      have := hg n (List.mem_cons_self ..)
      unfold geW at this
      rw [this]
      decide
    show takenH cl y (noteH cl y h n) r = h
    rw [e]
    exact taken_stay hn (fun m hm => hy m (List.mem_cons_of_mem _ hm)) fun m hm => hg m (List.mem_cons_of_mem _ hm)
theorem heardL_mem {ws : List (Int × Int)} {ns ms : List Nt} (h1 : ∀ n ∈ ns, n.1 < ws.length) (h2 : ∀ x, x ∈ ms ↔ x ∈ ns) : heardL ws ms = heardL ws ns := by
  have h3 : ∀ n ∈ ms, n.1 < ws.length := fun n hn => h1 n ((h2 n).mp hn)
  refine eq_of_getD (by rw [heardL_len, heardL_len]) fun j => ?_
  obtain ⟨a1, a2, a3⟩ := heardL_get h3 j
  obtain ⟨b1, b2, b3⟩ := heardL_get h1 j
  refine geW.anti ?_ ?_
  · rcases b3 with z | ⟨n, hn, e, z⟩
    · rw [z]; exact a1
    · rw [z]; exact a2 n ((h2 n).mpr hn) e
  · rcases a3 with z | ⟨n, hn, e, z⟩
    · rw [z]; exact b1
    · rw [z]; exact b2 n ((h2 n).mp hn) e
/-- what becomes of told and timers where each note is the newest word already -/
def dueH (h : Hs) (B : List (Int × Int)) (j : Nat) : (Int × Int) × Int × Int := if B.getD j (0, 0) ≠ h.2.1.getD j (0, 0) then (B.getD j (0, 0), 0, if (B.getD j (0, 0)).2 = 1 then h.2.2.2.getD j 0 else 0) else cmp3 h j
structure OnceI (n : Nat) (h g : Hs) (B : List (Int × Int)) (js : List Nat) : Prop where
  l1 : g.2.1.length = n
  l2 : g.2.2.1.length = n
  l3 : g.2.2.2.length = n
  up : g.1 = h.1
  i : ∀ j ∈ js, cmp3 g j = dueH h B j
  o : ∀ j, j ∉ js → cmp3 g j = cmp3 h j
theorem OnceI.put {cl : List Str} {y n : Nat} {h g : Hs} {B : List (Int × Int)} {js : List Nat} (hn : hasC cl "newer" = true) (s : OnceI n h g B js) (hB : ∀ j, geW (B.getD j (0, 0)) (h.2.1.getD j (0, 0))) {k : Nat} (hk : k < n) (hy : k ≠ y) : OnceI n h (noteH cl y g (k, B.getD k (0, 0))) B (js ++ [k]) := by
  unfold noteH notH
  rw [if_neg hy, gives_newer hn]
  by_cases c : gtW (B.getD k (0, 0)) (g.2.1.getD k (0, 0)) = true
  · rw [if_pos c]
    have hkj : k ∉ js := fun z => by
      have e := s.i k z
      have e1 : g.2.1.getD k (0, 0) = (dueH h B k).1 := congrArg (fun z => z.1) e
      have : g.2.1.getD k (0, 0) = B.getD k (0, 0) := by
        rw [e1]
        unfold dueH cmp3
        split
        · rfl
        · rename_i q
          exact (Classical.not_not.mp q).symm
      rw [this] at c
      rcases gtW_iff.mp c with q | q
      · exact Int.lt_irrefl _ q
      · exact Int.lt_irrefl _ q.2
    have eo := s.o k hkj
    have eo1 : g.2.1.getD k (0, 0) = h.2.1.getD k (0, 0) := congrArg (fun z => z.1) eo
    have eo3 : g.2.2.2.getD k 0 = h.2.2.2.getD k 0 := congrArg (fun z => z.2.2) eo
    have hne : B.getD k (0, 0) ≠ h.2.1.getD k (0, 0) := fun z => by
      rw [eo1, z] at c
      rcases gtW_iff.mp c with q | q
      · exact Int.lt_irrefl _ q
      · exact Int.lt_irrefl _ q.2
    have key : ∀ j, cmp3 (g.1, g.2.1.set k (B.getD k (0, 0)), g.2.2.1.set k 0, if (B.getD k (0, 0)).2 = 1 then g.2.2.2 else g.2.2.2.set k 0) j = if k = j then dueH h B k else cmp3 g j := fun j => by
      show ((g.2.1.set k (B.getD k (0, 0))).getD j (0, 0), (g.2.2.1.set k 0).getD j 0, (if (B.getD k (0, 0)).2 = 1 then g.2.2.2 else g.2.2.2.set k 0).getD j 0) = _
      rw [getD_setG (by rw [s.l1]; exact hk), getD_setG (by rw [s.l2]; exact hk)]
      by_cases e : k = j
      · subst e
        rw [if_pos rfl, if_pos rfl, if_pos rfl]
        unfold dueH
        rw [if_pos hne]
        congr 2
        split
        · exact eo3
        · rw [getD_setG (by rw [s.l3]; exact hk), if_pos rfl]
      · rw [if_neg e, if_neg e, if_neg e]
        unfold cmp3
        congr 2
        split
        · rfl
        · rw [getD_setG (by rw [s.l3]; exact hk), if_neg e]
    refine ⟨by rw [List.length_set]; exact s.l1, by rw [List.length_set]; exact s.l2, ?_, s.up, fun j hj => ?_, fun j hj => ?_⟩
    · show (if (B.getD k (0, 0)).2 = 1 then g.2.2.2 else g.2.2.2.set k 0).length = n
      split
      · exact s.l3
      · rw [List.length_set]; exact s.l3
    · rw [key j]
      split
      · rename_i e; rw [e]
      · rename_i e
        rcases List.mem_append.mp hj with z | z
        · exact s.i j z
        · exact absurd (List.mem_singleton.mp z).symm e
    · rw [key j, if_neg (fun e => hj (by rw [← e]; exact List.mem_append_right _ (List.mem_singleton.mpr rfl)))]
      exact s.o j fun z => hj (List.mem_append_left _ z)
  · rw [if_neg c]
    refine ⟨s.l1, s.l2, s.l3, s.up, fun j hj => ?_, fun j hj => s.o j fun z => hj (List.mem_append_left _ z)⟩
    rcases List.mem_append.mp hj with z | z
    · exact s.i j z
    · rw [List.mem_singleton.mp z]
      by_cases hkj : k ∈ js
      · exact s.i k hkj
      · have eo := s.o k hkj
        have eo1 : g.2.1.getD k (0, 0) = h.2.1.getD k (0, 0) := congrArg (fun z => z.1) eo
        rw [eo]
        unfold dueH
        rw [if_neg]
        intro hne
        refine hne (geW.anti (hB k) ?_)
        unfold geW
        rw [← eo1]
        exact H1.bfalse c
theorem once_all {cl : List Str} {y n : Nat} {h : Hs} {B : List (Int × Int)} (hn : hasC cl "newer" = true) (hB : ∀ j, geW (B.getD j (0, 0)) (h.2.1.getD j (0, 0))) : ∀ {ks : List Nat} {g : Hs} {js : List Nat}, OnceI n h g B js → (∀ k ∈ ks, k < n ∧ k ≠ y) → OnceI n h (takenH cl y g (ks.map fun k => (k, B.getD k (0, 0)))) B (js ++ ks)
  | [], _, _, s, _ => by rw [List.append_nil]; exact s
  | k :: r, g, js, s, hk => by
    have := once_all hn hB (s.put (cl := cl) (y := y) hn hB (hk k (List.mem_cons_self ..)).1 (hk k (List.mem_cons_self ..)).2) fun z hz => hk z (List.mem_cons_of_mem _ hz)
    rw [List.append_assoc] at this
    exact this
end L2
namespace L2
open PySem PySem.Spec PyProof.Rows H1
theorem lt_false {a b : Int × Int} (h : geW a b) : HT.lexLt [a.1, a.2] [b.1, b.2] = false := by
  show (if a.1 = b.1 then (if a.2 = b.2 then false else decide (a.2 < b.2)) else decide (a.1 < b.1)) = false
  rcases geW_iff.mp h with z | z
  · rw [if_neg (by omega)]
    exact decide_eq_false (by omega)
  · rw [if_pos z.1.symm]
    split
    · rfl
    · exact decide_eq_false (by omega)
theorem mem_ins {α : Type} {ms : List α} {k : Nat} {y x : α} : x ∈ ms.take k ++ y :: ms.drop k ↔ x = y ∨ x ∈ ms := by
  have : x ∈ ms ↔ x ∈ ms.take k ∨ x ∈ ms.drop k := by rw [← List.mem_append, List.take_append_drop]
  rw [this, List.mem_append, List.mem_cons]
  constructor
  · rintro (z | z | z)
    · exact .inr (.inl z)
    · exact .inl z
    · exact .inr (.inr z)
  · rintro (z | z | z)
    · exact .inr (.inl z)
    · exact .inl z
    · exact .inr (.inr z)
def spTurned : Sp := fun vs H Q _ => ∃ (b a : Addr) (ns : List (Nat × (Int × Int))), vs = [.ref b, .ref a] ∧ Box H b ∧ Tr H (.ref a) (notesD ns) ∧ ns.length ≤ 20 ∧ ∀ q ms H', Ext b H H' → Tr H' (.ref q) (notesD ms) → (∀ x, x ∈ ms ↔ x ∈ ns) → ms.length = ns.length + ns.length → Q (.ref q) H'
def spRight : Sp := fun vs H Q _ => ∃ (hq lq bq : Addr) (n : Nat) (h g : Hs) (B : List (Int × Int)), vs = [.ref hq, .ref lq, .ref bq] ∧ Tr H (.ref hq) (houseD h) ∧ Tr H (.ref lq) (houseD g) ∧ Tr H (.ref bq) (bookD B) ∧ (HW n h ∧ HW n g ∧ n ≤ 8 ∧ g.1 = 1 ∧ g.2.1 = B) ∧ (∀ j, geW (B.getD j (0, 0)) (h.2.1.getD j (0, 0))) ∧ (∀ j, j < n → cmp3 g j = dueH h B j) ∧ ∀ H', Same H H' → Q (.bl true) H'
end L2
namespace L2
open PySem PySem.Spec PyProof.Rows H1
structure RuW (r : Ru) : Prop where
  w : 1 ≤ r.w ∧ r.w ≤ 9
  t : 0 ≤ r.t ∧ r.t ≤ 9
def spHouseC : Sp := fun vs H Q _ => ∃ (b : Addr) (m far : Int) (n : Nat) (x : V) (r : Ru), vs = [.ref b, .int m, x, .int far] ∧ Box H b ∧ (m = (n : Int) ∧ 2 ≤ n ∧ n ≤ 8) ∧ Tr H x (ruD r) ∧ RuW r ∧ (0 ≤ far ∧ far ≤ 1000000) ∧ ∀ q hq o h H', Ext b H H' → H' q = some (.tup [.int ((o : Nat) : Int), .ref hq]) → Tr H' (.ref hq) (houseD h) → o < n → (HW n h ∧ h.1 = 1 ∧ ∀ w ∈ h.2.1, w.1 ≤ 1000009) → Q (.ref q) H'
end L2

set_option Elab.async false
set_option linter.all false
set_option maxRecDepth 100000
set_option maxHeartbeats 4000000
namespace K23
open PySem PySem.Spec PyProof.Rows L2 H1
def top (i : Nat) : Stmt := PySem.Challenge.pw_hearsaybook_k23_newer_notes_win.main.body.getD i (.Pass ⟨0, 0, 0, 0⟩)
structure Txt (mg : Str → Option Value) : Prop where
  z_abs : mg "abs" = none
  z_all : mg "all" = none
  z_bool : mg "bool" = none
  z_enumerate : mg "enumerate" = none
  z_int : mg "int" = none
  z_isinstance : mg "isinstance" = none
  z_len : mg "len" = none
  z_list : mg "list" = none
  z_min : mg "min" = none
  z_range : mg "range" = none
  z_sorted : mg "sorted" = none
  z_tuple : mg "tuple" = none
  z_zip : mg "zip" = none
  g_ALIVE : GInt mg "ALIVE" 0
  g_SUSPECT : GInt mg "SUSPECT" 1
local macro_rules
  | `(tactic| and_intros) => `(tactic| repeat (first | refine And.intro rfl ?_ | apply @Exists.intro L2.V | apply @Exists.intro Int | apply @Exists.intro PySem.Addr | apply @Exists.intro Bool | apply @Exists.intro (List L2.V) | apply @Exists.intro (List Int) | apply @Exists.intro PySem.Str | apply @Exists.intro (Option L2.V) | apply @Exists.intro (Int × Int) | apply @Exists.intro (List (Int × Int)) | apply @Exists.intro (List (Nat × (Int × Int))) | apply @Exists.intro PySem.PyData | apply @Exists.intro (List (List (Int × Int))) | apply @Exists.intro (List PySem.PyData)))

def spBox (K : PySem.W.Frag) : Sp := fun vs H Q _ => ∃ (a : Addr) (k : Int) (ns : List Int), vs = [.ref a, .int k] ∧ SqL K H a (ns.map V.int) ∧ 0 ≤ k ∧ k ≤ 100 ∧ ∀ p H', H p = none → Same H H' → Box H' p → Q (.ref p) H'
def spTake : Sp := fun vs H Q _ => ∃ (b : Addr) (m : Int), vs = [.ref b, .int m] ∧ Box H b ∧ 0 < m ∧ m < 2 ^ 62 ∧ ∀ d H', 0 ≤ d → d < m → Ext b H H' → Q (.int d) H'
def spLaw (K : PySem.W.Frag) : Sp := fun vs H Q _ => ∃ (a : Addr) (ns : List Int), vs = [.ref a] ∧ SqL K H a (ns.map V.int) ∧ ns.length ≤ 63 ∧ ∀ H', Q (.bl true) H'

def spNotes : Sp := fun vs H Q _ => ∃ (b : Addr) (m : Int), vs = [.ref b, .int m] ∧ Box H b ∧ (2 ≤ m ∧ m ≤ 8) ∧ ∀ r ns H', Ext b H H' → Tr H' (.ref r) (notesD ns) → (∀ n ∈ ns, (n.1 : Int) < m ∧ Sml n.2) → ns.length ≤ 40 → Q (.ref r) H'
theorem ints_in {xs : List V} {d lo hi : Int} (h0 : 0 ≤ d) (h1 : d < xs.length) (hx : ∀ v ∈ xs, ∃ n, v = V.int n ∧ lo ≤ n ∧ n ≤ hi) : ∃ n, atI xs d = some (V.int n) ∧ lo ≤ n ∧ n ≤ hi := by
  obtain ⟨v, hv, ha⟩ := atI_in h0 h1
  obtain ⟨n, rfl, r⟩ := hx v hv
  exact ⟨n, ha, r⟩
section
variable {P : Program} {w : World} {K : PySem.W.Frag} {mg : Str → Option Value} {base : Heap}
theorem scnewer : FnScope ["one", "other"] ["one", "other"] (defScope (top 5)) := ⟨rfl, rfl, rfl, by decide +kernel, rfl, by decide +kernel, by decide +kernel⟩
theorem ok_newer {f : Addr} {fd : FuncData} (D : Def K mg "newer" (top 5) ["one", "other"] f fd) (T : Txt mg) : FnOk P w K mg base CX0 1 f fd ["one", "other"] spNewer := by
  refine D.fn.ok scnewer (fun vs H Q E h => ?_) (fun cdv A outer s H vs Q E hr h => ?_)
  · obtain ⟨x, y, a, b, rfl, _⟩ := h
    rfl
  · obtain ⟨x, y, a, b, rfl, ta, tb, k⟩ := h
    obtain ⟨q1, rfl, h1⟩ := ta.wordI
    obtain ⟨q2, rfl, h2⟩ := tb.wordI
    refine ⟨_, (pss_one (ps_ret (pe_cmpR (op_gtT hr.units0) (pv 0) (pv 1) (nomark _)))), ?_⟩
    and_intros
    exact ⟨SqT.of h1 (xs := [a.1, a.2].map V.int), SqT.of h2 (xs := [b.1, b.2].map V.int), k⟩
theorem scheard : FnScope ["book", "notes", "words", "house", "word"] ["book", "notes"] (defScope (top 6)) := ⟨rfl, rfl, rfl, by decide +kernel, rfl, by decide +kernel, by decide +kernel⟩
theorem ok_heard {f : Addr} {fd : FuncData} (D : Def K mg "heard" (top 6) ["book", "notes"] f fd) (T : Txt mg) {fnewer : Addr} {fdnewer : FuncData} (Dnewer : Def K mg "newer" (top 5) ["one", "other"] fnewer fdnewer) : FnOk P w K mg base CX0 2 f fd ["book", "notes"] spHeard := by
  have Gnewer : FnOk P w K mg base CX0 1 fnewer fdnewer ["one", "other"] spNewer := ok_newer Dnewer T
  refine D.fn.ok scheard (fun vs H Q E h => ?_) (fun cdv A outer s H vs Q E hr h => ?_)
  · obtain ⟨a, n, ws, ns, rfl, _⟩ := h
    rfl
  · obtain ⟨a, n, ws, ns, rfl, ta, tn, hn, h8, k⟩ := h
    obtain ⟨a', xs, e, ha, hl⟩ := ta.tupI
    cases e
    obtain ⟨n', ys, e, hnn, hln⟩ := tn.tupI
    cases e
    have hxl := hl.lenM
    have hyl := hln.lenM
    refine ⟨_, (pss_cons (ps_set (i := 2) scheard.nd rfl (Or.inl rfl) (pe_callTy call_list_of rfl T.z_list boot_list (pa_cN (pv 0) pa_nil)))
      (pss_cons (ps_for PassesOwn.never rfl (pi_tup (pv 1)) (pg_tup rfl (pgs_cons (pg_name (i := 3) scheard.nd rfl (Or.inl rfl)) (pgs_cons (pg_name (i := 4) scheard.nd rfl (Or.inl rfl)) pgs_nil)))
        (pss_one (ps_if (pt_val (pcall Dnewer Gnewer (hr.mono (by decide)) (pa_cN (pv 4) (pa_cS (pe_ix ix_list (pv 2) (pv 3) (fun _ _ => rfl)) pa_nil))))
          (pss_one (ps_asg (pv 4) (pg_sub (pv 2) (pv 3) set_list)))
          pss_nil)))
      (pss_one (ps_ret (pe_callTy call_tuple_of rfl T.z_tuple boot_tuple (pa_cN (pv 2) pa_nil)))))), ?_⟩
    and_intros
    refine ⟨.inr (SqT.of ha), fun l hll => ?_⟩
    have S0 := H1.Same.upd (o := .lst xs) hll
    have L0 : upd H l (.lst xs) l = some (.lst xs) := upd_same
    generalize upd H l (.lst xs) = Ha at *
    and_intros
    refine ⟨⟨_, SqT.of (S0 _ _ hnn)⟩, for_tup (K := K) (a := n) (xs := ys) (fun i σ H' => ∃ (v3 v4 : Option V) (zs : List V), σ = [some (.ref a), some (.ref n), some (.ref l), v3, v4] ∧ Same H H' ∧ H' l = some (.lst zs) ∧ TrL H' zs ((heardL ws (ns.take i)).map wordD))
      ⟨none, none, xs, rfl, S0, L0, hl.same S0⟩ (fun _ _ _ _ ⟨_, _, _, _, sc, _⟩ => SqT.of (sc _ _ hnn)) ?_ ?_⟩
    · rintro i v σ H' hv ⟨v3, v4, zs, rfl, S1, L1, tz⟩
      obtain ⟨nt, hnt, tv⟩ := hln.getM hv
      obtain ⟨q, x, rfl, hq, tx⟩ := tv.noteI
      have hlt : nt.1 < zs.length := by
        rw [tz.lenM, heardL_len]
        exact hn nt (List.mem_of_getElem? hnt)
      have hz : zs[nt.1]? = some zs[nt.1] := List.getElem?_eq_getElem hlt
      obtain ⟨w, hw, tw⟩ := tz.getM hz
      have tx1 := tx.same S1
      have et : heardL ws (ns.take (i + 1)) = stepW (heardL ws (ns.take i)) nt := by
        unfold heardL
        rw [List.take_add_one, hnt, List.foldl_append]
        rfl
      have eg : (heardL ws (ns.take i)).getD nt.1 (0, 0) = w := by rw [List.getD_eq_getElem?_getD, hw]; rfl
      have S2 : ∀ o, Same H (upd H' l o) := fun o a' u e => by rw [upd_ne (ne_of_none e hll)]; exact S1 a' u e
      have yes : gtW nt.2 w = true → TrL (upd H' l (.lst (zs.set nt.1 x))) (zs.set nt.1 x) ((heardL ws (ns.take (i + 1))).map wordD) := fun c => by
        have e2 : stepW (heardL ws (ns.take i)) nt = (heardL ws (ns.take i)).set nt.1 nt.2 := by unfold stepW; rw [eg, if_pos c]
        rw [et, e2]
        exact (tz.setM nt.1 tx1).mono fun a' us e => by rw [upd_ne (ne_of e L1 (by intro z; cases z))]; exact e
      have no : ¬ gtW nt.2 w = true → TrL H' zs ((heardL ws (ns.take (i + 1))).map wordD) := fun c => by
        have e2 : stepW (heardL ws (ns.take i)) nt = heardL ws (ns.take i) := by unfold stepW; rw [eg, if_neg c]
        rw [et, e2]
        exact tz
      have hix : ixN zs.length (nt.1 : Int) = some nt.1 := by
        unfold ixN
        rw [if_pos (by omega), if_pos (by omega)]
        rfl
      and_intros
      refine ⟨SqT.of (S1 _ _ hq), ?_⟩
      and_intros
      refine ⟨SqL.of L1, atI_nat hz, ?_⟩
      and_intros
      refine ⟨tx1, tw, ?_⟩
      and_intros
      refine ite2 (fun c => ?_) (fun c => ?_)
      · and_intros
        refine ⟨L1, hix, ?_⟩
        and_intros
        exact ⟨S2 _, upd_same, yes c⟩
      · exact ⟨_, _, _, rfl, S1, L1, no c⟩
    · rintro σ H' ⟨v3, v4, zs, rfl, S1, L1, tz⟩
      rw [hyl, List.take_length] at tz
      refine ⟨_, rfl, l, zs, rfl, .inl ⟨SqL.of L1, fun t ht => ?_⟩⟩
      have S2 := H1.Same.upd (o := .tup zs) ht
      exact k t _ (L2.Same.trans S1 S2) (.tup upd_same (tz.same S2))
theorem scput : FnScope ["things", "place", "thing"] ["things", "place", "thing"] (defScope (top 1)) := ⟨rfl, rfl, rfl, by decide +kernel, rfl, by decide +kernel, by decide +kernel⟩
theorem ok_put {f : Addr} {fd : FuncData} (D : Def K mg "put" (top 1) ["things", "place", "thing"] f fd) (T : Txt mg) : FnOk P w K mg base CX0 1 f fd ["things", "place", "thing"] spPut := by
  refine D.fn.ok scput (fun vs H Q E h => ?_) (fun cdv A outer s H vs Q E hr h => ?_)
  · obtain ⟨a, k, i, x, xs, rfl, _⟩ := h
    rfl
  · obtain ⟨a, k, i, x, xs, rfl, ha, ⟨rfl, hi, h100⟩, q⟩ := h
    refine ⟨_, (pss_one (ps_ret (pe_op op_catS (pe_op op_catS (pe_slice sl_tupS (pv 0) po_none (po_some (pv 1))) (pe_tup (pa_cN (pv 2) pa_nil))) (pe_slice sl_tupS (pv 0) (po_some (pe_op op_add (pv 1) pe_int)) po_none)))), ?_⟩
    and_intros
    refine ⟨ha, fun p1 H1' S1 P1 => ?_⟩
    rw [cut_take (Nat.le_of_lt hi)] at P1
    and_intros
    refine ⟨szl 1, fun p2 hp2 => ?_⟩
    have S2 := H1.Same.upd (o := .tup [x]) hp2
    have P2 : upd H1' p2 (.tup [x]) p2 = some (.tup [x]) := upd_same
    generalize upd H1' p2 (.tup [x]) = H2 at *
    and_intros
    refine ⟨S2 _ _ P1, P2, by rw [List.length_take]; show _ + 1 ≤ 1000; omega, fun p3 H3 S3 P3 => ?_⟩
    have S13 := L2.Same.trans S1 (L2.Same.trans S2 S3)
    and_intros
    refine ⟨S13 _ _ ha, fun p4 H4 S4 P4 => ?_⟩
    have P4' : H4 p4 = some (.tup (xs.drop (i + 1))) := by
      rw [← cut_drop (Nat.succ_le_of_lt hi)]
      exact P4
    and_intros
    refine ⟨S4 _ _ P3, P4', by rw [List.length_append, List.length_take, List.length_drop]; show _ + 1 + _ ≤ 1000; omega, fun p5 H5 S5 P5 => ?_⟩
    rw [set_parts hi] at P5
    exact q p5 H5 (L2.Same.trans S13 (L2.Same.trans S4 S5)) P5
theorem scgives_way : FnScope ["rules", "old", "word"] ["rules", "old", "word"] (defScope (top 11)) := ⟨rfl, rfl, rfl, by decide +kernel, rfl, by decide +kernel, by decide +kernel⟩
theorem ok_gives {f : Addr} {fd : FuncData} (D : Def K mg "gives_way" (top 11) ["rules", "old", "word"] f fd) (T : Txt mg) {fnewer : Addr} {fdnewer : FuncData} (Dnewer : Def K mg "newer" (top 5) ["one", "other"] fnewer fdnewer) : FnOk P w K mg base CX0 2 f fd ["rules", "old", "word"] spGives := by
  have Gnewer : FnOk P w K mg base CX0 1 fnewer fdnewer ["one", "other"] spNewer := ok_newer Dnewer T
  refine D.fn.ok scgives_way (fun vs H Q E h => ?_) (fun cdv A outer s H vs Q E hr h => ?_)
  · obtain ⟨x, y, z, r, a, b, rfl, _⟩ := h
    rfl
  · obtain ⟨x, y, z, r, a, b, rfl, tx, ty, tz, ⟨fa, fb⟩, q⟩ := h
    obtain ⟨rq, cq, rfl, hr1, hc1⟩ := tx.ruI
    unfold givesW at q
    refine ⟨_, (pss_cons (ps_if (pt_cmpR op_in_seq pe_str (pe_ix ix_tup (pv 0) pe_int (fun _ _ => rfl)) (by with_unfolding_all rfl))
        (pss_one (ps_ret (pcall Dnewer Gnewer (hr.mono (by decide)) (pa_cN (pv 2) (pa_cN (pv 1) pa_nil)))))
        pss_nil)
      (pss_one (ps_ret (pe_cmpR (op_neD hr.units) (pv 2) (pv 1) (nomark _))))), ?_⟩
    and_intros
    refine ⟨SqT.of hr1, ?_⟩
    and_intros
    refine ⟨.inr (SqT.of hc1), rfl, flat_strs _, ?_⟩
    and_intros
    refine ite2 (fun c => ?_) (fun c => ?_)
    · have c' : hasC r.cl "newer" = true := c
      rw [if_pos c'] at q
      and_intros
      exact ⟨tz, ty, q⟩
    · have c' : ¬ hasC r.cl "newer" = true := c
      rw [if_neg c', ← eqv_word] at q
      and_intros
      exact ⟨tz, ty, ⟨_, fb.mono (by decide) (Nat.le_refl _)⟩, ⟨_, fa.mono (by decide) (Nat.le_refl _)⟩, q⟩
theorem screfuted : FnScope ["rules", "house", "y", "word", "up", "book", "told", "timers", "number", "mark"] ["rules", "house", "y", "word"] (defScope (top 9)) := ⟨rfl, rfl, rfl, by decide +kernel, rfl, by decide +kernel, by decide +kernel⟩
theorem ok_ref {f : Addr} {fd : FuncData} (D : Def K mg "refuted" (top 9) ["rules", "house", "y", "word"] f fd) (T : Txt mg) {fput : Addr} {fdput : FuncData} (Dput : Def K mg "put" (top 1) ["things", "place", "thing"] fput fdput) {fnewer : Addr} {fdnewer : FuncData} (Dnewer : Def K mg "newer" (top 5) ["one", "other"] fnewer fdnewer) : FnOk P w K mg base CX0 2 f fd ["rules", "house", "y", "word"] spRef := by
  have Gput : FnOk P w K mg base CX0 1 fput fdput ["things", "place", "thing"] spPut := ok_put Dput T
  have Gnewer : FnOk P w K mg base CX0 1 fnewer fdnewer ["one", "other"] spNewer := ok_newer Dnewer T
  refine D.fn.ok screfuted (fun vs H Q E h => ?_) (fun cdv A outer s H vs Q E hr h => ?_)
  · obtain ⟨x, y, z, k, i, n, r, h, w, rfl, _⟩ := h
    rfl
  · obtain ⟨x, y, z, k, i, n, r, h, w, rfl, tx, ty, tz, ⟨rfl, hi, hn⟩, hw, q⟩ := h
    obtain ⟨rq, cq, rfl, hr1, hc1⟩ := tx.ruI
    obtain ⟨hq, bq, tq, mq, rfl, hh, tb, tt, tm⟩ := ty.houseI
    obtain ⟨wq, rfl, hwq⟩ := tz.wordI
    obtain ⟨_, xs, e, hb, tbl⟩ := tb.tupI
    cases e
    obtain ⟨_, us, e, ht, ttl⟩ := tt.tupI
    cases e
    have hxl := tbl.lenM
    have hul := ttl.lenM
    have hwb := hw.bl
    have hwt := hw.tl
    have hix : xs[i]? = some xs[i] := List.getElem?_eq_getElem (by omega)
    obtain ⟨ow, how, tow⟩ := tbl.getM hix
    have eg : h.2.1.getD i (0, 0) = ow := getD_of how
    have no : ¬ (h.1 = 1 ∧ hasC r.cl "refute" = true ∧ gtW w (h.2.1.getD i (0, 0)) = true) → Q (.ref hq) H := fun c => by
      refine q hq H (Same.refl H) ?_
      unfold refH
      rw [if_neg c]
      exact ty
    refine ⟨_, (pss_cons (ps_asg (pv 1) (pg_tup rfl (pgs_cons (pg_name (i := 4) screfuted.nd rfl (Or.inl rfl)) (pgs_cons (pg_name (i := 5) screfuted.nd rfl (Or.inl rfl)) (pgs_cons (pg_name (i := 6) screfuted.nd rfl (Or.inl rfl)) (pgs_cons (pg_name (i := 7) screfuted.nd rfl (Or.inl rfl)) pgs_nil))))))
      (pss_cons (ps_if (PW.pt (pw_and (pt_cmpR op_eq (pv 4) pe_int (nomark _)) (pw_and (pt_cmpR op_in_seq pe_str (pe_ix ix_tup (pv 0) pe_int (fun _ _ => rfl)) (by with_unfolding_all rfl)) (pw_and1 (pt_val (pcall Dnewer Gnewer (hr.mono (by decide)) (pa_cN (pv 3) (pa_cS (pe_ix ix_tup (pv 5) (pv 2) (fun _ _ => rfl)) pa_nil))))))))
        (pss_cons (ps_asg (pv 3) (pg_tup rfl (pgs_cons (pg_name (i := 8) screfuted.nd rfl (Or.inl rfl)) (pgs_cons (pg_name (i := 9) screfuted.nd rfl (Or.inl rfl)) pgs_nil))))
        (pss_one (ps_ret (pe_tup (pa_cN (pv 4) (pa_cF (pcall Dput Gput (hr.mono (by decide)) (pa_cN (pv 5) (pa_cN (pv 2) (pa_cT (pe_tup (pa_cB (pe_op op_add (pv 8) pe_int) (pa_cN (pe_globI rfl T.g_ALIVE) pa_nil))) pa_nil)))) (pa_cF (pcall Dput Gput (hr.mono (by decide)) (pa_cN (pv 6) (pa_cN (pv 2) (pa_cC pe_int pa_nil)))) (pa_cN (pv 7) pa_nil))))))))
        pss_nil)
      (pss_one (ps_ret (pv 1))))), ?_⟩
    and_intros
    refine ⟨SqT.of hh, ?_⟩
    and_intros
    refine ite2 (fun c1 => ?_) (fun c1 => ?_)
    · have c1' : h.1 = 1 := by simpa using c1
      and_intros
      refine ⟨SqT.of hr1, ?_⟩
      and_intros
      refine ⟨.inr (SqT.of hc1), rfl, flat_strs _, ?_⟩
      and_intros
      refine ite2 (fun c2 => ?_) (fun c2 => ?_)
      · have c2' : hasC r.cl "refute" = true := c2
        refine ⟨_, rfl, _, rfl, _, rfl, bq, _, _, _, rfl, rfl, SqT.of hb, atI_nat hix, ?_⟩
        and_intros
        refine ⟨tz, tow, ?_⟩
        and_intros
        refine ite2 (fun c3 => ?_) (fun c3 => ?_)
        · have c3' : gtW w (h.2.1.getD i (0, 0)) = true := by rw [eg]; exact c3
          have er : refH r.cl h i w = (h.1, h.2.1.set i (w.1 + 1, 0), h.2.2.1.set i 0, h.2.2.2) := by
            unfold refH
            rw [if_pos ⟨c1', c2', c3'⟩]
          and_intros
          refine ⟨SqT.of hwq, ?_⟩
          and_intros
          refine ⟨szl 2, fun p1 hp1 => ?_⟩
          have S1 := H1.Same.upd (o := .tup [.int (w.1 + 1), .int 0]) hp1
          have P1 : upd H p1 (.tup [.int (w.1 + 1), .int 0]) p1 = some (.tup [.int (w.1 + 1), .int 0]) := upd_same
          generalize upd H p1 (.tup [.int (w.1 + 1), .int 0]) = Ha at *
          and_intros
          refine ⟨S1 _ _ hb, ⟨rfl, by omega, by omega⟩, fun r1 Hb S2 R1 => ?_⟩
          have S12 := L2.Same.trans S1 S2
          and_intros
          refine ⟨S12 _ _ ht, ⟨rfl, by omega, by omega⟩, fun r2 Hc S3 R2 => ?_⟩
          have S13 := L2.Same.trans S12 S3
          and_intros
          refine ⟨szl 4, fun p2 hp2 => ?_⟩
          have S4 := H1.Same.upd (o := .tup [.int h.1, .ref r1, .ref r2, .ref mq]) hp2
          have P4 : upd Hc p2 (.tup [.int h.1, .ref r1, .ref r2, .ref mq]) p2 = some (.tup [.int h.1, .ref r1, .ref r2, .ref mq]) := upd_same
          generalize upd Hc p2 (.tup [.int h.1, .ref r1, .ref r2, .ref mq]) = Hd at *
          have S14 := L2.Same.trans S13 S4
          refine q p2 Hd S14 ?_
          rw [er]
          refine .tup P4 (.cons (.int _) (.cons (.tup (S4 _ _ (S3 _ _ R1)) ?_) (.cons (.tup (S4 _ _ R2) ?_) (.cons (tm.same S14) .nil))))
          · exact (tbl.same S14).setM i (Tr.wordM (S4 _ _ (S3 _ _ (S2 _ _ P1))))
          · exact (ttl.same S14).setI i 0
        · and_intros
          refine no fun z => c3 ?_
          rw [← eg]
          exact z.2.2
      · and_intros
        exact no fun z => c2 z.2.1
    · and_intros
      exact no fun z => c1 (by simpa using z.1)
theorem scnoted : FnScope ["rules", "house", "about", "word", "up", "book", "told", "timers", "number", "mark"] ["rules", "house", "about", "word"] (defScope (top 10)) := ⟨rfl, rfl, rfl, by decide +kernel, rfl, by decide +kernel, by decide +kernel⟩
theorem ok_not {f : Addr} {fd : FuncData} (D : Def K mg "noted" (top 10) ["rules", "house", "about", "word"] f fd) (T : Txt mg) {fput : Addr} {fdput : FuncData} (Dput : Def K mg "put" (top 1) ["things", "place", "thing"] fput fdput) {fnewer : Addr} {fdnewer : FuncData} (Dnewer : Def K mg "newer" (top 5) ["one", "other"] fnewer fdnewer) {fgives_way : Addr} {fdgives_way : FuncData} (Dgives_way : Def K mg "gives_way" (top 11) ["rules", "old", "word"] fgives_way fdgives_way) : FnOk P w K mg base CX0 3 f fd ["rules", "house", "about", "word"] spNot := by
  have Gput : FnOk P w K mg base CX0 1 fput fdput ["things", "place", "thing"] spPut := ok_put Dput T
  have Gnewer : FnOk P w K mg base CX0 1 fnewer fdnewer ["one", "other"] spNewer := ok_newer Dnewer T
  have Ggives_way : FnOk P w K mg base CX0 2 fgives_way fdgives_way ["rules", "old", "word"] spGives := ok_gives Dgives_way T Dnewer
  refine D.fn.ok scnoted (fun vs H Q E h => ?_) (fun cdv A outer s H vs Q E hr h => ?_)
  · obtain ⟨x, y, z, k, i, n, r, h, w, rfl, _⟩ := h
    rfl
  · obtain ⟨x, y, z, k, i, n, r, h, w, rfl, tx, ty, tz, ⟨rfl, hi, hn⟩, ⟨hw, fw⟩, q⟩ := h
    obtain ⟨hq, bq, tq, mq, rfl, hh, tb, tt, tm⟩ := ty.houseI
    obtain ⟨wq, rfl, hwq⟩ := tz.wordI
    obtain ⟨_, xs, e, hb, tbl⟩ := tb.tupI
    cases e
    obtain ⟨_, us, e, ht, ttl⟩ := tt.tupI
    cases e
    obtain ⟨_, ms, e, hm, tml⟩ := tm.tupI
    cases e
    have hxl := tbl.lenM
    have hul := ttl.lenM
    have hml := tml.lenM
    have hwb := hw.bl
    have hwt := hw.tl
    have hwm := hw.ml
    have hix : xs[i]? = some xs[i] := List.getElem?_eq_getElem (by omega)
    obtain ⟨ow, how, tow⟩ := tbl.getM hix
    have eg : h.2.1.getD i (0, 0) = ow := getD_of how
    have fow := wfine (hw.bs ow (List.mem_of_getElem? how))
    refine ⟨_, (pss_cons (ps_asg (pv 1) (pg_tup rfl (pgs_cons (pg_name (i := 4) scnoted.nd rfl (Or.inl rfl)) (pgs_cons (pg_name (i := 5) scnoted.nd rfl (Or.inl rfl)) (pgs_cons (pg_name (i := 6) scnoted.nd rfl (Or.inl rfl)) (pgs_cons (pg_name (i := 7) scnoted.nd rfl (Or.inl rfl)) pgs_nil))))))
      (pss_cons (ps_if (pt_not (pt_val (pcall Dgives_way Ggives_way (hr.mono (by decide)) (pa_cN (pv 0) (pa_cS (pe_ix ix_tup (pv 5) (pv 2) (fun _ _ => rfl)) (pa_cN (pv 3) pa_nil))))))
        (pss_one (ps_ret (pv 1)))
        pss_nil)
      (pss_cons (ps_asg (pv 3) (pg_tup rfl (pgs_cons (pg_name (i := 8) scnoted.nd rfl (Or.inl rfl)) (pgs_cons (pg_name (i := 9) scnoted.nd rfl (Or.inl rfl)) pgs_nil))))
      (pss_cons (ps_if (pt_cmpR op_ne (pv 9) (pe_globI rfl T.g_SUSPECT) (nomark _))
        (pss_one (ps_set (i := 7) scnoted.nd rfl (Or.inl rfl) (pcall Dput Gput (hr.mono (by decide)) (pa_cN (pv 7) (pa_cN (pv 2) (pa_cC pe_int pa_nil))))))
        pss_nil)
      (pss_one (ps_ret (pe_tup (pa_cN (pv 4) (pa_cF (pcall Dput Gput (hr.mono (by decide)) (pa_cN (pv 5) (pa_cN (pv 2) (pa_cN (pv 3) pa_nil)))) (pa_cF (pcall Dput Gput (hr.mono (by decide)) (pa_cN (pv 6) (pa_cN (pv 2) (pa_cC pe_int pa_nil)))) (pa_cN (pv 7) pa_nil))))))))))), ?_⟩
    and_intros
    refine ⟨SqT.of hh, ?_⟩
    and_intros
    refine ⟨SqT.of hb, atI_nat hix, ?_⟩
    and_intros
    refine ⟨r, _, _, rfl, tx, tow, tz, ⟨fow, fw⟩, ?_⟩
    and_intros
    refine ite2 (fun c => ?_) (fun c => ?_)
    · have c' : ¬ givesW r.cl (h.2.1.getD i (0, 0)) w = true := by rw [eg]; simpa using c
      and_intros
      refine q hq H (Same.refl H) ?_
      unfold notH
      rw [if_neg c']
      exact ty
    · have c' : givesW r.cl (h.2.1.getD i (0, 0)) w = true := by rw [eg]; simpa using c
      and_intros
      refine ⟨SqT.of hwq, ?_⟩
      and_intros
      refine ite2 (fun d => ?_) (fun d => ?_)
      · have d' : ¬ w.2 = 1 := by simpa using d
        have er : notH r.cl h i w = (h.1, h.2.1.set i w, h.2.2.1.set i 0, h.2.2.2.set i 0) := by
          unfold notH
          rw [if_pos c', if_neg d']
        and_intros
        refine ⟨hm, ⟨rfl, by omega, by omega⟩, fun r0 Ha S1 R0 => ?_⟩
        and_intros
        refine ⟨S1 _ _ hb, ⟨rfl, by omega, by omega⟩, fun r1 Hb S2 R1 => ?_⟩
        have S12 := L2.Same.trans S1 S2
        and_intros
        refine ⟨S12 _ _ ht, ⟨rfl, by omega, by omega⟩, fun r2 Hc S3 R2 => ?_⟩
        have S13 := L2.Same.trans S12 S3
        and_intros
        refine ⟨szl 4, fun p2 hp2 => ?_⟩
        have S4 := H1.Same.upd (o := .tup [.int h.1, .ref r1, .ref r2, .ref r0]) hp2
        have P4 : upd Hc p2 (.tup [.int h.1, .ref r1, .ref r2, .ref r0]) p2 = some (.tup [.int h.1, .ref r1, .ref r2, .ref r0]) := upd_same
        generalize upd Hc p2 (.tup [.int h.1, .ref r1, .ref r2, .ref r0]) = Hd at *
        have S14 := L2.Same.trans S13 S4
        refine q p2 Hd S14 ?_
        rw [er]
        refine .tup P4 (.cons (.int _) (.cons (.tup (S4 _ _ (S3 _ _ R1)) ?_) (.cons (.tup (S4 _ _ R2) ?_) (.cons (.tup (S4 _ _ (S3 _ _ (S2 _ _ R0))) ?_) .nil))))
        · exact (tbl.same S14).setM i (tz.same S14)
        · exact (ttl.same S14).setI i 0
        · exact (tml.same S14).setI i 0
      · have d' : w.2 = 1 := by simpa using d
        have er : notH r.cl h i w = (h.1, h.2.1.set i w, h.2.2.1.set i 0, h.2.2.2) := by
          unfold notH
          rw [if_pos c', if_pos d']
        and_intros
        refine ⟨hb, ⟨rfl, by omega, by omega⟩, fun r1 Hb S2 R1 => ?_⟩
        and_intros
        refine ⟨S2 _ _ ht, ⟨rfl, by omega, by omega⟩, fun r2 Hc S3 R2 => ?_⟩
        have S13 := L2.Same.trans S2 S3
        and_intros
        refine ⟨szl 4, fun p2 hp2 => ?_⟩
        have S4 := H1.Same.upd (o := .tup [.int h.1, .ref r1, .ref r2, .ref mq]) hp2
        have P4 : upd Hc p2 (.tup [.int h.1, .ref r1, .ref r2, .ref mq]) p2 = some (.tup [.int h.1, .ref r1, .ref r2, .ref mq]) := upd_same
        generalize upd Hc p2 (.tup [.int h.1, .ref r1, .ref r2, .ref mq]) = Hd at *
        have S14 := L2.Same.trans S13 S4
        refine q p2 Hd S14 ?_
        rw [er]
        refine .tup P4 (.cons (.int _) (.cons (.tup (S4 _ _ (S3 _ _ R1)) ?_) (.cons (.tup (S4 _ _ R2) ?_) (.cons (tm.same S14) .nil))))
        · exact (tbl.same S14).setM i (tz.same S14)
        · exact (ttl.same S14).setI i 0
theorem sctaken : FnScope ["rules", "house", "y", "notes", "about", "word"] ["rules", "house", "y", "notes"] (defScope (top 8)) := ⟨rfl, rfl, rfl, by decide +kernel, rfl, by decide +kernel, by decide +kernel⟩
theorem ok_taken {f : Addr} {fd : FuncData} (D : Def K mg "taken" (top 8) ["rules", "house", "y", "notes"] f fd) (T : Txt mg) {fput : Addr} {fdput : FuncData} (Dput : Def K mg "put" (top 1) ["things", "place", "thing"] fput fdput) {fnewer : Addr} {fdnewer : FuncData} (Dnewer : Def K mg "newer" (top 5) ["one", "other"] fnewer fdnewer) {frefuted : Addr} {fdrefuted : FuncData} (Drefuted : Def K mg "refuted" (top 9) ["rules", "house", "y", "word"] frefuted fdrefuted) {fnoted : Addr} {fdnoted : FuncData} (Dnoted : Def K mg "noted" (top 10) ["rules", "house", "about", "word"] fnoted fdnoted) {fgives_way : Addr} {fdgives_way : FuncData} (Dgives_way : Def K mg "gives_way" (top 11) ["rules", "old", "word"] fgives_way fdgives_way) : FnOk P w K mg base CX0 4 f fd ["rules", "house", "y", "notes"] spTaken := by
  have Gput : FnOk P w K mg base CX0 1 fput fdput ["things", "place", "thing"] spPut := ok_put Dput T
  have Gnewer : FnOk P w K mg base CX0 1 fnewer fdnewer ["one", "other"] spNewer := ok_newer Dnewer T
  have Grefuted : FnOk P w K mg base CX0 2 frefuted fdrefuted ["rules", "house", "y", "word"] spRef := ok_ref Drefuted T Dput Dnewer
  have Gnoted : FnOk P w K mg base CX0 3 fnoted fdnoted ["rules", "house", "about", "word"] spNot := ok_not Dnoted T Dput Dnewer Dgives_way
  have Ggives_way : FnOk P w K mg base CX0 2 fgives_way fdgives_way ["rules", "old", "word"] spGives := ok_gives Dgives_way T Dnewer
  refine D.fn.ok sctaken (fun vs H Q E h => ?_) (fun cdv A outer s H vs Q E hr h => ?_)
  · obtain ⟨x, y, z, k, i, n, r, h, ns, rfl, _⟩ := h
    rfl
  · obtain ⟨x, y, z, k, i, n, r, h, ns, rfl, tx, ty, tz, ⟨rfl, hi, hn⟩, ⟨hw, h100, hns⟩, q⟩ := h
    obtain ⟨a, xs, rfl, ha, tl⟩ := tz.tupI
    have hxl := tl.lenM
    obtain ⟨yq, rfl⟩ := Tr.ref ty
    refine ⟨_, (pss_cons (ps_for PassesOwn.never rfl (pi_tup (pv 3)) (pg_tup rfl (pgs_cons (pg_name (i := 4) sctaken.nd rfl (Or.inl rfl)) (pgs_cons (pg_name (i := 5) sctaken.nd rfl (Or.inl rfl)) pgs_nil)))
        (pss_one (ps_if (pt_cmpR op_eq (pv 4) (pv 2) (nomark _))
          (pss_one (ps_set (i := 1) sctaken.nd rfl (Or.inl rfl) (pcall Drefuted Grefuted (hr.mono (by decide)) (pa_cN (pv 0) (pa_cN (pv 1) (pa_cN (pv 2) (pa_cN (pv 5) pa_nil)))))))
          (pss_one (ps_set (i := 1) sctaken.nd rfl (Or.inl rfl) (pcall Dnoted Gnoted (hr.mono (by decide)) (pa_cN (pv 0) (pa_cN (pv 1) (pa_cN (pv 4) (pa_cN (pv 5) pa_nil))))))))))
      (pss_one (ps_ret (pv 1)))), ?_⟩
    and_intros
    refine ⟨⟨_, SqT.of ha⟩, for_tup (K := K) (a := a) (xs := xs) (fun j σ Hx => ∃ (v4 v5 : Option V) (q : Addr), σ = [some x, some (.ref q), some (.int (i : Int)), some (.ref a), v4, v5] ∧ Same H Hx ∧ Tr Hx (.ref q) (houseD (takenH r.cl i h (ns.take j))))
      ⟨none, none, yq, rfl, Same.refl H, ty⟩ (fun _ _ _ _ ⟨_, _, _, _, sc, _⟩ => SqT.of (sc _ _ ha)) ?_ ?_⟩
    · rintro j v σ Hx hv ⟨v4, v5, q1, rfl, Sx, th⟩
      obtain ⟨nt, hnt, tv⟩ := tl.getM hv
      obtain ⟨nq, wv, rfl, hnq, tw⟩ := tv.noteI
      have nw := hns nt (List.mem_of_getElem? hnt)
      have hwj : HW n (takenH r.cl i h (ns.take j)) := takenH_ok hw fun z hz => hns z (List.mem_of_mem_take hz)
      have et := takenH_take (cl := r.cl) (y := i) (h := h) hnt
      have fw : Fine (wordD nt.2) 1 33 := wfine ⟨nw.2.1, by have := nw.2.2.1; omega, nw.2.2.2.1, nw.2.2.2.2⟩
      and_intros
      refine ⟨SqT.of (Sx _ _ hnq), ?_⟩
      and_intros
      refine ite2 (fun c => ?_) (fun c => ?_)
      · have c' : nt.1 = i := by
          have : (nt.1 : Int) = (i : Int) := by simpa using c
          omega
        and_intros
        refine ⟨r, _, _, rfl, tx.same Sx, th, tw.same Sx, ⟨rfl, hi, hn⟩, hwj, fun q2 Hy Sy t2 => ?_⟩
        refine ⟨_, _, q2, rfl, L2.Same.trans Sx Sy, ?_⟩
        rw [et]
        unfold noteH
        rw [if_pos c']
        exact t2
      · have c' : ¬ nt.1 = i := by
          have : ¬ (nt.1 : Int) = (i : Int) := by simpa using c
          omega
        and_intros
        refine ⟨r, _, _, rfl, tx.same Sx, th, tw.same Sx, ⟨rfl, nw.1, hn⟩, ⟨hwj, fw⟩, fun q2 Hy Sy t2 => ?_⟩
        refine ⟨_, _, q2, rfl, L2.Same.trans Sx Sy, ?_⟩
        rw [et]
        unfold noteH
        rw [if_neg c']
        exact t2
    · rintro σ Hx ⟨v4, v5, q1, rfl, Sx, th⟩
      rw [hxl, List.take_length] at th
      and_intros
      exact q q1 Hx Sx th
theorem sc_law_box : FnScope ["_law_script", "_law_k", "_law_cell"] ["_law_script", "_law_k"] (defScope (top 13)) := ⟨rfl, rfl, rfl, by decide +kernel, rfl, by decide +kernel, by decide +kernel⟩
theorem ok_box {f : Addr} {fd : FuncData} (D : Def K mg "_law_box" (top 13) ["_law_script", "_law_k"] f fd) (T : Txt mg) : FnOk P w K mg base CX0 1 f fd ["_law_script", "_law_k"] (spBox K) := by
  refine D.fn.ok sc_law_box (fun vs H Q E h => ?_) (fun cdv A outer s H vs Q E hr h => ?_)
  · obtain ⟨a, k, ns, rfl, _⟩ := h
    rfl
  · obtain ⟨a, k, ns, rfl, hS, h0, h1, kq⟩ := h
    refine ⟨_, (pss_cons (ps_set (i := 2) sc_law_box.nd rfl (Or.inl rfl) pe_int)
      (pss_cons (ps_if (pt_cmpR op_lt (pv 1) (pe_callB call_len_seq rfl T.z_len boot_len (pa_cN (pv 0) pa_nil)) (nomark _))
        (pss_one (ps_set (i := 2) sc_law_box.nd rfl (Or.inl rfl) (pe_ix ix_list (pv 0) (pv 1) (fun _ _ => rfl))))
        pss_nil)
      (pss_one (ps_ret (pe_lst (pa_cB (pe_op op_mul (pe_op op_mod (pe_callB call_abs rfl T.z_abs boot_abs (pa_cN (pv 2) pa_nil)) (pe_op op_pow pe_int pe_int)) (pe_callTy call_int1 rfl T.z_int boot_int (pa_cons (pe_cmpR op_ge (pe_callB call_abs rfl T.z_abs boot_abs (pa_cN (pv 2) pa_nil)) (pe_op op_pow pe_int pe_int) (nomark _)) pa_nil))) (pa_cB (pe_op op_mod (pe_op op_add (pe_op op_add (pv 2) (pe_op op_mul (pe_op op_mul pe_int (pv 1)) (pv 1))) (pe_op op_mul pe_int (pv 1))) pe_int) (pa_cC pe_int pa_nil)))))))), ?_⟩
    have fin : ∀ (c : Int) (p : Addr), H p = none → Q (.ref p) (upd H p (.lst [.int ((if c < 0 then -c else c) % 10 ^ (60 : Int).toNat * (if decide ((10 : Int) ^ (18 : Int).toNat ≤ (if c < 0 then -c else c)) = true then 1 else 0)), .int ((c + 613 * k * k + 29 * k) % 2147483647), .int 0])) := fun c p hp => by
      refine kq p _ hp (H1.Same.upd hp) ⟨_, upd_same, _, _, _, rfl, ?_, ?_, ?_⟩
      · refine Int.mul_nonneg (Int.emod_nonneg _ (by decide)) ?_
        exact ib0 _
      · exact Int.emod_nonneg _ (by decide)
      · exact Int.emod_lt_of_pos _ (by decide)
    and_intros
    refine ⟨.inl hS, ?_⟩
    and_intros
    refine ite2 (fun hk => ?_) (fun hk => ?_)
    · have hk' := of_decide_eq_true hk
      rw [List.length_map] at hk'
      have hn : k.toNat < ns.length := by omega
      have hz := atI_int h0 hn
      refine ⟨_, rfl, _, rfl, a, _, _, _, rfl, rfl, hS, hz, ?_⟩
      and_intros
      refine ⟨⟨by decide, by decide, by decide⟩, ?_⟩
      and_intros
      refine ⟨by show (0 : Int) < 10 ^ (60 : Int).toNat; decide, ?_⟩
      and_intros
      refine ⟨⟨by decide, by decide, by decide⟩, ?_⟩
      and_intros
      refine .inr ⟨_, rfl, ?_⟩
      and_intros
      refine ⟨.inr (ib1 _), ?_⟩
      and_intros
      refine ⟨.inl ⟨by decide, by decide⟩, ?_⟩
      and_intros
      refine ⟨.inr ⟨by omega, by omega⟩, ?_⟩
      and_intros
      refine ⟨.inl ⟨by decide, by decide⟩, ?_⟩
      and_intros
      refine ⟨by show (0 : Int) < 2147483647; decide, ?_⟩
      and_intros
      refine ⟨szl 3, fun p hp => ?_⟩
      exact fin _ p hp
    · and_intros
      refine ⟨⟨by decide, by decide, by decide⟩, ?_⟩
      and_intros
      refine ⟨by show (0 : Int) < 10 ^ (60 : Int).toNat; decide, ?_⟩
      and_intros
      refine ⟨⟨by decide, by decide, by decide⟩, ?_⟩
      and_intros
      refine .inr ⟨_, rfl, ?_⟩
      and_intros
      refine ⟨.inr (ib1 _), ?_⟩
      and_intros
      refine ⟨.inl ⟨by decide, by decide⟩, ?_⟩
      and_intros
      refine ⟨.inr ⟨by omega, by omega⟩, ?_⟩
      and_intros
      refine ⟨.inl ⟨by decide, by decide⟩, ?_⟩
      and_intros
      refine ⟨by show (0 : Int) < 2147483647; decide, ?_⟩
      and_intros
      refine ⟨szl 3, fun p hp => ?_⟩
      exact fin 0 p hp
theorem sc_law_take : FnScope ["_law_box_here", "_law_many", "_law_told", "_law_once"] ["_law_box_here", "_law_many"] (defScope (top 14)) := ⟨rfl, rfl, rfl, by decide +kernel, rfl, by decide +kernel, by decide +kernel⟩
theorem ok_take {f : Addr} {fd : FuncData} (D : Def K mg "_law_take" (top 14) ["_law_box_here", "_law_many"] f fd) (T : Txt mg) : FnOk P w K mg base CX0 1 f fd ["_law_box_here", "_law_many"] spTake := by
  refine D.fn.ok sc_law_take (fun vs H Q E h => ?_) (fun cdv A outer s H vs Q E hr h => ?_)
  · obtain ⟨b, m, rfl, _⟩ := h
    rfl
  · obtain ⟨b, m, rfl, ⟨o, hb, g, n, c, rfl, hg, hn, hn2⟩, hm, hm2, kq⟩ := h
    refine ⟨_, (pss_cons (ps_if (pt_cmpR op_gt (pe_ix ix_list (pv 0) pe_int (fun _ _ => rfl)) pe_int (nomark _))
        (pss_cons (ps_set (i := 2) sc_law_take.nd rfl (Or.inl rfl) (pe_op op_mod (pe_ix ix_list (pv 0) pe_int (fun _ _ => rfl)) (pv 1)))
        (pss_cons (ps_asg (pe_op op_fdivL (pe_ix ix_list (pv 0) pe_int (fun _ _ => rfl)) (pv 1)) (pg_sub (pv 0) pe_int set_list))
        (pss_one (ps_ret (pv 2)))))
        pss_nil)
      (pss_cons (ps_asg (pe_op op_add (pe_ix ix_list (pv 0) pe_int (fun _ _ => rfl)) pe_int) (pg_sub (pv 0) pe_int set_list))
      (pss_cons (ps_set (i := 3) sc_law_take.nd rfl (Or.inl rfl) (pe_op op_mod (pe_op op_add (pe_op op_add (pe_op op_mul (pe_ix ix_list (pv 0) pe_int (fun _ _ => rfl)) pe_int) (pe_op op_mul pe_int (pe_ix ix_list (pv 0) pe_int (fun _ _ => rfl)))) pe_int) pe_int))
      (pss_cons (ps_asg (pe_op op_mod (pe_op op_add (pe_op op_mul (pv 3) (pv 3)) (pe_ix ix_list (pv 0) pe_int (fun _ _ => rfl))) pe_int) (pg_sub (pv 0) pe_int set_list))
      (pss_one (ps_ret (pe_op op_mod (pe_op op_fdivL (pe_ix ix_list (pv 0) pe_int (fun _ _ => rfl)) pe_int) (pv 1)))))))), ?_⟩
    have E1 : ∀ o1 o, BoxO o → Ext b H (upd (upd H b o1) b o) := fun o1 o ho => by rw [upd_upd]; exact Ext.of_upd ho
    and_intros
    refine ⟨SqL.of hb, ?_⟩
    and_intros
    refine ite2 (fun c1 => ?_) (fun c1 => ?_)
    · and_intros
      refine ⟨SqL.of hb, ?_⟩
      and_intros
      refine ⟨hm, ?_⟩
      and_intros
      refine ⟨SqL.of hb, ?_⟩
      and_intros
      refine ⟨⟨hm, by omega⟩, ?_⟩
      and_intros
      refine ⟨hb, rfl, ?_⟩
      and_intros
      exact kq _ _ (Int.emod_nonneg _ (by omega)) (Int.emod_lt_of_pos _ hm) (Ext.of_upd ⟨_, _, _, rfl, Int.ediv_nonneg hg (by omega), hn, hn2⟩)
    · and_intros
      refine ⟨SqL.of hb, ?_⟩
      and_intros
      refine ⟨hb, rfl, ?_⟩
      have hb1 : upd H b (.lst [.int g, .int n, .int (c + 1)]) b = some (.lst [.int g, .int n, .int (c + 1)]) := upd_same
      and_intros
      refine ⟨SqL.of hb1, ?_⟩
      and_intros
      refine ⟨.inr ⟨by decide, by decide⟩, ?_⟩
      and_intros
      refine ⟨SqL.of hb1, ?_⟩
      and_intros
      refine ⟨.inl ⟨by decide, by decide⟩, ?_⟩
      and_intros
      refine ⟨by show (0 : Int) < 2147483647; decide, ?_⟩
      have o0 := Int.emod_nonneg (n * 48271 + 8191 * (c + 1) + 17) (show (2147483647 : Int) ≠ 0 by decide)
      have o1 := Int.emod_lt_of_pos (n * 48271 + 8191 * (c + 1) + 17) (show (0 : Int) < 2147483647 by decide)
      and_intros
      refine ⟨.inl ⟨by omega, by omega⟩, ?_⟩
      and_intros
      refine ⟨SqL.of hb1, ?_⟩
      and_intros
      refine ⟨by show (0 : Int) < 2147483629; decide, ?_⟩
      and_intros
      refine ⟨hb1, rfl, ?_⟩
      have e0 := Int.emod_nonneg (((n * 48271 + 8191 * (c + 1) + 17) % 2147483647) * ((n * 48271 + 8191 * (c + 1) + 17) % 2147483647) + (c + 1)) (show (2147483629 : Int) ≠ 0 by decide)
      have e1 := Int.emod_lt_of_pos (((n * 48271 + 8191 * (c + 1) + 17) % 2147483647) * ((n * 48271 + 8191 * (c + 1) + 17) % 2147483647) + (c + 1)) (show (0 : Int) < 2147483629 by decide)
      and_intros
      refine ⟨SqL.of upd_same, ?_⟩
      and_intros
      refine ⟨⟨by decide, by decide⟩, ?_⟩
      and_intros
      refine ⟨hm, ?_⟩
      exact kq _ _ (Int.emod_nonneg _ (by omega)) (Int.emod_lt_of_pos _ hm) (E1 _ _ ⟨_, _, _, rfl, hg, e0, by omega⟩)
theorem sc_law_rules : FnScope ["_law_box_here", "_law_whole", "_law_told", "_law_carry", "_law_wait", "_law_words", "_law_mode", "_law_gone_one", "_law_some"] ["_law_box_here", "_law_whole"] (defScope (top 15)) := ⟨rfl, rfl, rfl, by decide +kernel, rfl, by decide +kernel, by decide +kernel⟩
theorem ok_rules {f : Addr} {fd : FuncData} (D : Def K mg "_law_rules" (top 15) ["_law_box_here", "_law_whole"] f fd) (T : Txt mg) {f_law_take : Addr} {fd_law_take : FuncData} (D_law_take : Def K mg "_law_take" (top 14) ["_law_box_here", "_law_many"] f_law_take fd_law_take) : FnOk P w K mg base CX0 2 f fd ["_law_box_here", "_law_whole"] spRules := by
  have G_law_take : FnOk P w K mg base CX0 1 f_law_take fd_law_take ["_law_box_here", "_law_many"] spTake := ok_take D_law_take T
  refine D.fn.ok sc_law_rules (fun vs H Q E h => ?_) (fun cdv A outer s H vs Q E hr h => ?_)
  · obtain ⟨b, wh, rfl, _⟩ := h
    rfl
  · obtain ⟨b, wh, rfl, B, k⟩ := h
    refine ⟨_, (@pss_cons _ _ _ _ _ (@ps_set _ _ 2 _ _ _ _ sc_law_rules.nd rfl (Or.inl rfl) (@pe_ix _ _ _ _ _ _ _ ix_list (@pe_lst _ _ _ _ (@pa_cF _ _ _ _ _ _ _ _ (pcall D_law_take G_law_take (hr.mono (by decide)) (@pa_cN _ _ _ _ _ _ (pv 0) (@pa_cC _ _ _ _ _ _ _ (@pe_int _ _ _ _) (@pa_nil _)))) (@pa_cF _ _ _ _ _ _ _ _ (pcall D_law_take G_law_take (hr.mono (by decide)) (@pa_cN _ _ _ _ _ _ (pv 0) (@pa_cC _ _ _ _ _ _ _ (@pe_int _ _ _ _) (@pa_nil _)))) (@pa_nil _)))) (pcall D_law_take G_law_take (hr.mono (by decide)) (@pa_cN _ _ _ _ _ _ (pv 0) (@pa_cC _ _ _ _ _ _ _ (@pe_int _ _ _ _) (@pa_nil _)))) (fun _ _ => rfl)) (by rfl) (by first | exact .inl rfl | exact .inr rfl))
      (@pss_cons _ _ _ _ _ (@ps_set _ _ 3 _ _ _ _ sc_law_rules.nd rfl (Or.inl rfl) (@pe_ix _ _ _ _ _ _ _ ix_list (@pe_lst _ _ _ _ (@pa_cF _ _ _ _ _ _ _ _ (pcall D_law_take G_law_take (hr.mono (by decide)) (@pa_cN _ _ _ _ _ _ (pv 0) (@pa_cC _ _ _ _ _ _ _ (@pe_int _ _ _ _) (@pa_nil _)))) (@pa_cF _ _ _ _ _ _ _ _ (pcall D_law_take G_law_take (hr.mono (by decide)) (@pa_cN _ _ _ _ _ _ (pv 0) (@pa_cC _ _ _ _ _ _ _ (@pe_int _ _ _ _) (@pa_nil _)))) (@pa_nil _)))) (pcall D_law_take G_law_take (hr.mono (by decide)) (@pa_cN _ _ _ _ _ _ (pv 0) (@pa_cC _ _ _ _ _ _ _ (@pe_int _ _ _ _) (@pa_nil _)))) (fun _ _ => rfl)) (by rfl) (by first | exact .inl rfl | exact .inr rfl))
      (@pss_cons _ _ _ _ _ (@ps_set _ _ 4 _ _ _ _ sc_law_rules.nd rfl (Or.inl rfl) (@pe_op _ _ _ _ _ _ _ _ op_add (@pe_int _ _ _ _) (@pe_ix _ _ _ _ _ _ _ ix_list (@pe_lst _ _ _ _ (@pa_cF _ _ _ _ _ _ _ _ (pcall D_law_take G_law_take (hr.mono (by decide)) (@pa_cN _ _ _ _ _ _ (pv 0) (@pa_cC _ _ _ _ _ _ _ (@pe_int _ _ _ _) (@pa_nil _)))) (@pa_cF _ _ _ _ _ _ _ _ (pcall D_law_take G_law_take (hr.mono (by decide)) (@pa_cN _ _ _ _ _ _ (pv 0) (@pa_cC _ _ _ _ _ _ _ (@pe_int _ _ _ _) (@pa_nil _)))) (@pa_nil _)))) (@pe_op _ _ _ _ _ _ _ _ op_fdivL (pcall D_law_take G_law_take (hr.mono (by decide)) (@pa_cN _ _ _ _ _ _ (pv 0) (@pa_cC _ _ _ _ _ _ _ (@pe_int _ _ _ _) (@pa_nil _)))) (@pe_int _ _ _ _)) (fun _ _ => rfl))) (by rfl) (by first | exact .inl rfl | exact .inr rfl))
      (@pss_cons _ _ _ _ _ (@ps_set _ _ 5 _ _ _ _ sc_law_rules.nd rfl (Or.inl rfl) (@pe_tup _ _ _ _ _ (@pa_cC _ _ _ _ _ _ _ (@pe_str _ _ _ _) (@pa_cC _ _ _ _ _ _ _ (@pe_str _ _ _ _) (@pa_cC _ _ _ _ _ _ _ (@pe_str _ _ _ _) (@pa_cC _ _ _ _ _ _ _ (@pe_str _ _ _ _) (@pa_cC _ _ _ _ _ _ _ (@pe_str _ _ _ _) (@pa_cC _ _ _ _ _ _ _ (@pe_str _ _ _ _) (@pa_cC _ _ _ _ _ _ _ (@pe_str _ _ _ _) (@pa_nil _))))))))) (by rfl) (by first | exact .inl rfl | exact .inr rfl))
      (@pss_cons _ _ _ _ _ (@ps_set _ _ 6 _ _ _ _ sc_law_rules.nd rfl (Or.inr rfl) (pcall D_law_take G_law_take (hr.mono (by decide)) (@pa_cN _ _ _ _ _ _ (pv 0) (@pa_cC _ _ _ _ _ _ _ (@pe_int _ _ _ _) (@pa_nil _)))) (by rfl) (by first | exact .inl rfl | exact .inr rfl))
      (@pss_cons _ _ _ _ _ (ps_if (PW.pt (pw_or (pt_val (pv 1)) (pw_or1 (pt_cmpR op_eq (pv 6) (@pe_int _ _ _ _) (nomark _)))))
        (@pss_one _ _ _ (@ps_ret _ _ _ _ (@pe_tup _ _ _ _ _ (@pa_cF _ _ _ _ _ _ _ _ (pcall D_law_take G_law_take (hr.mono (by decide)) (@pa_cN _ _ _ _ _ _ (pv 0) (@pa_cC _ _ _ _ _ _ _ (@pe_int _ _ _ _) (@pa_nil _)))) (@pa_cN _ _ _ _ _ _ (pv 4) (@pa_cN _ _ _ _ _ _ (pv 2) (@pa_cN _ _ _ _ _ _ (pv 3) (@pa_cN _ _ _ _ _ _ (pv 5) (@pa_nil _)))))))))
        pss_nil)
      (@pss_cons _ _ _ _ _ (@ps_set _ _ 7 _ _ _ _ sc_law_rules.nd rfl (Or.inr rfl) (@pe_ix _ _ _ _ _ _ _ ix_tup (pv 5) (pcall D_law_take G_law_take (hr.mono (by decide)) (@pa_cN _ _ _ _ _ _ (pv 0) (@pa_cC _ _ _ _ _ _ _ (@pe_int _ _ _ _) (@pa_nil _)))) (fun _ _ => rfl)) (by rfl) (by first | exact .inl rfl | exact .inr rfl))
      (@pss_cons _ _ _ _ _ (@ps_set _ _ 8 _ _ _ _ sc_law_rules.nd rfl (Or.inl rfl) (pe_callTy call_tuple_of rfl T.z_tuple boot_tuple (pa_cons (pe_comp (sc := defScope (top 15)) (NX := ["_law_box_here", "_law_whole", "_law_told", "_law_carry", "_law_wait", "_law_words", "_law_mode", "_law_gone_one", "_law_some"]) (N := ["_law_word", "_law_gone_one", "_law_mode", "_law_box_here"]) (own := 1) (cap := [7, 6, 0]) rfl (pi_tup (pv 5)) rfl rfl (fun cl C s0 H0 fp => ⟨(pg_name (i := 0) (by show (["_law_word", "_law_gone_one", "_law_mode", "_law_box_here"] : List Str).Nodup; decide +kernel) rfl (Or.inl rfl)), (pts_one (PW.pt (pw_and (pt_cmpR op_ne (pv 0) (pv 1) (nomark _)) (pw_and1 (PW.pt (pw_or (pt_cmpR op_eq (pv 2) (@pe_int _ _ _ _) (nomark _)) (pw_or1 (pt_cmpR op_eq (pcall D_law_take G_law_take (hr.mono (by decide)) (@pa_cN _ _ _ _ _ _ (pv 3) (@pa_cC _ _ _ _ _ _ _ (@pe_int _ _ _ _) (@pa_nil _)))) (@pe_int _ _ _ _) (nomark _))))))))), (pv 0)⟩) (by decide +kernel)) (@pa_nil _))) (by rfl) (by first | exact .inl rfl | exact .inr rfl))
      (@pss_one _ _ _ (@ps_ret _ _ _ _ (@pe_tup _ _ _ _ _ (@pa_cF _ _ _ _ _ _ _ _ (pcall D_law_take G_law_take (hr.mono (by decide)) (@pa_cN _ _ _ _ _ _ (pv 0) (@pa_cC _ _ _ _ _ _ _ (@pe_int _ _ _ _) (@pa_nil _)))) (@pa_cN _ _ _ _ _ _ (pv 4) (@pa_cN _ _ _ _ _ _ (pv 2) (@pa_cN _ _ _ _ _ _ (pv 3) (@pa_cN _ _ _ _ _ _ (pv 8) (@pa_nil _))))))))))))))))), ?_⟩
    and_intros
    refine ⟨B, by decide, by decide, fun dx1 Hx2 lx3 ux4 Ex5 => ?_⟩
    have Kx6 : Kp H Hx2 := Kp.ext Ex5 B
    have Ex7 : Ext b H Hx2 := Ex5
    and_intros
    refine ⟨Ex7.bx, by decide, by decide, fun dx8 Hx9 lx10 ux11 Ex12 => ?_⟩
    have Kx13 : Kp Hx2 Hx9 := Kp.ext Ex12 Ex7.bx
    have Ex14 : Ext b H Hx9 := Ex7.trans Ex12
    and_intros
    refine ⟨szl 2, fun px15 hpx16 => ?_⟩
    have Sx17 := H1.Same.upd (o := .lst [V.int dx1, .int dx8]) hpx16
    have Px18 : upd Hx9 px15 (.lst [V.int dx1, .int dx8]) px15 = some (.lst [V.int dx1, .int dx8]) := upd_same
    generalize upd Hx9 px15 (.lst [V.int dx1, .int dx8]) = Hx19 at *
    have Kx20 : Kp Hx9 Hx19 := Kp.same Sx17
    have Ex21 : Ext b H Hx19 := Ex14.trans (H1.Same.ext Sx17 Ex14.bx)
    and_intros
    refine ⟨Ex21.bx, by decide, by decide, fun dx22 Hx23 lx24 ux25 Ex26 => ?_⟩
    have Kx27 : Kp Hx19 Hx23 := Kp.ext Ex26 Ex21.bx
    have Ex28 : Ext b H Hx23 := Ex21.trans Ex26
    obtain ⟨vx29, hvx30, hax31⟩ := atI_in (xs := [V.int dx1, .int dx8]) lx24 ux25
    obtain ⟨nx32, rfl, n0x33, n1x34⟩ : ∃ n, vx29 = V.int n ∧ 0 ≤ n ∧ n ≤ 9 := by
      simp only [List.mem_cons, List.not_mem_nil, or_false] at hvx30
      rcases hvx30 with rfl | rfl <;> exact ⟨_, rfl, by omega, by omega⟩
    refine ⟨px15, _, _, _, rfl, rfl, SqL.of (Kp.lst Kx27 (nb3 (xs := [V.int dx1, .int dx8]) (show (2 : Nat) ≠ 3 by decide)) Px18), hax31, ?_⟩
    and_intros
    refine ⟨Ex28.bx, by decide, by decide, fun dx35 Hx36 lx37 ux38 Ex39 => ?_⟩
    have Kx40 : Kp Hx23 Hx36 := Kp.ext Ex39 Ex28.bx
    have Ex41 : Ext b H Hx36 := Ex28.trans Ex39
    and_intros
    refine ⟨Ex41.bx, by decide, by decide, fun dx42 Hx43 lx44 ux45 Ex46 => ?_⟩
    have Kx47 : Kp Hx36 Hx43 := Kp.ext Ex46 Ex41.bx
    have Ex48 : Ext b H Hx43 := Ex41.trans Ex46
    and_intros
    refine ⟨szl 2, fun px49 hpx50 => ?_⟩
    have Sx51 := H1.Same.upd (o := .lst [V.int dx35, .int dx42]) hpx50
    have Px52 : upd Hx43 px49 (.lst [V.int dx35, .int dx42]) px49 = some (.lst [V.int dx35, .int dx42]) := upd_same
    generalize upd Hx43 px49 (.lst [V.int dx35, .int dx42]) = Hx53 at *
    have Kx54 : Kp Hx43 Hx53 := Kp.same Sx51
    have Ex55 : Ext b H Hx53 := Ex48.trans (H1.Same.ext Sx51 Ex48.bx)
    and_intros
    refine ⟨Ex55.bx, by decide, by decide, fun dx56 Hx57 lx58 ux59 Ex60 => ?_⟩
    have Kx61 : Kp Hx53 Hx57 := Kp.ext Ex60 Ex55.bx
    have Ex62 : Ext b H Hx57 := Ex55.trans Ex60
    obtain ⟨vx63, hvx64, hax65⟩ := atI_in (xs := [V.int dx35, .int dx42]) lx58 ux59
    obtain ⟨nx66, rfl, n0x67, n1x68⟩ : ∃ n, vx63 = V.int n ∧ 0 ≤ n ∧ n ≤ 8 := by
      simp only [List.mem_cons, List.not_mem_nil, or_false] at hvx64
      rcases hvx64 with rfl | rfl <;> exact ⟨_, rfl, by omega, by omega⟩
    refine ⟨px49, _, _, _, rfl, rfl, SqL.of (Kp.lst Kx61 (nb3 (xs := [V.int dx35, .int dx42]) (show (2 : Nat) ≠ 3 by decide)) Px52), hax65, ?_⟩
    and_intros
    refine ⟨Ex62.bx, by decide, by decide, fun dx69 Hx70 lx71 ux72 Ex73 => ?_⟩
    have Kx74 : Kp Hx57 Hx70 := Kp.ext Ex73 Ex62.bx
    have Ex75 : Ext b H Hx70 := Ex62.trans Ex73
    and_intros
    refine ⟨Ex75.bx, by decide, by decide, fun dx76 Hx77 lx78 ux79 Ex80 => ?_⟩
    have Kx81 : Kp Hx70 Hx77 := Kp.ext Ex80 Ex75.bx
    have Ex82 : Ext b H Hx77 := Ex75.trans Ex80
    and_intros
    refine ⟨szl 2, fun px83 hpx84 => ?_⟩
    have Sx85 := H1.Same.upd (o := .lst [V.int dx69, .int dx76]) hpx84
    have Px86 : upd Hx77 px83 (.lst [V.int dx69, .int dx76]) px83 = some (.lst [V.int dx69, .int dx76]) := upd_same
    generalize upd Hx77 px83 (.lst [V.int dx69, .int dx76]) = Hx87 at *
    have Kx88 : Kp Hx77 Hx87 := Kp.same Sx85
    have Ex89 : Ext b H Hx87 := Ex82.trans (H1.Same.ext Sx85 Ex82.bx)
    and_intros
    refine ⟨Ex89.bx, by decide, by decide, fun dx90 Hx91 lx92 ux93 Ex94 => ?_⟩
    have Kx95 : Kp Hx87 Hx91 := Kp.ext Ex94 Ex89.bx
    have Ex96 : Ext b H Hx91 := Ex89.trans Ex94
    and_intros
    refine ⟨⟨by decide, by decide⟩, ?_⟩
    have lx97 : 0 ≤ (dx90 / 3) := by omega
    have ux98 : (dx90 / 3) < 2 := by omega
    obtain ⟨vx99, hvx100, hax101⟩ := atI_in (xs := [V.int dx69, .int dx76]) lx97 ux98
    obtain ⟨nx102, rfl, n0x103, n1x104⟩ : ∃ n, vx99 = V.int n ∧ 0 ≤ n ∧ n ≤ 8 := by
      simp only [List.mem_cons, List.not_mem_nil, or_false] at hvx100
      rcases hvx100 with rfl | rfl <;> exact ⟨_, rfl, by omega, by omega⟩
    refine ⟨px83, _, _, _, rfl, rfl, SqL.of (Kp.lst Kx95 (nb3 (xs := [V.int dx69, .int dx76]) (show (2 : Nat) ≠ 3 by decide)) Px86), hax101, ?_⟩
    and_intros
    refine ⟨szl 7, fun px105 hpx106 => ?_⟩
    have Sx107 := H1.Same.upd (o := .tup [V.str "about", .str "again", .str "newer", .str "others", .str "own", .str "refute", .str "wait"]) hpx106
    have Px108 : upd Hx91 px105 (.tup [V.str "about", .str "again", .str "newer", .str "others", .str "own", .str "refute", .str "wait"]) px105 = some (.tup [V.str "about", .str "again", .str "newer", .str "others", .str "own", .str "refute", .str "wait"]) := upd_same
    generalize upd Hx91 px105 (.tup [V.str "about", .str "again", .str "newer", .str "others", .str "own", .str "refute", .str "wait"]) = Hx109 at *
    have Kx110 : Kp Hx91 Hx109 := Kp.same Sx107
    have Ex111 : Ext b H Hx109 := Ex96.trans (H1.Same.ext Sx107 Ex96.bx)
    and_intros
    refine ⟨Ex111.bx, by decide, by decide, fun dx112 Hx113 lx114 ux115 Ex116 => ?_⟩
    have Kx117 : Kp Hx109 Hx113 := Kp.ext Ex116 Ex111.bx
    have Ex118 : Ext b H Hx113 := Ex111.trans Ex116
    have hwf : Hx113 px105 = some (.tup ((["about", "again", "newer", "others", "own", "refute", "wait"] : List Str).map V.str)) := (Kp.tup Kx117 Px108)
    and_intros
    have fin : ∀ (Q' : Prop), Q' → Q' := fun _ z => z
    refine ite2 (fun c1 => ?_) (fun c1 => ?_)
    · and_intros
      refine ⟨Ex118.bx, by decide, by decide, fun oa Hoa loa uoa Eoa => ?_⟩
      and_intros
      refine ⟨szl 5, fun qa hqa => ?_⟩
      have Eqa := Ext.new (o := .tup [.int oa, .int (1 + nx102), .int nx32, .int nx66, .ref px105]) Eoa.bx hqa
      exact k qa ⟨oa, (1 + nx102), nx32, nx66, ["about", "again", "newer", "others", "own", "refute", "wait"]⟩ _ (Ex118.trans (Eoa.trans Eqa)) (.tup upd_same (.cons (.int _) (.cons (.int _) (.cons (.int _) (.cons (.int _) (.cons (.tup (Eqa.tup Eoa.bx (Eoa.tup Ex118.bx hwf)) (trl_strs _)) .nil)))))) ⟨⟨loa, by show oa ≤ 3; omega⟩, ⟨by show 1 ≤ (1 + nx102); omega, by show (1 + nx102) ≤ 9; omega⟩, ⟨by show 0 ≤ nx32; omega, by show nx32 ≤ 9; omega⟩, ⟨by show 0 ≤ nx66; omega, by show nx66 ≤ 8; omega⟩, (show (7 : Nat) ≤ 7 by decide)⟩ (fun _ => rfl)
    · have hwh : wh = false := by simpa using c1
      and_intros
      refine ite2 (fun c2 => ?_) (fun c2 => ?_)
      · and_intros
        refine ⟨Ex118.bx, by decide, by decide, fun ob Hob lob uob Eob => ?_⟩
        and_intros
        refine ⟨szl 5, fun qb hqb => ?_⟩
        have Eqb := Ext.new (o := .tup [.int ob, .int (1 + nx102), .int nx32, .int nx66, .ref px105]) Eob.bx hqb
        exact k qb ⟨ob, (1 + nx102), nx32, nx66, ["about", "again", "newer", "others", "own", "refute", "wait"]⟩ _ (Ex118.trans (Eob.trans Eqb)) (.tup upd_same (.cons (.int _) (.cons (.int _) (.cons (.int _) (.cons (.int _) (.cons (.tup (Eqb.tup Eob.bx (Eob.tup Ex118.bx hwf)) (trl_strs _)) .nil)))))) ⟨⟨lob, by show ob ≤ 3; omega⟩, ⟨by show 1 ≤ (1 + nx102); omega, by show (1 + nx102) ≤ 9; omega⟩, ⟨by show 0 ≤ nx32; omega, by show nx32 ≤ 9; omega⟩, ⟨by show 0 ≤ nx66; omega, by show nx66 ≤ 8; omega⟩, (show (7 : Nat) ≤ 7 by decide)⟩ (fun _ => rfl)
      · and_intros
        refine ⟨Ex118.bx, by decide, by decide, fun dg Hg lg ug Eg => ?_⟩
        obtain ⟨g, hg, hga⟩ := atI_in (xs := (["about", "again", "newer", "others", "own", "refute", "wait"] : List Str).map V.str) lg ug
        obtain ⟨gz, hgz, rfl⟩ := List.mem_map.mp hg
        have hwg := Eg.tup Ex118.bx hwf
        refine ⟨px105, _, _, _, rfl, rfl, SqT.of hwg, hga, ?_⟩
        and_intros
        refine ⟨⟨_, SqT.of hwg⟩, fun D hD => ?_⟩
        have hbD : b ≠ D := Eg.bx.ne0 hD
        refine comp_tup (K := K) (a := px105) (xs := (["about", "again", "newer", "others", "own", "refute", "wait"] : List Str).map V.str) (fun i acc Hc => Ext b Hg Hc ∧ Hc D = some (.lst acc) ∧ ∃ ss : List Str, acc = ss.map V.str ∧ ss.length ≤ i) ⟨Ext.new Eg.bx hD, upd_same, [], rfl, Nat.le_refl _⟩ (fun _ _ _ _ ⟨ec, _⟩ => SqT.of (ec.tup Eg.bx hwg)) ?_ ?_
        · rintro i y acc Hc hy ⟨Ec, hDc, ss, rfl, hsl⟩
          obtain ⟨z, hz, rfl⟩ := List.mem_map.mp (List.mem_of_getElem? hy)
          have hi : i < 7 := (List.getElem?_eq_some_iff.mp hy).1
          have yes : ∀ Hd, Ext b Hc Hd → Hd D = some (.lst (ss.map V.str)) ∧ (ss.map V.str).length < sizeLine ∧ Ext b Hg (upd Hd D (.lst (ss.map V.str ++ [.str z]))) ∧ upd Hd D (.lst (ss.map V.str ++ [.str z])) D = some (.lst (ss.map V.str ++ [.str z])) ∧ ∃ ss' : List Str, ss.map V.str ++ [.str z] = ss'.map V.str ∧ ss'.length ≤ i + 1 := fun Hd Ed => by
            have hDd := Ed.kp _ _ hDc (Ne.symm hbD)
            refine ⟨hDd, small1000 (by rw [List.length_map]; omega), ⟨fun a o e na => ?_, ?_⟩, upd_same, ss ++ [z], by rw [List.map_append]; rfl, by rw [List.length_append]; exact Nat.succ_le_succ hsl⟩
            · rw [upd_ne (ne_of_none e hD)]
              exact (Ec.trans Ed).kp a o e na
            · obtain ⟨o, hb, r⟩ := Ed.bx
              exact ⟨o, by rw [upd_ne hbD]; exact hb, r⟩
          and_intros
          refine ⟨Wk.set rfl Wk.refl, ?_⟩
          and_intros
          refine ite2 (fun c3 => ?_) (fun c3 => ?_)
          · and_intros
            refine ite2 (fun c4 => ?_) (fun c4 => ?_)
            · and_intros
              exact yes Hc (Ext.refl Ec.bx)
            · and_intros
              refine ⟨Ec.bx, by decide, by decide, fun d5 Hd l5 u5 Ed => ?_⟩
              and_intros
              refine ite2 (fun c5 => ?_) (fun c5 => ?_)
              · and_intros
                exact yes Hd Ed
              · exact ⟨Ec.trans Ed, Ed.kp _ _ hDc (Ne.symm hbD), ss, rfl, by omega⟩
          · exact ⟨Ec, hDc, ss, rfl, by omega⟩
        · rintro acc Hc ⟨Ec, hDc, ss, rfl, hsl⟩
          refine ⟨D, _, rfl, .inl ⟨SqL.of hDc, fun t ht => ?_⟩⟩
          have Et := Ext.new (o := .tup (ss.map V.str)) Ec.bx ht
          have Pt : upd Hc t (.tup (ss.map V.str)) t = some (.tup (ss.map V.str)) := upd_same
          generalize upd Hc t (.tup (ss.map V.str)) = Ht at *
          have EE : Ext b H Ht := Ex118.trans (Eg.trans (Ec.trans Et))
          and_intros
          refine ⟨EE.bx, by decide, by decide, fun oc Hoc loc uoc Eoc => ?_⟩
          and_intros
          refine ⟨szl 5, fun qc hqc => ?_⟩
          have Eqc := Ext.new (o := .tup [.int oc, .int (1 + nx102), .int nx32, .int nx66, .ref t]) Eoc.bx hqc
          exact k qc ⟨oc, (1 + nx102), nx32, nx66, ss⟩ _ (EE.trans (Eoc.trans Eqc)) (.tup upd_same (.cons (.int _) (.cons (.int _) (.cons (.int _) (.cons (.int _) (.cons (.tup (Eqc.tup Eoc.bx (Eoc.tup EE.bx Pt)) (trl_strs _)) .nil)))))) ⟨⟨loc, by show oc ≤ 3; omega⟩, ⟨by show 1 ≤ (1 + nx102); omega, by show (1 + nx102) ≤ 9; omega⟩, ⟨by show 0 ≤ nx32; omega, by show nx32 ≤ 9; omega⟩, ⟨by show 0 ≤ nx66; omega, by show nx66 ≤ 8; omega⟩, hsl⟩ (fun z => by rw [hwh] at z; cases z)
theorem sc_law_town : FnScope ["_law_box_here", "_law_most", "_law_n", "_law_found", "_law_house_here", "_law_pace"] ["_law_box_here", "_law_most"] (defScope (top 16)) := ⟨rfl, rfl, rfl, by decide +kernel, rfl, by decide +kernel, by decide +kernel⟩
theorem ok_town {f : Addr} {fd : FuncData} (D : Def K mg "_law_town" (top 16) ["_law_box_here", "_law_most"] f fd) (T : Txt mg) {f_law_take : Addr} {fd_law_take : FuncData} (D_law_take : Def K mg "_law_take" (top 14) ["_law_box_here", "_law_many"] f_law_take fd_law_take) : FnOk P w K mg base CX0 2 f fd ["_law_box_here", "_law_most"] spTownD := by
  have G_law_take : FnOk P w K mg base CX0 1 f_law_take fd_law_take ["_law_box_here", "_law_many"] spTake := ok_take D_law_take T
  refine D.fn.ok sc_law_town (fun vs H Q E h => ?_) (fun cdv A outer s H vs Q E hr h => ?_)
  · obtain ⟨b, m, rfl, _⟩ := h
    rfl
  · obtain ⟨b, m, rfl, B, ⟨m2, m8⟩, kq⟩ := h
    refine ⟨_, (@pss_cons _ _ _ _ _ (@ps_set _ _ 2 _ _ _ _ sc_law_town.nd rfl (Or.inl rfl) (pe_callB (call_min2 rfl) rfl T.z_min boot_min (@pa_cN _ _ _ _ _ _ (pv 1) (@pa_cS _ _ _ _ _ _ _ (@pe_ix _ _ _ _ _ _ _ ix_list (@pe_lst _ _ _ _ (@pa_cC _ _ _ _ _ _ _ (@pe_int _ _ _ _) (@pa_cC _ _ _ _ _ _ _ (@pe_int _ _ _ _) (@pa_cC _ _ _ _ _ _ _ (@pe_int _ _ _ _) (@pa_cC _ _ _ _ _ _ _ (@pe_int _ _ _ _) (@pa_cC _ _ _ _ _ _ _ (@pe_int _ _ _ _) (@pa_cB _ _ _ _ _ _ _ _ (@pe_op _ _ _ _ _ _ _ _ op_add (@pe_int _ _ _ _) (pcall D_law_take G_law_take (hr.mono (by decide)) (@pa_cN _ _ _ _ _ _ (pv 0) (@pa_cC _ _ _ _ _ _ _ (@pe_int _ _ _ _) (@pa_nil _))))) (@pa_nil _)))))))) (pcall D_law_take G_law_take (hr.mono (by decide)) (@pa_cN _ _ _ _ _ _ (pv 0) (@pa_cC _ _ _ _ _ _ _ (@pe_int _ _ _ _) (@pa_nil _)))) (fun _ _ => rfl)) (@pa_nil _)))) (by rfl) (by first | exact .inl rfl | exact .inr rfl))
      (@pss_cons _ _ _ _ _ (@ps_set _ _ 3 _ _ _ _ sc_law_town.nd rfl (Or.inl rfl) (@pe_lst _ _ _ _ (@pa_nil _)) (by rfl) (by first | exact .inl rfl | exact .inr rfl))
      (@pss_cons _ _ _ _ _ (ps_for PassesOwn.never rfl (pi_range1 rfl T.z_range (@pa_cN _ _ _ _ _ _ (pv 2) (@pa_nil _))) (pg_name (i := 4) sc_law_town.nd rfl (Or.inl rfl))
        (@pss_cons _ _ _ _ _ (@ps_set _ _ 5 _ _ _ _ sc_law_town.nd rfl (Or.inl rfl) (@pe_ix _ _ _ _ _ _ _ ix_list (@pe_lst _ _ _ _ (@pa_cC _ _ _ _ _ _ _ (@pe_int _ _ _ _) (@pa_cB _ _ _ _ _ _ _ _ (@pe_op _ _ _ _ _ _ _ _ op_add (@pe_int _ _ _ _) (pcall D_law_take G_law_take (hr.mono (by decide)) (@pa_cN _ _ _ _ _ _ (pv 0) (@pa_cC _ _ _ _ _ _ _ (@pe_int _ _ _ _) (@pa_nil _))))) (@pa_nil _)))) (pcall D_law_take G_law_take (hr.mono (by decide)) (@pa_cN _ _ _ _ _ _ (pv 0) (@pa_cC _ _ _ _ _ _ _ (@pe_int _ _ _ _) (@pa_nil _)))) (fun _ _ => rfl)) (by rfl) (by first | exact .inl rfl | exact .inr rfl))
        (@pss_one _ _ _ (ps_expr (pe_bm PySem.F.plainAttrs_list PySem.F.slot_list_append PySem.F.type_list_append mt_append (pv 3) (@pa_cT _ _ _ _ _ _ _ (@pe_tup _ _ _ _ _ (@pa_cN _ _ _ _ _ _ (pv 5) (@pa_cF _ _ _ _ _ _ _ _ (pcall D_law_take G_law_take (hr.mono (by decide)) (@pa_cN _ _ _ _ _ _ (pv 0) (@pa_cN _ _ _ _ _ _ (pv 5) (@pa_nil _)))) (@pa_nil _)))) (@pa_nil _)))))))
      (@pss_one _ _ _ (@ps_ret _ _ _ _ (pe_callTy call_tuple_of rfl T.z_tuple boot_tuple (@pa_cN _ _ _ _ _ _ (pv 3) (@pa_nil _)))))))), ?_⟩
    and_intros
    and_intros
    refine ⟨B, by decide, by decide, fun dx1 Hx2 lx3 ux4 Ex5 => ?_⟩
    have Kx6 : Kp H Hx2 := Kp.ext Ex5 B
    have Ex7 : Ext b H Hx2 := Ex5
    and_intros
    refine ⟨szl 6, fun px8 hpx9 => ?_⟩
    have Sx10 := H1.Same.upd (o := .lst [V.int 2, .int 3, .int 4, .int 3, .int 5, .int (2 + dx1)]) hpx9
    have Px11 : upd Hx2 px8 (.lst [V.int 2, .int 3, .int 4, .int 3, .int 5, .int (2 + dx1)]) px8 = some (.lst [V.int 2, .int 3, .int 4, .int 3, .int 5, .int (2 + dx1)]) := upd_same
    generalize upd Hx2 px8 (.lst [V.int 2, .int 3, .int 4, .int 3, .int 5, .int (2 + dx1)]) = Hx12 at *
    have Kx13 : Kp Hx2 Hx12 := Kp.same Sx10
    have Ex14 : Ext b H Hx12 := Ex7.trans (H1.Same.ext Sx10 Ex7.bx)
    and_intros
    refine ⟨Ex14.bx, by decide, by decide, fun dx15 Hx16 lx17 ux18 Ex19 => ?_⟩
    have Kx20 : Kp Hx12 Hx16 := Kp.ext Ex19 Ex14.bx
    have Ex21 : Ext b H Hx16 := Ex14.trans Ex19
    obtain ⟨vx22, hvx23, hax24⟩ := atI_in (xs := [V.int 2, .int 3, .int 4, .int 3, .int 5, .int (2 + dx1)]) lx17 ux18
    obtain ⟨nx25, rfl, n0x26, n1x27⟩ : ∃ n, vx22 = V.int n ∧ 2 ≤ n ∧ n ≤ 8 := by
      simp only [List.mem_cons, List.not_mem_nil, or_false] at hvx23
      rcases hvx23 with rfl | rfl | rfl | rfl | rfl | rfl <;> exact ⟨_, rfl, by omega, by omega⟩
    refine ⟨px8, _, _, _, rfl, rfl, SqL.of (Kp.lst Kx20 (nb3 (xs := [V.int 2, .int 3, .int 4, .int 3, .int 5, .int (2 + dx1)]) (show (6 : Nat) ≠ 3 by decide)) Px11), hax24, ?_⟩
    and_intros
    refine ⟨szl 0, fun l hl => ?_⟩
    have hbl : b ≠ l := Ex21.bx.ne0 hl
    have E0' : Ext b H (upd Hx16 l (.lst [])) := Ex21.trans (Ext.new Ex21.bx hl)
    have hlH : ∀ a o, H a = some o → a ≠ b → a ≠ l := fun a o e na z => by
      have := Ex21.kp a o e na
      rw [z, hl] at this
      cases this
    have L0 : upd Hx16 l (.lst []) l = some (.lst []) := upd_same
    generalize upd Hx16 l (.lst []) = Ha at *
    and_intros
    refine ⟨by split <;> omega, by split <;> omega, ?_⟩
    refine for_range (fun i σ H' => ∃ (v2 v3 v4 v5 : Option V) (zs : List V) (ts : List (Int × Int)), σ = [some (.ref b), some (.int m), v2, some (.ref l), v4, v5] ∧ Ext b H H' ∧ H' l = some (.lst zs) ∧ TrL H' zs (ts.map wordD) ∧ ts.length = i ∧ ∀ c ∈ ts, ClkD c)
      ⟨_, none, none, none, [], [], rfl, E0', L0, .nil, rfl, fun _ z => nomatch z⟩ ?_ ?_
    · rintro i σ Hx hi ⟨v2, v3, v4, v5, zs, ts, rfl, E1, L1, tz, hrl, hck⟩
      have hi8 : i < 8 := by
        revert hi
        split <;> omega
      and_intros
      and_intros
      refine ⟨E1.bx, by decide, by decide, fun dy1 Hy2 ly3 uy4 Ey5 => ?_⟩
      have Ky6 : Kp Hx Hy2 := Kp.ext Ey5 E1.bx
      have Ey7 : Ext b Hx Hy2 := Ey5
      and_intros
      refine ⟨szl 2, fun py8 hpy9 => ?_⟩
      have Sy10 := H1.Same.upd (o := .lst [V.int 1, .int (1 + dy1)]) hpy9
      have Py11 : upd Hy2 py8 (.lst [V.int 1, .int (1 + dy1)]) py8 = some (.lst [V.int 1, .int (1 + dy1)]) := upd_same
      generalize upd Hy2 py8 (.lst [V.int 1, .int (1 + dy1)]) = Hy12 at *
      have Ky13 : Kp Hy2 Hy12 := Kp.same Sy10
      have Ey14 : Ext b Hx Hy12 := Ey7.trans (H1.Same.ext Sy10 Ey7.bx)
      and_intros
      refine ⟨Ey14.bx, by decide, by decide, fun dy15 Hy16 ly17 uy18 Ey19 => ?_⟩
      have Ky20 : Kp Hy12 Hy16 := Kp.ext Ey19 Ey14.bx
      have Ey21 : Ext b Hx Hy16 := Ey14.trans Ey19
      obtain ⟨vy22, hvy23, hay24⟩ := atI_in (xs := [V.int 1, .int (1 + dy1)]) ly17 uy18
      obtain ⟨ny25, rfl, n0y26, n1y27⟩ : ∃ n, vy22 = V.int n ∧ 1 ≤ n ∧ n ≤ 4 := by
        simp only [List.mem_cons, List.not_mem_nil, or_false] at hvy23
        rcases hvy23 with rfl | rfl <;> exact ⟨_, rfl, by omega, by omega⟩
      refine ⟨py8, _, _, _, rfl, rfl, SqL.of (Kp.lst Ky20 (nb3 (xs := [V.int 1, .int (1 + dy1)]) (show (2 : Nat) ≠ 3 by decide)) Py11), hay24, ?_⟩
      have EY : Ext b Hx Hy16 := Ey21
      have L4 := EY.kp _ _ L1 (Ne.symm hbl)
      and_intros
      refine ⟨.inl ⟨rfl, _, SqL.of L4⟩, ?_⟩
      and_intros
      refine ⟨EY.bx, by omega, by omega, fun d3 H5 l3 u3 E5 => ?_⟩
      and_intros
      refine ⟨szl 2, fun q hq => ?_⟩
      have E6 := Ext.new (o := .tup [.int ny25, .int d3]) E5.bx hq
      have Q6 : upd H5 q (.tup [.int ny25, .int d3]) q = some (.tup [.int ny25, .int d3]) := upd_same
      generalize upd H5 q (.tup [.int ny25, .int d3]) = H6 at *
      have E16 : Ext b Hx H6 := EY.trans (E5.trans E6)
      have L6 := E16.kp _ _ L1 (Ne.symm hbl)
      refine ⟨l, _, _, rfl, rfl, L6, small1000 (by rw [tz.lenM]; omega), ?_⟩
      refine ⟨_, none, _, _, zs ++ [.ref q], ts ++ [(ny25, d3)], rfl, ⟨fun a o e na => ?_, ?_⟩, upd_same, ?_, by rw [List.length_append, hrl]; rfl, fun c hc => ?_⟩
      · rw [upd_ne (hlH a o e na)]
        exact (E1.trans E16).kp a o e na
      · obtain ⟨o, hb, r⟩ := E16.bx
        exact ⟨o, by rw [upd_ne hbl]; exact hb, r⟩
      · exact ((tz.ext E16 E1.bx).snocM (Tr.wordM Q6)).mono fun a' us e => by rw [upd_ne (ne_of e L6 (by intro z; cases z))]; exact e
      · rcases List.mem_append.mp hc with z | z
        · exact hck c z
        · rw [List.mem_singleton.mp z]
          exact ⟨by show 1 ≤ ny25; omega, by show ny25 ≤ 4; omega, l3, u3⟩
    · rintro σ Hx ⟨v2, v3, v4, v5, zs, ts, rfl, E1, L1, tz, hrl, hck⟩
      refine ⟨_, rfl, l, zs, rfl, .inl ⟨SqL.of L1, fun t ht => ?_⟩⟩
      have E2 := Ext.new (o := .tup zs) E1.bx ht
      refine kq t ts _ (E1.trans E2) (.tup upd_same (tz.ext E2 E1.bx)) ?_ hck
      rw [hrl]
      split <;> omega
theorem sc_law_same : FnScope ["_law_found", "_law_due"] ["_law_found", "_law_due"] (defScope (top 17)) := ⟨rfl, rfl, rfl, by decide +kernel, rfl, by decide +kernel, by decide +kernel⟩
theorem ok_sameN {f : Addr} {fd : FuncData} (D_law_same : Def K mg "_law_same" (top 17) ["_law_found", "_law_due"] f fd) (T : Txt mg) : ∀ n, FnOk P w K mg base CX0 n f fd ["_law_found", "_law_due"] (spS n)
  | 0 => ⟨fun _ _ _ _ h => h.elim, fun _ _ _ _ _ _ _ _ _ _ _ _ _ h => h.elim⟩
  | n + 1 => by
    have G_law_same := ok_sameN D_law_same T n
    refine D_law_same.fn.ok sc_law_same (fun vs H Q E h => ?_) (fun cdv A outer s H vs Q E hr h => ?_)
    · obtain ⟨x, y, d, rfl, _⟩ := h
      rfl
    · obtain ⟨x, y, d, rfl, tx, ty, it, q⟩ := h
      have e1 : isi "int" "tuple" = false := by decide
      have e2 : isi "int" "bool" = false := by decide
      have e3 : isi "int" "int" = true := by decide
      have e4 : isi "tuple" "tuple" = true := by decide
      cases d with
      | int i =>
        cases tx.intI
        cases ty.intI
        refine ⟨_, (pss_cons (ps_if (pt_val (pe_callB call_isiK rfl T.z_isinstance boot_isinstance (pa_cN (pv 1) (pa_cN (pe_bltn (v := .ty "tuple") rfl T.z_tuple boot_tuple rfl) pa_nil))))
            (pss_cons (ps_if (PW.pt (pw_or (pt_not (pt_val (pe_callB call_isiK rfl T.z_isinstance boot_isinstance (pa_cN (pv 0) (pa_cN (pe_bltn (v := .ty "tuple") rfl T.z_tuple boot_tuple rfl) pa_nil))))) (pw_or1 (pt_cmpR op_ne (pe_callB call_len_seq rfl T.z_len boot_len (pa_cN (pv 0) pa_nil)) (pe_callB call_len_seq rfl T.z_len boot_len (pa_cN (pv 1) pa_nil)) (nomark _)))))
              (pss_one (ps_ret pe_bl))
              pss_nil)
            (pss_one (ps_ret (pe_callB (call_all rfl) rfl T.z_all boot_all (pa_cons (pe_comp (sc := defScope (top 17)) (NX := ["_law_found", "_law_due"]) (N := ["_law_one", "_law_other"]) (own := 2) (cap := []) rfl (pi_zip rfl T.z_zip (pa_cN (pv 0) (pa_cN (pv 1) pa_nil))) rfl rfl (fun cl C s0 H0 fp => ⟨(pg_tupK (K := K) (n := 2) rfl rfl (pgs_cons (pg_name (i := 0) (by show (["_law_one", "_law_other"] : List Str).Nodup; decide +kernel) rfl (Or.inl rfl)) (pgs_cons (pg_name (i := 1) (by show (["_law_one", "_law_other"] : List Str).Nodup; decide +kernel) rfl (Or.inl rfl)) pgs_nil))), pts_nil, (pcall D_law_same G_law_same hr (pa_cN (pv 0) (pa_cN (pv 1) pa_nil)))⟩) (by decide +kernel)) pa_nil)))))
            pss_nil)
          (pss_cons (ps_if (PW.pt (pw_or (pt_val (pe_callB call_isiK rfl T.z_isinstance boot_isinstance (pa_cN (pv 1) (pa_cN (pe_bltn (v := .ty "bool") rfl T.z_bool boot_bool rfl) pa_nil)))) (pw_or1 (pt_val (pe_callB call_isiK rfl T.z_isinstance boot_isinstance (pa_cN (pv 0) (pa_cN (pe_bltn (v := .ty "bool") rfl T.z_bool boot_bool rfl) pa_nil)))))))
            (pss_one (ps_ret (pe_and (pe_callB call_isiK rfl T.z_isinstance boot_isinstance (pa_cN (pv 1) (pa_cN (pe_bltn (v := .ty "bool") rfl T.z_bool boot_bool rfl) pa_nil))) (pe_and (pe_callB call_isiK rfl T.z_isinstance boot_isinstance (pa_cN (pv 0) (pa_cN (pe_bltn (v := .ty "bool") rfl T.z_bool boot_bool rfl) pa_nil))) (pe_one (pe_cmpR op_eq (pv 0) (pv 1) (nomark _)))))))
            pss_nil)
          (pss_one (ps_ret (pe_and (pe_callB call_isiK rfl T.z_isinstance boot_isinstance (pa_cN (pv 0) (pa_cN (pe_bltn (v := .ty "int") rfl T.z_int boot_int rfl) pa_nil))) (pe_one (pe_cmpR op_eq (pv 0) (pv 1) (nomark _)))))))), ?_⟩
        and_intros
        refine ⟨"tuple", "int", rfl, .int _, .inr (.inr (.inl rfl)), ?_⟩
        rw [e1]
        and_intros
        refine ⟨"bool", "int", rfl, .int _, .inr (.inl rfl), ?_⟩
        rw [e2]
        and_intros
        refine ⟨"bool", "int", rfl, .int _, .inr (.inl rfl), ?_⟩
        rw [e2]
        and_intros
        refine ⟨"int", "int", rfl, .int _, .inl rfl, ?_⟩
        rw [e3]
        and_intros
        have e : decide (V.int i = V.int i) = true := decide_eq_true rfl
        have := q H (Same.refl H)
        rw [← e] at this
        exact this
      | tuple ds =>
        cases n with
        | zero => exact False.elim it
        | succ n =>
        obtain ⟨h100, hds⟩ := it.tupI
        obtain ⟨a, xs, rfl, ha, tlx⟩ := tx.tupI
        obtain ⟨b, ys, rfl, hb, tly⟩ := ty.tupI
        have hxl := tlx.length
        have hyl := tly.length
        refine ⟨_, (pss_cons (ps_if (pt_val (pe_callB call_isiK rfl T.z_isinstance boot_isinstance (pa_cN (pv 1) (pa_cN (pe_bltn (v := .ty "tuple") rfl T.z_tuple boot_tuple rfl) pa_nil))))
            (pss_cons (ps_if (PW.pt (pw_or (pt_not (pt_val (pe_callB call_isiK rfl T.z_isinstance boot_isinstance (pa_cN (pv 0) (pa_cN (pe_bltn (v := .ty "tuple") rfl T.z_tuple boot_tuple rfl) pa_nil))))) (pw_or1 (pt_cmpR op_ne (pe_callB call_len_seq rfl T.z_len boot_len (pa_cN (pv 0) pa_nil)) (pe_callB call_len_seq rfl T.z_len boot_len (pa_cN (pv 1) pa_nil)) (nomark _)))))
              (pss_one (ps_ret pe_bl))
              pss_nil)
            (pss_one (ps_ret (pe_callB (call_all rfl) rfl T.z_all boot_all (pa_cons (pe_comp (sc := defScope (top 17)) (NX := ["_law_found", "_law_due"]) (N := ["_law_one", "_law_other"]) (own := 2) (cap := []) rfl (pi_zip rfl T.z_zip (pa_cN (pv 0) (pa_cN (pv 1) pa_nil))) rfl rfl (fun cl C s0 H0 fp => ⟨(pg_tupK (K := K) (n := 2) rfl rfl (pgs_cons (pg_name (i := 0) (by show (["_law_one", "_law_other"] : List Str).Nodup; decide +kernel) rfl (Or.inl rfl)) (pgs_cons (pg_name (i := 1) (by show (["_law_one", "_law_other"] : List Str).Nodup; decide +kernel) rfl (Or.inl rfl)) pgs_nil))), pts_nil, (pcall D_law_same G_law_same hr (pa_cN (pv 0) (pa_cN (pv 1) pa_nil)))⟩) (by decide +kernel)) pa_nil)))))
            pss_nil)
          (pss_cons (ps_if (PW.pt (pw_or (pt_val (pe_callB call_isiK rfl T.z_isinstance boot_isinstance (pa_cN (pv 1) (pa_cN (pe_bltn (v := .ty "bool") rfl T.z_bool boot_bool rfl) pa_nil)))) (pw_or1 (pt_val (pe_callB call_isiK rfl T.z_isinstance boot_isinstance (pa_cN (pv 0) (pa_cN (pe_bltn (v := .ty "bool") rfl T.z_bool boot_bool rfl) pa_nil)))))))
            (pss_one (ps_ret (pe_and (pe_callB call_isiK rfl T.z_isinstance boot_isinstance (pa_cN (pv 1) (pa_cN (pe_bltn (v := .ty "bool") rfl T.z_bool boot_bool rfl) pa_nil))) (pe_and (pe_callB call_isiK rfl T.z_isinstance boot_isinstance (pa_cN (pv 0) (pa_cN (pe_bltn (v := .ty "bool") rfl T.z_bool boot_bool rfl) pa_nil))) (pe_one (pe_cmpR op_eq (pv 0) (pv 1) (nomark _)))))))
            pss_nil)
          (pss_one (ps_ret (pe_and (pe_callB call_isiK rfl T.z_isinstance boot_isinstance (pa_cN (pv 0) (pa_cN (pe_bltn (v := .ty "int") rfl T.z_int boot_int rfl) pa_nil))) (pe_one (pe_cmpR op_eq (pv 0) (pv 1) (nomark _)))))))), ?_⟩
        and_intros
        refine ⟨"tuple", "tuple", rfl, .tup (SqT.of hb), .inr (.inr (.inl rfl)), ?_⟩
        rw [e4]
        and_intros
        refine ⟨"tuple", "tuple", rfl, .tup (SqT.of ha), .inr (.inr (.inl rfl)), ?_⟩
        rw [e4]
        and_intros
        refine ⟨.inr (SqT.of ha), ?_⟩
        and_intros
        refine ⟨.inr (SqT.of hb), ?_⟩
        and_intros
        have e5 : (!decide (V.int (xs.length : Int) = V.int (ys.length : Int))) = false := by rw [hxl, hyl]; simp
        rw [e5]
        and_intros
        refine ⟨⟨_, _, SqT.of ha, SqT.of hb⟩, fun D hD => comp_zip (K := K) (a := a) (b := b) (xs := xs) (ys := ys) (fun i acc Hc => Same H Hc ∧ Hc D = some (.lst acc) ∧ acc = (List.replicate i true).map V.bl) ⟨H1.Same.upd hD, upd_same, rfl⟩ (fun _ _ _ _ ⟨sc, _⟩ => ⟨SqT.of (sc _ _ ha), SqT.of (sc _ _ hb)⟩) ?_ ?_⟩
        · rintro i x y acc Hc p hx hy ⟨Sc, hDc, rfl⟩ hp
          obtain ⟨d1, hd1, t1⟩ := tlx.get hx
          obtain ⟨d2, hd2, t2⟩ := tly.get hy
          rw [hd1] at hd2
          cases hd2
          have hi : i < xs.length := (List.getElem?_eq_some_iff.mp hx).1
          have Sp := H1.Same.upd (o := .tup [x, y]) hp
          have Pp : upd Hc p (.tup [x, y]) p = some (.tup [x, y]) := upd_same
          generalize upd Hc p (.tup [x, y]) = Hd at *
          have Sd := L2.Same.trans Sc Sp
          and_intros
          refine ⟨SqT.of Pp, ?_⟩
          and_intros
          refine ⟨Wk.set rfl (Wk.set rfl Wk.refl), ?_⟩
          and_intros
          refine ⟨t1.same Sd, t2.same Sd, hds d1 (List.mem_of_getElem? hd1), fun He Se => ?_⟩
          have hDe := Se _ _ (Sp _ _ hDc)
          refine ⟨hDe, small1000 (by rw [List.length_map, List.length_replicate]; omega), fun a' o e => by rw [upd_ne (ne_of_none e hD)]; exact Se _ _ (Sd a' o e), upd_same, ?_⟩
          rw [List.replicate_succ', List.map_append]
          rfl
        · rintro acc Hc ⟨Sc, hDc, rfl⟩
          refine ⟨D, _, rfl, SqL.of hDc, ?_⟩
          have e6 : ∀ m, (List.replicate m true).all id = true := fun m => by simp
          rw [e6]
          exact q Hc Sc
      | _ => cases n <;> exact False.elim it
theorem sc_law_house : FnScope ["_law_box_here", "_law_n", "_law_rules_here", "_law_far", "_law_own", "_law_book", "_law_told", "_law_timers"] ["_law_box_here", "_law_n", "_law_rules_here", "_law_far"] (defScope (top 18)) := ⟨rfl, rfl, rfl, by decide +kernel, rfl, by decide +kernel, by decide +kernel⟩
theorem ok_houseb {f : Addr} {fd : FuncData} (D : Def K mg "_law_house" (top 18) ["_law_box_here", "_law_n", "_law_rules_here", "_law_far"] f fd) (T : Txt mg) {f_law_take : Addr} {fd_law_take : FuncData} (D_law_take : Def K mg "_law_take" (top 14) ["_law_box_here", "_law_many"] f_law_take fd_law_take) : FnOk P w K mg base CX0 2 f fd ["_law_box_here", "_law_n", "_law_rules_here", "_law_far"] spHouseC := by
  have G_law_take : FnOk P w K mg base CX0 1 f_law_take fd_law_take ["_law_box_here", "_law_many"] spTake := ok_take D_law_take T
  refine D.fn.ok sc_law_house (fun vs H Q E h => ?_) (fun cdv A outer s H vs Q E hr h => ?_)
  · obtain ⟨b, m, far, n, x, r, rfl, _⟩ := h
    rfl
  · obtain ⟨b, m, far, n, x, r, rfl, B, ⟨rfl, n2, n8⟩, tx, ro, ⟨f0, f1⟩, k⟩ := h
    obtain ⟨rq, cq, rfl, hr1, hc1⟩ := tx.ruI
    have rw1 := ro.w
    have rt1 := ro.t
    refine ⟨_, (pss_cons (ps_set (i := 4) sc_law_house.nd rfl (Or.inr rfl) (pcall D_law_take G_law_take (hr.mono (by decide)) (pa_cN (pv 0) (pa_cN (pv 1) pa_nil))))
      (pss_cons (ps_set (i := 5) sc_law_house.nd rfl (Or.inl rfl) (pe_callTy call_tuple_of rfl T.z_tuple boot_tuple (pa_cons (pe_comp (sc := defScope (top 18)) (NX := ["_law_box_here", "_law_n", "_law_rules_here", "_law_far", "_law_own", "_law_book", "_law_told", "_law_timers"]) (N := ["_law_k", "_law_far", "_law_box_here"]) (own := 1) (cap := [3, 0]) rfl (pi_range1 rfl T.z_range (pa_cN (pv 1) pa_nil)) rfl rfl (fun cl C s0 H0 fp => ⟨(pg_name (i := 0) (by show (["_law_k", "_law_far", "_law_box_here"] : List Str).Nodup; decide +kernel) rfl (Or.inl rfl)), pts_nil, (pe_tup (pa_cB (pe_op op_add (pv 1) (pcall D_law_take G_law_take (hr.mono (by decide)) (pa_cN (pv 2) (pa_cC pe_int pa_nil)))) (pa_cF (pcall D_law_take G_law_take (hr.mono (by decide)) (pa_cN (pv 2) (pa_cC pe_int pa_nil))) pa_nil)))⟩) (by decide +kernel)) pa_nil)))
      (pss_cons (ps_set (i := 6) sc_law_house.nd rfl (Or.inl rfl) (pe_callTy call_tuple_of rfl T.z_tuple boot_tuple (pa_cons (pe_comp (sc := defScope (top 18)) (NX := ["_law_box_here", "_law_n", "_law_rules_here", "_law_far", "_law_own", "_law_book", "_law_told", "_law_timers"]) (N := ["_law_k", "_law_box_here", "_law_rules_here"]) (own := 1) (cap := [0, 2]) rfl (pi_range1 rfl T.z_range (pa_cN (pv 1) pa_nil)) rfl rfl (fun cl C s0 H0 fp => ⟨(pg_name (i := 0) (by show (["_law_k", "_law_box_here", "_law_rules_here"] : List Str).Nodup; decide +kernel) rfl (Or.inl rfl)), pts_nil, (pcall D_law_take G_law_take (hr.mono (by decide)) (pa_cN (pv 1) (pa_cB (pe_op op_add (pe_ix (ix_tupK (K := K) rfl) (pv 2) pe_int (fun _ _ => rfl)) pe_int) pa_nil)))⟩) (by decide +kernel)) pa_nil)))
      (pss_cons (ps_set (i := 7) sc_law_house.nd rfl (Or.inl rfl) (pe_callTy call_tuple_of rfl T.z_tuple boot_tuple (pa_cons (pe_comp (sc := defScope (top 18)) (NX := ["_law_box_here", "_law_n", "_law_rules_here", "_law_far", "_law_own", "_law_book", "_law_told", "_law_timers"]) (N := ["_law_k", "_law_box_here", "_law_own", "_law_rules_here"]) (own := 1) (cap := [0, 4, 2]) rfl (pi_range1 rfl T.z_range (pa_cN (pv 1) pa_nil)) rfl rfl (fun cl C s0 H0 fp => ⟨(pg_name (i := 0) (by show (["_law_k", "_law_box_here", "_law_own", "_law_rules_here"] : List Str).Nodup; decide +kernel) rfl (Or.inl rfl)), pts_nil, (pe_op op_mul (pcall D_law_take G_law_take (hr.mono (by decide)) (pa_cN (pv 1) (pa_cB (pe_op op_add (pe_ix (ix_tupK (K := K) rfl) (pv 3) pe_int (fun _ _ => rfl)) pe_int) pa_nil))) (pe_callTy call_int1 rfl T.z_int boot_int (pa_cons (pe_cmpR op_ne (pv 0) (pv 2) (nomark _)) pa_nil)))⟩) (by decide +kernel)) pa_nil)))
      (pss_one (ps_ret (pe_tup (pa_cN (pv 4) (pa_cT (pe_tup (pa_cC pe_int (pa_cN (pv 5) (pa_cN (pv 6) (pa_cN (pv 7) pa_nil))))) pa_nil))))))))), ?_⟩
    and_intros
    refine ⟨B, by omega, by omega, fun o Ha lo uo Ea => ?_⟩
    have ho : (o : Int) = ((o.toNat : Nat) : Int) := by omega
    and_intros
    refine ⟨by omega, by omega, fun D hD => comp_drawD wordD (fun w => 0 ≤ w.1 ∧ w.1 ≤ 1000009 ∧ 0 ≤ w.2 ∧ w.2 ≤ 3) Ea.bx hD (by omega) (fun i Hc hi Ec R Z hR => ?_) (fun ws acc Hc Ec hDc tc hwl hws => ?_)⟩
    · and_intros
      refine ⟨Wk.set rfl Wk.refl, ?_⟩
      and_intros
      refine ⟨Ec.bx, by decide, by decide, fun d1 Hd l1 u1 E1 => ?_⟩
      and_intros
      refine ⟨E1.bx, by decide, by decide, fun d2 He l2 u2 E2 => ?_⟩
      refine ⟨szl 2, fun q hq => ?_⟩
      have E3 := Ext.new (o := .tup [.int (far + d1), .int d2]) E2.bx hq
      exact hR (far + d1, d2) _ _ (E1.trans (E2.trans E3)) (Tr.wordM upd_same) ⟨by show 0 ≤ far + d1; omega, by show far + d1 ≤ 1000009; omega, l2, by show d2 ≤ 3; omega⟩
    refine ⟨D, acc, rfl, .inl ⟨SqL.of hDc, fun bq hbq => ?_⟩⟩
    have Eb := Ext.new (o := .tup acc) Ec.bx hbq
    have Pb : upd Hc bq (.tup acc) bq = some (.tup acc) := upd_same
    generalize upd Hc bq (.tup acc) = Hd at *
    have tb : Tr Hd (.ref bq) (bookD ws) := .tup Pb (tc.ext Eb Ec.bx)
    have EHd : Ext b H Hd := Ea.trans (Ec.trans Eb)
    and_intros
    refine ⟨by omega, by omega, fun D2 hD2 => comp_drawI (fun k => 0 ≤ k ∧ k ≤ 9) EHd.bx hD2 (by omega) (fun i He hi Ee R Z hR => ?_) (fun ns He Ee hDe hnl hns => ?_)⟩
    · and_intros
      refine ⟨Wk.set rfl Wk.refl, ?_⟩
      and_intros
      refine ⟨SqT.of (Ee.tup EHd.bx (EHd.tup B hr1)), ?_⟩
      and_intros
      refine ⟨Ee.bx, by omega, by omega, fun d1 Hf l1 u1 E1 => ?_⟩
      exact hR _ _ E1 ⟨l1, by omega⟩
    refine ⟨D2, _, rfl, .inl ⟨SqL.of hDe, fun tq htq => ?_⟩⟩
    have Et := Ext.new (o := .tup (ns.map V.int)) Ee.bx htq
    have Pt : upd He tq (.tup (ns.map V.int)) tq = some (.tup (ns.map V.int)) := upd_same
    generalize upd He tq (.tup (ns.map V.int)) = Hf at *
    have EHf : Ext b H Hf := EHd.trans (Ee.trans Et)
    and_intros
    refine ⟨by omega, by omega, fun D3 hD3 => comp_drawN (fun i k => 0 ≤ k ∧ k ≤ 9 ∧ (i = o.toNat → k = 0)) EHf.bx hD3 (by omega) (fun i Hg hi Eg R Z hR => ?_) (fun ms Hg Eg hDg hml hms => ?_)⟩
    · and_intros
      refine ⟨Wk.set rfl Wk.refl, ?_⟩
      and_intros
      refine ⟨SqT.of (Eg.tup EHf.bx (EHf.tup B hr1)), ?_⟩
      and_intros
      refine ⟨Eg.bx, by omega, by omega, fun d1 Hh l1 u1 E1 => ?_⟩
      and_intros
      refine .inr ⟨_, rfl, ?_⟩
      and_intros
      refine ⟨.inr (ib1 _), ?_⟩
      refine hR _ _ E1 ?_
      by_cases c : i = o.toNat
      · have e : (0 + (i : Int)) = o := by omega
        have e' : (!decide (V.int (0 + (i : Int)) = V.int o)) = false := by rw [e]; simp
        rw [e', if_neg (by decide), Int.mul_zero]
        exact ⟨by decide, by decide, fun _ => rfl⟩
      · have e : ¬ (0 + (i : Int)) = o := by omega
        have e' : (!decide (V.int (0 + (i : Int)) = V.int o)) = true := by simp; omega
        rw [e', if_pos rfl, Int.mul_one]
        exact ⟨l1, by omega, fun z => absurd z c⟩
    refine ⟨D3, _, rfl, .inl ⟨SqL.of hDg, fun mq hmq => ?_⟩⟩
    have Em := Ext.new (o := .tup (ms.map V.int)) Eg.bx hmq
    have Pm : upd Hg mq (.tup (ms.map V.int)) mq = some (.tup (ms.map V.int)) := upd_same
    generalize upd Hg mq (.tup (ms.map V.int)) = Hh at *
    have Efh : Ext b Hf Hh := Eg.trans Em
    have EHh : Ext b H Hh := EHf.trans Efh
    and_intros
    refine ⟨szl 4, fun hq hhq => ?_⟩
    have Eh := Ext.new (o := .tup [.int 1, .ref bq, .ref tq, .ref mq]) EHh.bx hhq
    have Ph : upd Hh hq (.tup [.int 1, .ref bq, .ref tq, .ref mq]) hq = some (.tup [.int 1, .ref bq, .ref tq, .ref mq]) := upd_same
    generalize upd Hh hq (.tup [.int 1, .ref bq, .ref tq, .ref mq]) = Hi at *
    and_intros
    refine ⟨szl 2, fun q hq2 => ?_⟩
    have Eq' := Ext.new (o := .tup [.int o, .ref hq]) Eh.bx hq2
    have Ede := (Ee.trans Et).trans (Efh.trans (Eh.trans Eq'))
    have Efe := Efh.trans (Eh.trans Eq')
    refine k q hq o.toNat (1, ws, ns, ms) _ (EHh.trans (Eh.trans Eq')) (by rw [← ho]; exact upd_same) (.tup (Eq'.tup Eh.bx Ph) (.cons (.int _) (.cons (tb.ext Ede EHd.bx) (.cons (.tup (Efe.tup EHf.bx Pt) (trl_ints _)) (.cons (.tup ((Eh.trans Eq').tup EHh.bx Pm) (trl_ints _)) .nil))))) (by omega) ⟨⟨.inr rfl, by show ws.length = n; omega, (fun w hw => by have := hws w hw; omega), by show ns.length = n; omega, hns, by show ms.length = n; omega, fun z hz => ?_⟩, rfl, fun w hw => (hws w hw).2.1⟩
    · obtain ⟨j, hj⟩ := List.mem_iff_getElem?.mp hz
      exact ⟨(hms j z hj).1, (hms j z hj).2.1⟩
theorem sc_law_some_notes : FnScope ["_law_box_here", "_law_n", "_law_far", "_law_most", "_law_found", "_law_k"] ["_law_box_here", "_law_n", "_law_far", "_law_most"] (defScope (top 19)) := ⟨rfl, rfl, rfl, by decide +kernel, rfl, by decide +kernel, by decide +kernel⟩
theorem ok_notesb {f : Addr} {fd : FuncData} (D : Def K mg "_law_some_notes" (top 19) ["_law_box_here", "_law_n", "_law_far", "_law_most"] f fd) (T : Txt mg) {f_law_take : Addr} {fd_law_take : FuncData} (D_law_take : Def K mg "_law_take" (top 14) ["_law_box_here", "_law_many"] f_law_take fd_law_take) : FnOk P w K mg base CX0 2 f fd ["_law_box_here", "_law_n", "_law_far", "_law_most"] spNotesB := by
  have G_law_take : FnOk P w K mg base CX0 1 f_law_take fd_law_take ["_law_box_here", "_law_many"] spTake := ok_take D_law_take T
  refine D.fn.ok sc_law_some_notes (fun vs H Q E h => ?_) (fun cdv A outer s H vs Q E hr h => ?_)
  · obtain ⟨b, m, far, most, n, rfl, _⟩ := h
    rfl
  · obtain ⟨b, m, far, most, n, rfl, B, ⟨rfl, n2, n8⟩, ⟨f0, f1⟩, ⟨p0, p1⟩, k⟩ := h
    refine ⟨_, (pss_cons (ps_set (i := 4) sc_law_some_notes.nd rfl (Or.inl rfl) (pe_lst pa_nil))
      (pss_cons (ps_for PassesOwn.never rfl (pi_range1 rfl T.z_range (pa_cF (pcall D_law_take G_law_take (hr.mono (by decide)) (pa_cN (pv 0) (pa_cB (pe_op op_add (pv 3) pe_int) pa_nil))) pa_nil)) (pg_name (i := 5) sc_law_some_notes.nd rfl (Or.inl rfl))
        (pss_one (ps_expr (pe_bm PySem.F.plainAttrs_list PySem.F.slot_list_append PySem.F.type_list_append mt_append (pv 4) (pa_cT (pe_tup (pa_cF (pcall D_law_take G_law_take (hr.mono (by decide)) (pa_cN (pv 0) (pa_cN (pv 1) pa_nil))) (pa_cT (pe_tup (pa_cB (pe_op op_add (pv 2) (pcall D_law_take G_law_take (hr.mono (by decide)) (pa_cN (pv 0) (pa_cC pe_int pa_nil)))) (pa_cF (pcall D_law_take G_law_take (hr.mono (by decide)) (pa_cN (pv 0) (pa_cC pe_int pa_nil))) pa_nil))) pa_nil))) pa_nil)))))
      (pss_one (ps_ret (pe_callTy call_tuple_of rfl T.z_tuple boot_tuple (pa_cN (pv 4) pa_nil)))))), ?_⟩
    and_intros
    refine ⟨szl 0, fun l hl => ?_⟩
    have hbl : b ≠ l := B.ne0 hl
    have E0 := Ext.new (o := .lst []) B hl
    have L0 : upd H l (.lst []) l = some (.lst []) := upd_same
    generalize upd H l (.lst []) = Ha at *
    and_intros
    refine ⟨E0.bx, by omega, by omega, fun d Hb ld ud Ed => ?_⟩
    and_intros
    refine ⟨by omega, by omega, ?_⟩
    refine for_range (fun i σ Hx => ∃ (v5 : Option V) (zs : List V) (ns : List (Nat × (Int × Int))), σ = [some (.ref b), some (.int (n : Int)), some (.int far), some (.int most), some (.ref l), v5] ∧ Ext b H Hx ∧ Hx l = some (.lst zs) ∧ TrL Hx zs (ns.map noteD) ∧ ns.length = i ∧ ∀ x ∈ ns, NW n x)
      ⟨none, [], [], rfl, E0.trans Ed, Ed.kp _ _ L0 (Ne.symm hbl), .nil, rfl, fun _ z => nomatch z⟩ ?_ ?_
    · rintro i σ Hx hi ⟨v5, zs, ns, rfl, Ex, Lx, tz, hnl, hns⟩
      have hi60 : i < 60 := by omega
      and_intros
      refine ⟨.inl ⟨rfl, _, SqL.of Lx⟩, ?_⟩
      and_intros
      refine ⟨Ex.bx, by omega, by omega, fun o H1' l1 u1 E1 => ?_⟩
      have ho : (o : Int) = ((o.toNat : Nat) : Int) := by omega
      and_intros
      refine ⟨E1.bx, by decide, by decide, fun d2 H2 l2 u2 E2 => ?_⟩
      and_intros
      refine ⟨E2.bx, by decide, by decide, fun d3 H3 l3 u3 E3 => ?_⟩
      and_intros
      refine ⟨szl 2, fun wq hwq => ?_⟩
      have E4 := Ext.new (o := .tup [.int (far + d2), .int d3]) E3.bx hwq
      have P4 : upd H3 wq (.tup [.int (far + d2), .int d3]) wq = some (.tup [.int (far + d2), .int d3]) := upd_same
      generalize upd H3 wq (.tup [.int (far + d2), .int d3]) = H4 at *
      and_intros
      refine ⟨szl 2, fun nq hnq => ?_⟩
      have E5 := Ext.new (o := .tup [.int o, .ref wq]) E4.bx hnq
      have P5 : upd H4 nq (.tup [.int o, .ref wq]) nq = some (.tup [.int o, .ref wq]) := upd_same
      generalize upd H4 nq (.tup [.int o, .ref wq]) = H5 at *
      have E15 := E1.trans (E2.trans (E3.trans (E4.trans E5)))
      have L5 := E15.kp _ _ Lx (Ne.symm hbl)
      have tn : Tr H5 (.ref nq) (noteD (o.toNat, (far + d2, d3))) := .tup (by rw [P5]; show some (HO.tup [.int o, .ref wq]) = some (HO.tup [.int ((o.toNat : Nat) : Int), .ref wq]); rw [← ho]) (.cons (.int _) (.cons (Tr.wordM (E5.tup E4.bx P4)) .nil))
      refine ⟨l, _, _, rfl, rfl, L5, small1000 (by rw [tz.lenM]; omega), ?_⟩
      refine ⟨_, zs ++ [.ref nq], ns ++ [(o.toNat, (far + d2, d3))], rfl, ⟨fun a' u e na => ?_, ?_⟩, upd_same, ?_, by rw [List.length_append, hnl]; rfl, fun x hx => ?_⟩
      · have hal : a' ≠ l := ne_of_none e hl
        rw [upd_ne hal]
        exact (Ex.trans E15).kp a' u e na
      · obtain ⟨u, hb, r⟩ := E15.bx
        exact ⟨u, by rw [upd_ne hbl]; exact hb, r⟩
      · exact ((tz.ext E15 Ex.bx).snocM tn).mono fun a' us e => by rw [upd_ne (ne_of e L5 (by intro z; cases z))]; exact e
      · rcases List.mem_append.mp hx with z | z
        · exact hns x z
        · rw [List.mem_singleton.mp z]
          exact ⟨by show o.toNat < n; omega, by show 0 ≤ far + d2; omega, by show far + d2 ≤ 1000009; omega, l3, by show d3 ≤ 3; omega⟩
    · rintro σ Hx ⟨v5, zs, ns, rfl, Ex, Lx, tz, hnl, hns⟩
      refine ⟨_, rfl, l, zs, rfl, .inl ⟨SqL.of Lx, fun t ht => ?_⟩⟩
      have E2 := Ext.new (o := .tup zs) Ex.bx ht
      exact k t ns _ (Ex.trans E2) (.tup upd_same (tz.ext E2 Ex.bx)) hns (by rw [hnl]; omega)
theorem sc_law_turned : FnScope ["_law_box_here", "_law_notes", "_law_found", "_law_note"] ["_law_box_here", "_law_notes"] (defScope (top 21)) := ⟨rfl, rfl, rfl, by decide +kernel, rfl, by decide +kernel, by decide +kernel⟩
theorem ok_turned {f : Addr} {fd : FuncData} (D : Def K mg "_law_turned" (top 21) ["_law_box_here", "_law_notes"] f fd) (T : Txt mg) {f_law_take : Addr} {fd_law_take : FuncData} (D_law_take : Def K mg "_law_take" (top 14) ["_law_box_here", "_law_many"] f_law_take fd_law_take) : FnOk P w K mg base CX0 2 f fd ["_law_box_here", "_law_notes"] spTurned := by
  have G_law_take : FnOk P w K mg base CX0 1 f_law_take fd_law_take ["_law_box_here", "_law_many"] spTake := ok_take D_law_take T
  refine D.fn.ok sc_law_turned (fun vs H Q E h => ?_) (fun cdv A outer s H vs Q E hr h => ?_)
  · obtain ⟨b, a, ns, rfl, _⟩ := h
    rfl
  · obtain ⟨b, a, ns, rfl, B, ta, h20, k⟩ := h
    obtain ⟨_, xs, e, ha, tl⟩ := ta.tupI
    cases e
    have hxl := tl.lenM
    refine ⟨_, (pss_cons (ps_set (i := 2) sc_law_turned.nd rfl (Or.inl rfl) (pe_lst pa_nil))
      (pss_cons (ps_for PassesOwn.never rfl (pi_tup (pe_op op_catS (pv 1) (pv 1))) (pg_name (i := 3) sc_law_turned.nd rfl (Or.inl rfl))
        (pss_one (ps_expr (pe_bm PySem.F.plainAttrs_list PySem.F.slot_list_insert PySem.F.type_list_insert mt_insert (pv 2) (pa_cF (pcall D_law_take G_law_take (hr.mono (by decide)) (pa_cN (pv 0) (pa_cB (pe_op op_add (pe_callB call_len_seq rfl T.z_len boot_len (pa_cN (pv 2) pa_nil)) pe_int) pa_nil))) (pa_cN (pv 3) pa_nil))))))
      (pss_one (ps_ret (pe_callTy call_tuple_of rfl T.z_tuple boot_tuple (pa_cN (pv 2) pa_nil)))))), ?_⟩
    and_intros
    refine ⟨szl 0, fun l hl => ?_⟩
    have hbl : b ≠ l := B.ne0 hl
    have E0 := Ext.new (o := .lst []) B hl
    have L0 : upd H l (.lst []) l = some (.lst []) := upd_same
    generalize upd H l (.lst []) = Ha at *
    have haA := E0.tup B ha
    and_intros
    refine ⟨haA, haA, by omega, fun p Hb Sb Pb => ?_⟩
    have E1 : Ext b Ha Hb := H1.Same.ext Sb E0.bx
    have tl2 : TrL Hb (xs ++ xs) ((ns ++ ns).map noteD) := by
      rw [List.map_append]
      have := (tl.ext E0 B).ext E1 E0.bx
      exact this.append this
    and_intros
    refine ⟨⟨_, SqT.of Pb⟩, for_tup (K := K) (a := p) (xs := xs ++ xs) (fun j σ Hx => ∃ (v3 : Option V) (zs : List V) (ms : List (Nat × (Int × Int))), σ = [some (.ref b), some (.ref a), some (.ref l), v3] ∧ Ext b H Hx ∧ Hx l = some (.lst zs) ∧ TrL Hx zs (ms.map noteD) ∧ ms.length = j ∧ (∀ x, x ∈ ms ↔ x ∈ (ns ++ ns).take j) ∧ Hx p = some (.tup (xs ++ xs)) ∧ TrL Hx (xs ++ xs) ((ns ++ ns).map noteD))
      ⟨none, [], [], rfl, E0.trans E1, Sb _ _ L0, .nil, rfl, (fun x => by simp), Pb, tl2⟩ (fun _ _ _ _ ⟨_, _, _, _, _, _, _, _, _, hp, _⟩ => SqT.of hp) ?_ ?_⟩
    · rintro j v σ Hx hv ⟨v3, zs, ms, rfl, Ex, Lx, tz, hml, hmem, Px, tx⟩
      obtain ⟨nt, hnt, tv⟩ := tx.getM hv
      have hj : j < (xs ++ xs).length := (List.getElem?_eq_some_iff.mp hv).1
      rw [List.length_append] at hj
      have hzl := tz.lenM
      have hpl : p ≠ l := ne_of Px Lx (by intro z; cases z)
      and_intros
      refine ⟨.inl ⟨rfl, _, SqL.of Lx⟩, ?_⟩
      and_intros
      refine ⟨.inl (SqL.of Lx), ?_⟩
      and_intros
      refine ⟨Ex.bx, by omega, by omega, fun d H1' l1 u1 E2 => ?_⟩
      have L1 := E2.kp _ _ Lx (Ne.symm hbl)
      have P1 := E2.tup Ex.bx Px
      have tx1 := tx.ext E2 Ex.bx
      have up1 : ∀ o, ∀ a' us, H1' a' = some (.tup us) → upd H1' l o a' = some (.tup us) := fun o a' us e => by rw [upd_ne (ne_of e L1 (by intro z; cases z))]; exact e
      refine ⟨_, rfl, l, _, _, _, rfl, rfl, L1, ⟨by omega, by omega⟩, by omega, ?_⟩
      refine ⟨_, zs.take d.toNat ++ v :: zs.drop d.toNat, ms.take d.toNat ++ nt :: ms.drop d.toNat, rfl, ⟨fun a' u e na => ?_, ?_⟩, upd_same, ?_, ?_, fun x => ?_, up1 _ _ _ P1, tx1.mono (up1 _)⟩
      · rw [upd_ne (ne_of_none e hl)]
        exact (Ex.trans E2).kp a' u e na
      · obtain ⟨u, hb', z⟩ := E2.bx
        exact ⟨u, by rw [upd_ne hbl]; exact hb', z⟩
      · exact ((tz.ext E2 Ex.bx).insM _ (tv.ext E2 Ex.bx)).mono (up1 _)
      · rw [List.length_append, List.length_cons, List.length_take, List.length_drop]
        omega
      · rw [mem_ins, hmem, List.take_add_one, hnt, List.mem_append]
        constructor
        · rintro (z | z)
          · exact .inr (by rw [z]; exact List.mem_singleton.mpr rfl)
          · exact .inl z
        · rintro (z | z)
          · exact .inr z
          · exact .inl (List.mem_singleton.mp z)
    · rintro σ Hx ⟨v3, zs, ms, rfl, Ex, Lx, tz, hml, hmem, Px, tx⟩
      refine ⟨_, rfl, l, zs, rfl, .inl ⟨SqL.of Lx, fun t ht => ?_⟩⟩
      have E2 := Ext.new (o := .tup zs) Ex.bx ht
      rw [List.length_append] at hml
      refine k t ms _ (Ex.trans E2) (.tup upd_same (tz.ext E2 Ex.bx)) (fun x => ?_) (by omega)
      rw [hmem, List.take_of_length_le (by rw [List.length_append, List.length_append]; omega), List.mem_append, or_self]
theorem ok_same4 {f : Addr} {fd : FuncData} (D : Def K mg "_law_same" (top 17) ["_law_found", "_law_due"] f fd) (T : Txt mg) : FnOk P w K mg base CX0 4 f fd ["_law_found", "_law_due"] (spSame 3) := ok_sameN D T 4
theorem sc_law_right : FnScope ["_law_house_here", "_law_later", "_law_book", "_law_of", "_law_word", "_law_due"] ["_law_house_here", "_law_later", "_law_book"] (defScope (top 20)) := ⟨rfl, rfl, rfl, by decide +kernel, rfl, by decide +kernel, by decide +kernel⟩
theorem ok_right {f : Addr} {fd : FuncData} (D : Def K mg "_law_right" (top 20) ["_law_house_here", "_law_later", "_law_book"] f fd) (T : Txt mg) {f_law_same : Addr} {fd_law_same : FuncData} (D_law_same : Def K mg "_law_same" (top 17) ["_law_found", "_law_due"] f_law_same fd_law_same) : FnOk P w K mg base CX0 5 f fd ["_law_house_here", "_law_later", "_law_book"] spRight := by
  have G_law_same : FnOk P w K mg base CX0 4 f_law_same fd_law_same ["_law_found", "_law_due"] (spSame 3) := ok_same4 D_law_same T
  refine D.fn.ok sc_law_right (fun vs H Q E h => ?_) (fun cdv A outer s H vs Q E hr h => ?_)
  · obtain ⟨hq, lq, bq, n, h, g, B, rfl, _⟩ := h
    rfl
  · obtain ⟨hq, lq, bq, n, h, g, B, rfl, th, tg, tB, ⟨hw, hgw, n8, gup, gB⟩, hge, hdue, q⟩ := h
    obtain ⟨hb, hu, hm, hbx, h0, hhb, thb, hhu, hhm⟩ := th.parts
    obtain ⟨gb, gu, gm, gbx, g0, hgb, tgb, hgu, hgm⟩ := tg.parts
    obtain ⟨_, bxs, e, hbq, tbl⟩ := tB.tupI
    cases e
    have w1 := hw.bl
    have w2 := hw.tl
    have w3 := hw.ml
    have v1 := hgw.bl
    have v2 := hgw.tl
    have v3 := hgw.ml
    have hBl : B.length = n := by rw [← gB]; exact v1
    have hBs : ∀ w ∈ B, 0 ≤ w.1 ∧ w.1 ≤ 1000010 ∧ 0 ≤ w.2 ∧ w.2 ≤ 3 := by rw [← gB]; exact hgw.bs
    have hhl := thb.lenM
    have tgB : Tr H (.ref gb) (bookD B) := by
      rw [← gB]
      exact .tup hgb tgb
    refine ⟨_, (@pss_cons _ _ _ _ _ (@ps_if _ _ _ _ _ _ _ _ (@PW.pt _ _ _ (@pw_or _ _ _ _ _ _ _ (@pt_not _ _ _ _ (@pt_val _ _ _ (@pcall _ _ _ _ _ _ _ _ _ _ _ _ _ D_law_same G_law_same (hr.mono (by decide)) (@pa_cS _ _ _ _ _ _ _ (@pe_ix _ _ _ _ _ _ _ ix_tup (pv 1) (@pe_int _ _ _ _) (fun _ _ => rfl)) (@pa_cN _ _ _ _ _ _ (pv 2) (@pa_nil _))) (by rfl) (by decide) (by rfl) (by rfl)) (by intro _; rfl))) (@pw_or1 _ _ _ _ (@pt_cmpR _ _ _ _ _ _ _ _ op_ne (@pe_ix _ _ _ _ _ _ _ ix_tup (pv 1) (@pe_int _ _ _ _) (fun _ _ => rfl)) (@pe_int _ _ _ _) (nomark _))))) (@pss_one _ _ _ (@ps_ret _ _ _ _ (@pe_bl _ _ _ _))) (@pss_nil _)) (@pss_cons _ _ _ _ _ (ps_for PassesOwn.never rfl (pi_enumerate rfl T.z_enumerate (@pa_cS _ _ _ _ _ _ _ (@pe_ix _ _ _ _ _ _ _ ix_tup (pv 0) (@pe_int _ _ _ _) (fun _ _ => rfl)) (@pa_nil _))) (pg_tup rfl (pgs_cons (pg_name (i := 3) sc_law_right.nd rfl (Or.inl rfl)) (pgs_cons (pg_name (i := 4) sc_law_right.nd rfl (Or.inl rfl)) pgs_nil)))
        (@pss_cons _ _ _ _ _ (@ps_set _ _ 5 _ _ _ _ sc_law_right.nd rfl (Or.inl rfl) (@pe_tup _ _ _ _ _ (@pa_cS _ _ _ _ _ _ _ (@pe_ix _ _ _ _ _ _ _ ix_tup (@pe_ix _ _ _ _ _ _ _ ix_tup (pv 0) (@pe_int _ _ _ _) (fun _ _ => rfl)) (pv 3) (fun _ _ => rfl)) (@pa_cS _ _ _ _ _ _ _ (@pe_ix _ _ _ _ _ _ _ ix_tup (@pe_ix _ _ _ _ _ _ _ ix_tup (pv 0) (@pe_int _ _ _ _) (fun _ _ => rfl)) (pv 3) (fun _ _ => rfl)) (@pa_nil _)))) (by rfl) (by first | exact .inl rfl | exact .inr rfl)) (@pss_cons _ _ _ _ _ (@ps_if _ _ _ _ _ _ _ _ (@pt_cmpR _ _ _ _ _ _ _ _ (op_neD hr.units) (@pe_ix _ _ _ _ _ _ _ ix_tup (pv 2) (pv 3) (fun _ _ => rfl)) (pv 4) (nomark _)) (@pss_one _ _ _ (@ps_set _ _ 5 _ _ _ _ sc_law_right.nd rfl (Or.inl rfl) (@pe_tup _ _ _ _ _ (@pa_cC _ _ _ _ _ _ _ (@pe_int _ _ _ _) (@pa_cB _ _ _ _ _ _ _ _ (@pe_op _ _ _ _ _ _ _ _ op_mul (@pe_ix _ _ _ _ _ _ _ ix_tup (@pe_ix _ _ _ _ _ _ _ ix_tup (pv 0) (@pe_int _ _ _ _) (fun _ _ => rfl)) (pv 3) (fun _ _ => rfl)) (@pe_callTy _ _ _ _ _ _ _ _ _ call_int1 rfl T.z_int boot_int (@pa_cons _ _ _ _ _ (@pe_cmpR _ _ _ _ _ _ _ _ op_eq (@pe_ix _ _ _ _ _ _ _ ix_tup (@pe_ix _ _ _ _ _ _ _ ix_tup (pv 2) (pv 3) (fun _ _ => rfl)) (@pe_int _ _ _ _) (fun _ _ => rfl)) (@pe_int _ _ _ _) (nomark _)) (@pa_nil _) (by rfl)) (by decide) (by decide) (by rfl) (by rfl))) (@pa_nil _)))) (by rfl) (by first | exact .inl rfl | exact .inr rfl))) (@pss_nil _)) (@pss_one _ _ _ (@ps_if _ _ _ _ _ _ _ _ (@PW.pt _ _ _ (@pw_or _ _ _ _ _ _ _ (@pt_cmpR _ _ _ _ _ _ _ _ (op_ltT hr.units0) (@pe_ix _ _ _ _ _ _ _ ix_tup (pv 2) (pv 3) (fun _ _ => rfl)) (pv 4) (nomark _)) (@pw_or1 _ _ _ _ (@pt_cmpR _ _ _ _ _ _ _ _ (op_neD hr.units) (@pe_tup _ _ _ _ _ (@pa_cS _ _ _ _ _ _ _ (@pe_ix _ _ _ _ _ _ _ ix_tup (@pe_ix _ _ _ _ _ _ _ ix_tup (pv 1) (@pe_int _ _ _ _) (fun _ _ => rfl)) (pv 3) (fun _ _ => rfl)) (@pa_cS _ _ _ _ _ _ _ (@pe_ix _ _ _ _ _ _ _ ix_tup (@pe_ix _ _ _ _ _ _ _ ix_tup (pv 1) (@pe_int _ _ _ _) (fun _ _ => rfl)) (pv 3) (fun _ _ => rfl)) (@pa_nil _)))) (pv 5) (nomark _))))) (@pss_one _ _ _ (@ps_ret _ _ _ _ (@pe_bl _ _ _ _))) (@pss_nil _)))))) (@pss_one _ _ _ (@ps_ret _ _ _ _ (@pe_bl _ _ _ _))))), ?_⟩
    and_intros
    refine ⟨SqT.of g0, ?_⟩
    and_intros
    refine ⟨tgB, tB, book_it (n := 1) (by omega), fun Ha Sa => ?_⟩
    and_intros
    refine ⟨SqT.of (Sa _ _ g0), ?_⟩
    and_intros
    refine iteFF (by rw [gup]; simp) ?_
    and_intros
    refine ⟨SqT.of (Sa _ _ h0), ?_⟩
    and_intros
    refine ⟨⟨_, SqT.of (Sa _ _ hhb)⟩, for_enum (K := K) (a := hb) (xs := hbx) (fun j σ Hx => ∃ v3 v4 v5 : Option V, σ = [some (.ref hq), some (.ref lq), some (.ref bq), v3, v4, v5] ∧ Same H Hx) ⟨none, none, none, rfl, Sa⟩ (fun _ _ _ _ ⟨_, _, _, _, sc⟩ => SqT.of (sc _ _ hhb)) ?_ ?_⟩
    · rintro j x σ Hx p hx ⟨v3', v4', v5', rfl, Sx⟩ hp
      have hj : j < n := by
        have := (List.getElem?_eq_some_iff.mp hx).1
        omega
      obtain ⟨w, hwj, tw⟩ := thb.getM hx
      have ew : h.2.1.getD j (0, 0) = w := getD_of hwj
      obtain ⟨wq, rfl, hwq⟩ := tw.wordI
      obtain ⟨bv, hbv, tbv⟩ := word_at tbl (i := j) (by omega)
      obtain ⟨bw, rfl, hbw⟩ := tbv.wordI
      have fB : Fine (wordD (B.getD j (0, 0))) 1 33 := wfine (hBs _ (List.mem_of_getElem? (get_getD (d := (0, 0)) (show j < B.length by omega))))
      have fw : Fine (wordD w) 1 33 := wfine (hw.bs _ (List.mem_of_getElem? hwj))
      have hu1 := map_at (ns := h.2.2.1) (i := j) (by omega)
      have hm1 := map_at (ns := h.2.2.2) (i := j) (by omega)
      have gu1 := map_at (ns := g.2.2.1) (i := j) (by omega)
      have gm1 := map_at (ns := g.2.2.2) (i := j) (by omega)
      have bu := hw.ts _ (List.mem_of_getElem? (get_getD (d := 0) (show j < h.2.2.1.length by omega)))
      have bm := hw.ms _ (List.mem_of_getElem? (get_getD (d := 0) (show j < h.2.2.2.length by omega)))
      have cu := hgw.ts _ (List.mem_of_getElem? (get_getD (d := 0) (show j < g.2.2.1.length by omega)))
      have cm := hgw.ms _ (List.mem_of_getElem? (get_getD (d := 0) (show j < g.2.2.2.length by omega)))
      have hd := hdue j hj
      have hgj := hge j
      rw [ew] at hgj
      have Sp := H1.Same.upd (o := .tup [.int (j : Int), .ref wq]) hp
      have Pp : upd Hx p (.tup [.int (j : Int), .ref wq]) p = some (.tup [.int (j : Int), .ref wq]) := upd_same
      generalize upd Hx p (.tup [.int (j : Int), .ref wq]) = Hy at *
      have Sy := L2.Same.trans Sx Sp
      and_intros
      refine ⟨SqT.of Pp, ?_⟩
      and_intros
      refine ⟨SqT.of (Sy _ _ h0), ?_⟩
      and_intros
      refine ⟨SqT.of (Sy _ _ hhu), atI_nat hu1, ?_⟩
      and_intros
      refine ⟨SqT.of (Sy _ _ h0), ?_⟩
      and_intros
      refine ⟨SqT.of (Sy _ _ hhm), atI_nat hm1, ?_⟩
      and_intros
      refine ⟨szl 2, fun d1 hd1 => ?_⟩
      have S1 := H1.Same.upd (o := .tup [.int (h.2.2.1.getD j 0), .int (h.2.2.2.getD j 0)]) hd1
      have P1 : upd Hy d1 (.tup [.int (h.2.2.1.getD j 0), .int (h.2.2.2.getD j 0)]) d1 = some (.tup [.int (h.2.2.1.getD j 0), .int (h.2.2.2.getD j 0)]) := upd_same
      generalize upd Hy d1 (.tup [.int (h.2.2.1.getD j 0), .int (h.2.2.2.getD j 0)]) = Hz at *
      have Sz := L2.Same.trans Sy S1
      and_intros
      refine ⟨SqT.of (Sz _ _ hbq), atI_nat hbv, ?_⟩
      and_intros
      refine ⟨tbv.same Sz, tw.same Sz, ⟨_, fB.mono (by decide) (Nat.le_refl _)⟩, ⟨_, fw.mono (by decide) (Nat.le_refl _)⟩, ?_⟩
      and_intros
      refine ite2 (fun c => ?_) (fun c => ?_)
      · have cne : B.getD j (0, 0) ≠ h.2.1.getD j (0, 0) := fun z => by
          rw [eqv_word, decide_eq_true (z.trans ew)] at c
          exact absurd c (by decide)
        have hd' : cmp3 g j = (B.getD j (0, 0), 0, if (B.getD j (0, 0)).2 = 1 then h.2.2.2.getD j 0 else 0) := by
          rw [hd]
          unfold dueH
          rw [if_pos cne]
        have e2 : g.2.2.1.getD j 0 = 0 := congrArg (fun z => z.2.1) hd'
        have e3 : g.2.2.2.getD j 0 = if (B.getD j (0, 0)).2 = 1 then h.2.2.2.getD j 0 else 0 := congrArg (fun z => z.2.2) hd'
        have e4 : h.2.2.2.getD j 0 * (if decide (V.int (B.getD j (0, 0)).2 = V.int 1) = true then 1 else 0) = g.2.2.2.getD j 0 := by
          rw [e3]
          by_cases c1 : (B.getD j (0, 0)).2 = 1
          · rw [if_pos c1, if_pos (decide_eq_true (congrArg V.int c1)), Int.mul_one]
          · rw [if_neg c1, if_neg (fun z => c1 (by have z' := of_decide_eq_true z; injection z')), Int.mul_zero]
        and_intros
        refine ⟨SqT.of (Sz _ _ h0), ?_⟩
        and_intros
        refine ⟨SqT.of (Sz _ _ hhm), atI_nat hm1, ?_⟩
        and_intros
        refine ⟨SqT.of (Sz _ _ hbq), atI_nat hbv, ?_⟩
        and_intros
        refine ⟨SqT.of (Sz _ _ hbw), ?_⟩
        and_intros
        refine .inr ⟨_, rfl, ?_⟩
        and_intros
        refine ⟨.inr (ib1 _), ?_⟩
        and_intros
        refine ⟨szl 2, fun d2 hd2 => ?_⟩
        have S2 := H1.Same.upd (o := .tup [.int 0, .int (h.2.2.2.getD j 0 * (if decide (V.int (B.getD j (0, 0)).2 = V.int 1) = true then 1 else 0))]) hd2
        have P2 : upd Hz d2 (.tup [.int 0, .int (h.2.2.2.getD j 0 * (if decide (V.int (B.getD j (0, 0)).2 = V.int 1) = true then 1 else 0))]) d2 = some (.tup [.int 0, .int (h.2.2.2.getD j 0 * (if decide (V.int (B.getD j (0, 0)).2 = V.int 1) = true then 1 else 0))]) := upd_same
        generalize upd Hz d2 (.tup [.int 0, .int (h.2.2.2.getD j 0 * (if decide (V.int (B.getD j (0, 0)).2 = V.int 1) = true then 1 else 0))]) = Hu at *
        have Su := L2.Same.trans Sz S2
        rw [e4] at P2
        have P2' : Hu d2 = some (.tup [.int (g.2.2.1.getD j 0), .int (g.2.2.2.getD j 0)]) := by
          rw [e2]
          exact P2
        and_intros
        refine ⟨SqT.of (Su _ _ hbq), atI_nat hbv, ?_⟩
        and_intros
        refine ⟨SqT.of (Su _ _ hbw) (xs := [(B.getD j (0, 0)).1, (B.getD j (0, 0)).2].map V.int), SqT.of (Su _ _ hwq) (xs := [w.1, w.2].map V.int), ?_⟩
        and_intros
        refine iteFF (by rw [lt_false hgj]; decide) ?_
        and_intros
        refine ⟨SqT.of (Su _ _ g0), ?_⟩
        and_intros
        refine ⟨SqT.of (Su _ _ hgu), atI_nat gu1, ?_⟩
        and_intros
        refine ⟨SqT.of (Su _ _ g0), ?_⟩
        and_intros
        refine ⟨SqT.of (Su _ _ hgm), atI_nat gm1, ?_⟩
        and_intros
        refine ⟨szl 2, fun d3 hd3 => ?_⟩
        have S3 := H1.Same.upd (o := .tup [.int (g.2.2.1.getD j 0), .int (g.2.2.2.getD j 0)]) hd3
        have P3 : upd Hu d3 (.tup [.int (g.2.2.1.getD j 0), .int (g.2.2.2.getD j 0)]) d3 = some (.tup [.int (g.2.2.1.getD j 0), .int (g.2.2.2.getD j 0)]) := upd_same
        generalize upd Hu d3 (.tup [.int (g.2.2.1.getD j 0), .int (g.2.2.2.getD j 0)]) = Hv at *
        have fg : Fine (wordD (g.2.2.1.getD j 0, g.2.2.2.getD j 0)) 1 33 := by
          refine Fine.tup (k := 0) (L := 13) (n := 2) (fun x hx => ?_) (Nat.le_refl 2)
          simp only [List.mem_cons, List.not_mem_nil, or_false] at hx
          rcases hx with rfl | rfl
          · exact Fine.int (by show (g.2.2.1.getD j 0).natAbs < 10 ^ 12; omega)
          · exact Fine.int (by show (g.2.2.2.getD j 0).natAbs < 10 ^ 12; omega)
        and_intros
        refine ⟨Tr.wordM P3, Tr.wordM (S3 _ _ P2'), ⟨_, fg.mono (by decide) (Nat.le_refl _)⟩, ⟨_, fg.mono (by decide) (Nat.le_refl _)⟩, ?_⟩
        and_intros
        refine iteFF (by rw [eqv_word, decide_eq_true rfl]; decide) ?_
        exact ⟨_, _, _, rfl, L2.Same.trans Su S3⟩
      · have ceq : B.getD j (0, 0) = w := by
          rw [eqv_word] at c
          simpa using c
        have hd' : cmp3 g j = cmp3 h j := by
          rw [hd]
          unfold dueH
          rw [if_neg (by rw [ew]; exact fun z => z ceq)]
        have e2 : g.2.2.1.getD j 0 = h.2.2.1.getD j 0 := congrArg (fun z => z.2.1) hd'
        have e3 : g.2.2.2.getD j 0 = h.2.2.2.getD j 0 := congrArg (fun z => z.2.2) hd'
        rw [← e2, ← e3] at P1
        and_intros
        refine ⟨SqT.of (Sz _ _ hbq), atI_nat hbv, ?_⟩
        and_intros
        refine ⟨SqT.of (Sz _ _ hbw) (xs := [(B.getD j (0, 0)).1, (B.getD j (0, 0)).2].map V.int), SqT.of (Sz _ _ hwq) (xs := [w.1, w.2].map V.int), ?_⟩
        and_intros
        refine iteFF (by rw [lt_false hgj]; decide) ?_
        and_intros
        refine ⟨SqT.of (Sz _ _ g0), ?_⟩
        and_intros
        refine ⟨SqT.of (Sz _ _ hgu), atI_nat gu1, ?_⟩
        and_intros
        refine ⟨SqT.of (Sz _ _ g0), ?_⟩
        and_intros
        refine ⟨SqT.of (Sz _ _ hgm), atI_nat gm1, ?_⟩
        and_intros
        refine ⟨szl 2, fun d3 hd3 => ?_⟩
        have S3 := H1.Same.upd (o := .tup [.int (g.2.2.1.getD j 0), .int (g.2.2.2.getD j 0)]) hd3
        have P3 : upd Hz d3 (.tup [.int (g.2.2.1.getD j 0), .int (g.2.2.2.getD j 0)]) d3 = some (.tup [.int (g.2.2.1.getD j 0), .int (g.2.2.2.getD j 0)]) := upd_same
        generalize upd Hz d3 (.tup [.int (g.2.2.1.getD j 0), .int (g.2.2.2.getD j 0)]) = Hv at *
        have fg : Fine (wordD (g.2.2.1.getD j 0, g.2.2.2.getD j 0)) 1 33 := by
          refine Fine.tup (k := 0) (L := 13) (n := 2) (fun x hx => ?_) (Nat.le_refl 2)
          simp only [List.mem_cons, List.not_mem_nil, or_false] at hx
          rcases hx with rfl | rfl
          · exact Fine.int (by show (g.2.2.1.getD j 0).natAbs < 10 ^ 12; omega)
          · exact Fine.int (by show (g.2.2.2.getD j 0).natAbs < 10 ^ 12; omega)
        and_intros
        refine ⟨Tr.wordM P3, Tr.wordM (S3 _ _ P1), ⟨_, fg.mono (by decide) (Nat.le_refl _)⟩, ⟨_, fg.mono (by decide) (Nat.le_refl _)⟩, ?_⟩
        and_intros
        refine iteFF (by rw [eqv_word, decide_eq_true rfl]; decide) ?_
        exact ⟨_, _, _, rfl, L2.Same.trans Sz S3⟩
    · rintro σ Hx ⟨v3', v4', v5', rfl, Sx⟩
      and_intros
      exact q Hx Sx
theorem sclaw : FnScope ["_law_script", "_law_k", "_law_box_here", "_law_drawn", "_law_clauses", "_law_rules_here", "_law_n", "_law_own", "_law_house_here", "_law_notes", "_law_later", "_law_book", "_law_other", "_law_once"] ["_law_script"] (defScope (top 22)) := ⟨rfl, rfl, rfl, by decide +kernel, rfl, by decide +kernel, by decide +kernel⟩
theorem ok_law {f : Addr} {fd : FuncData} (F : Fun K "law" "law" (top 22) f fd) (T : Txt mg)
    {fput : Addr} {fdput : FuncData} (Dput : Def K mg "put" (top 1) ["things", "place", "thing"] fput fdput)
    {fnewer : Addr} {fdnewer : FuncData} (Dnewer : Def K mg "newer" (top 5) ["one", "other"] fnewer fdnewer)
    {fheard : Addr} {fdheard : FuncData} (Dheard : Def K mg "heard" (top 6) ["book", "notes"] fheard fdheard)
    {ftaken : Addr} {fdtaken : FuncData} (Dtaken : Def K mg "taken" (top 8) ["rules", "house", "y", "notes"] ftaken fdtaken)
    {frefuted : Addr} {fdrefuted : FuncData} (Drefuted : Def K mg "refuted" (top 9) ["rules", "house", "y", "word"] frefuted fdrefuted)
    {fnoted : Addr} {fdnoted : FuncData} (Dnoted : Def K mg "noted" (top 10) ["rules", "house", "about", "word"] fnoted fdnoted)
    {fgives_way : Addr} {fdgives_way : FuncData} (Dgives_way : Def K mg "gives_way" (top 11) ["rules", "old", "word"] fgives_way fdgives_way)
    {f_law_box : Addr} {fd_law_box : FuncData} (D_law_box : Def K mg "_law_box" (top 13) ["_law_script", "_law_k"] f_law_box fd_law_box)
    {f_law_take : Addr} {fd_law_take : FuncData} (D_law_take : Def K mg "_law_take" (top 14) ["_law_box_here", "_law_many"] f_law_take fd_law_take)
    {f_law_rules : Addr} {fd_law_rules : FuncData} (D_law_rules : Def K mg "_law_rules" (top 15) ["_law_box_here", "_law_whole"] f_law_rules fd_law_rules)
    {f_law_town : Addr} {fd_law_town : FuncData} (D_law_town : Def K mg "_law_town" (top 16) ["_law_box_here", "_law_most"] f_law_town fd_law_town)
    {f_law_same : Addr} {fd_law_same : FuncData} (D_law_same : Def K mg "_law_same" (top 17) ["_law_found", "_law_due"] f_law_same fd_law_same)
    {f_law_house : Addr} {fd_law_house : FuncData} (D_law_house : Def K mg "_law_house" (top 18) ["_law_box_here", "_law_n", "_law_rules_here", "_law_far"] f_law_house fd_law_house)
    {f_law_some_notes : Addr} {fd_law_some_notes : FuncData} (D_law_some_notes : Def K mg "_law_some_notes" (top 19) ["_law_box_here", "_law_n", "_law_far", "_law_most"] f_law_some_notes fd_law_some_notes)
    {f_law_right : Addr} {fd_law_right : FuncData} (D_law_right : Def K mg "_law_right" (top 20) ["_law_house_here", "_law_later", "_law_book"] f_law_right fd_law_right)
    {f_law_turned : Addr} {fd_law_turned : FuncData} (D_law_turned : Def K mg "_law_turned" (top 21) ["_law_box_here", "_law_notes"] f_law_turned fd_law_turned) : FnOk P w K mg base CX0 7 f fd ["_law_script"] (spLaw K) := by
  have Gput : FnOk P w K mg base CX0 1 fput fdput ["things", "place", "thing"] spPut := ok_put Dput T
  have Gnewer : FnOk P w K mg base CX0 1 fnewer fdnewer ["one", "other"] spNewer := ok_newer Dnewer T
  have Gheard : FnOk P w K mg base CX0 2 fheard fdheard ["book", "notes"] spHeard := ok_heard Dheard T Dnewer
  have Gtaken : FnOk P w K mg base CX0 4 ftaken fdtaken ["rules", "house", "y", "notes"] spTaken := ok_taken Dtaken T Dput Dnewer Drefuted Dnoted Dgives_way
  have Grefuted : FnOk P w K mg base CX0 2 frefuted fdrefuted ["rules", "house", "y", "word"] spRef := ok_ref Drefuted T Dput Dnewer
  have Gnoted : FnOk P w K mg base CX0 3 fnoted fdnoted ["rules", "house", "about", "word"] spNot := ok_not Dnoted T Dput Dnewer Dgives_way
  have Ggives_way : FnOk P w K mg base CX0 2 fgives_way fdgives_way ["rules", "old", "word"] spGives := ok_gives Dgives_way T Dnewer
  have G_law_box : FnOk P w K mg base CX0 1 f_law_box fd_law_box ["_law_script", "_law_k"] (spBox K) := ok_box D_law_box T
  have G_law_take : FnOk P w K mg base CX0 1 f_law_take fd_law_take ["_law_box_here", "_law_many"] spTake := ok_take D_law_take T
  have G_law_rules : FnOk P w K mg base CX0 2 f_law_rules fd_law_rules ["_law_box_here", "_law_whole"] spRules := ok_rules D_law_rules T D_law_take
  have G_law_town : FnOk P w K mg base CX0 2 f_law_town fd_law_town ["_law_box_here", "_law_most"] spTownD := ok_town D_law_town T D_law_take
  have G_law_same : FnOk P w K mg base CX0 4 f_law_same fd_law_same ["_law_found", "_law_due"] (spSame 3) := ok_same4 D_law_same T
  have G_law_house : FnOk P w K mg base CX0 2 f_law_house fd_law_house ["_law_box_here", "_law_n", "_law_rules_here", "_law_far"] spHouseC := ok_houseb D_law_house T D_law_take
  have G_law_some_notes : FnOk P w K mg base CX0 2 f_law_some_notes fd_law_some_notes ["_law_box_here", "_law_n", "_law_far", "_law_most"] spNotesB := ok_notesb D_law_some_notes T D_law_take
  have G_law_right : FnOk P w K mg base CX0 5 f_law_right fd_law_right ["_law_house_here", "_law_later", "_law_book"] spRight := ok_right D_law_right T D_law_same
  have G_law_turned : FnOk P w K mg base CX0 2 f_law_turned fd_law_turned ["_law_box_here", "_law_notes"] spTurned := ok_turned D_law_turned T D_law_take
  refine F.ok sclaw (fun vs H Q E h => ?_) (fun cdv A outer s H vs Q E hr h => ?_)
  · obtain ⟨a, ns, rfl, _⟩ := h
    rfl
  · obtain ⟨a, ns, rfl, hS, hlen, kq⟩ := h
    refine ⟨_, (@pss_cons _ _ _ _ _ (ps_for PassesOwn.never rfl (pi_range1 rfl T.z_range (@pa_cB _ _ _ _ _ _ _ _ (@pe_op _ _ _ _ _ _ _ _ op_add (@pe_int _ _ _ _) (@pe_callB _ _ _ _ _ _ _ _ _ call_len_seq rfl T.z_len boot_len (@pa_cS _ _ _ _ _ _ _ (@pe_slice _ _ _ _ _ _ _ _ _ _ sl_list (pv 0) (@po_none _) (@po_some _ _ _ (@pe_int _ _ _ _))) (@pa_nil _)) (by decide) (by decide) (by rfl) (by rfl))) (@pa_nil _))) (pg_name (i := 1) sclaw.nd rfl (Or.inl rfl))
        (@pss_cons _ _ _ _ _ (@ps_set _ _ 2 _ _ _ _ sclaw.nd rfl (Or.inl rfl) (@pcall _ _ _ _ _ _ _ _ _ _ _ _ _ D_law_box G_law_box (hr.mono (by decide)) (@pa_cN _ _ _ _ _ _ (pv 0) (@pa_cN _ _ _ _ _ _ (pv 1) (@pa_nil _))) (by rfl) (by decide) (by rfl) (by rfl)) (by rfl) (by first | exact .inl rfl | exact .inr rfl)) (@pss_cons _ _ _ _ _ (@ps_set _ _ 3 _ _ _ _ sclaw.nd rfl (Or.inl rfl) (@pcall _ _ _ _ _ _ _ _ _ _ _ _ _ D_law_rules G_law_rules (hr.mono (by decide)) (@pa_cN _ _ _ _ _ _ (pv 2) (@pa_cC _ _ _ _ _ _ _ (@pe_bl _ _ _ _) (@pa_nil _))) (by rfl) (by decide) (by rfl) (by rfl)) (by rfl) (by first | exact .inl rfl | exact .inr rfl)) (@pss_cons _ _ _ _ _ (@ps_set _ _ 4 _ _ _ _ sclaw.nd rfl (Or.inl rfl) (@pe_callTy _ _ _ _ _ _ _ _ _ call_tuple_of rfl T.z_tuple boot_tuple (@pa_cF _ _ _ _ _ _ _ _ (@pe_callB _ _ _ _ _ _ _ _ _ call_sortedS rfl T.z_sorted boot_sorted (@pa_cB _ _ _ _ _ _ _ _ (@pe_op _ _ _ _ _ _ _ _ op_cat (@pe_lst _ _ _ _ (@pa_cC _ _ _ _ _ _ _ (@pe_str _ _ _ _) (@pa_nil _))) (pe_comp (sc := defScope (top 22)) (NX := ["_law_script", "_law_k", "_law_box_here", "_law_drawn", "_law_clauses", "_law_rules_here", "_law_n", "_law_own", "_law_house_here", "_law_notes", "_law_later", "_law_book", "_law_other", "_law_once"]) (N := ["_law_word"]) (own := 1) (cap := []) rfl (pi_tup (@pe_ix _ _ _ _ _ _ _ ix_tup (pv 3) (@pe_int _ _ _ _) (fun _ _ => rfl))) rfl rfl (fun cl C s0 H0 fp => ⟨(pg_name (i := 0) (by show (["_law_word"] : List Str).Nodup; decide +kernel) rfl (Or.inl rfl)), (pts_one (@pt_cmpR _ _ _ _ _ _ _ _ op_ne (pv 0) (@pe_str _ _ _ _) (nomark _))), (pv 0)⟩) (by decide +kernel))) (@pa_nil _)) (by decide) (by decide) (by rfl) (by rfl)) (@pa_nil _)) (by decide) (by decide) (by rfl) (by rfl)) (by rfl) (by first | exact .inl rfl | exact .inr rfl)) (@pss_cons _ _ _ _ _ (@ps_set _ _ 5 _ _ _ _ sclaw.nd rfl (Or.inl rfl) (@pe_tup _ _ _ _ _ (@pa_cS _ _ _ _ _ _ _ (@pe_ix _ _ _ _ _ _ _ ix_tup (pv 3) (@pe_int _ _ _ _) (fun _ _ => rfl)) (@pa_cS _ _ _ _ _ _ _ (@pe_ix _ _ _ _ _ _ _ ix_tup (pv 3) (@pe_int _ _ _ _) (fun _ _ => rfl)) (@pa_cS _ _ _ _ _ _ _ (@pe_ix _ _ _ _ _ _ _ ix_tup (pv 3) (@pe_int _ _ _ _) (fun _ _ => rfl)) (@pa_cS _ _ _ _ _ _ _ (@pe_ix _ _ _ _ _ _ _ ix_tup (pv 3) (@pe_int _ _ _ _) (fun _ _ => rfl)) (@pa_cN _ _ _ _ _ _ (pv 4) (@pa_nil _))))))) (by rfl) (by first | exact .inl rfl | exact .inr rfl)) (@pss_ck _ _ _ (@pss_cons _ _ _ _ _ (@ps_set _ _ 6 _ _ _ _ sclaw.nd rfl (Or.inl rfl) (@pe_callB _ _ _ _ _ _ _ _ _ call_len_seq rfl T.z_len boot_len (@pa_cF _ _ _ _ _ _ _ _ (@pcall _ _ _ _ _ _ _ _ _ _ _ _ _ D_law_town G_law_town (hr.mono (by decide)) (@pa_cN _ _ _ _ _ _ (pv 2) (@pa_cC _ _ _ _ _ _ _ (@pe_int _ _ _ _) (@pa_nil _))) (by rfl) (by decide) (by rfl) (by rfl)) (@pa_nil _)) (by decide) (by decide) (by rfl) (by rfl)) (by rfl) (by first | exact .inl rfl | exact .inr rfl)) (@pss_cons _ _ _ _ _ (@ps_asg _ _ _ _ _ _ (@pcall _ _ _ _ _ _ _ _ _ _ _ _ _ D_law_house G_law_house (hr.mono (by decide)) (@pa_cN _ _ _ _ _ _ (pv 2) (@pa_cN _ _ _ _ _ _ (pv 6) (@pa_cN _ _ _ _ _ _ (pv 5) (@pa_cC _ _ _ _ _ _ _ (@pe_int _ _ _ _) (@pa_nil _))))) (by rfl) (by decide) (by rfl) (by rfl)) (pg_tup rfl (pgs_cons (pg_name (i := 7) sclaw.nd rfl (Or.inr rfl)) (pgs_cons (pg_name (i := 8) sclaw.nd rfl (Or.inl rfl)) pgs_nil))) (by rfl) (by rfl) (by rfl)) (@pss_ck _ _ _ (@pss_cons _ _ _ _ _ (@ps_set _ _ 9 _ _ _ _ sclaw.nd rfl (Or.inl rfl) (@pe_callTy _ _ _ _ _ _ _ _ _ call_tuple_of rfl T.z_tuple boot_tuple (@pa_cons _ _ _ _ _ (pe_comp (sc := defScope (top 22)) (NX := ["_law_script", "_law_k", "_law_box_here", "_law_drawn", "_law_clauses", "_law_rules_here", "_law_n", "_law_own", "_law_house_here", "_law_notes", "_law_later", "_law_book", "_law_other", "_law_once"]) (N := ["_law_note", "_law_own"]) (own := 1) (cap := [7]) rfl (pi_tup (@pcall _ _ _ _ _ _ _ _ _ _ _ _ _ D_law_some_notes G_law_some_notes (hr.mono (by decide)) (@pa_cN _ _ _ _ _ _ (pv 2) (@pa_cN _ _ _ _ _ _ (pv 6) (@pa_cC _ _ _ _ _ _ _ (@pe_int _ _ _ _) (@pa_cC _ _ _ _ _ _ _ (@pe_int _ _ _ _) (@pa_nil _))))) (by rfl) (by decide) (by rfl) (by rfl))) rfl rfl (fun cl C s0 H0 fp => ⟨(pg_name (i := 0) (by show (["_law_note", "_law_own"] : List Str).Nodup; decide +kernel) rfl (Or.inl rfl)), (pts_one (@pt_cmpR _ _ _ _ _ _ _ _ op_ne (@pe_ix _ _ _ _ _ _ _ (ix_tupK (K := K) rfl) (pv 0) (@pe_int _ _ _ _) (fun _ _ => rfl)) (pv 1) (nomark _))), (pv 0)⟩) (by decide +kernel)) (@pa_nil _) (by rfl)) (by decide) (by decide) (by rfl) (by rfl)) (by rfl) (by first | exact .inl rfl | exact .inr rfl)) (@pss_cons _ _ _ _ _ (@ps_set _ _ 10 _ _ _ _ sclaw.nd rfl (Or.inl rfl) (@pcall _ _ _ _ _ _ _ _ _ _ _ _ _ Dtaken Gtaken (hr.mono (by decide)) (@pa_cN _ _ _ _ _ _ (pv 5) (@pa_cN _ _ _ _ _ _ (pv 8) (@pa_cN _ _ _ _ _ _ (pv 7) (@pa_cN _ _ _ _ _ _ (pv 9) (@pa_nil _))))) (by rfl) (by decide) (by rfl) (by rfl)) (by rfl) (by first | exact .inl rfl | exact .inr rfl)) (@pss_cons _ _ _ _ _ (@ps_set _ _ 11 _ _ _ _ sclaw.nd rfl (Or.inr rfl) (@pcall _ _ _ _ _ _ _ _ _ _ _ _ _ Dheard Gheard (hr.mono (by decide)) (@pa_cS _ _ _ _ _ _ _ (@pe_ix _ _ _ _ _ _ _ ix_tup (pv 8) (@pe_int _ _ _ _) (fun _ _ => rfl)) (@pa_cN _ _ _ _ _ _ (pv 9) (@pa_nil _))) (by rfl) (by decide) (by rfl) (by rfl)) (by rfl) (by first | exact .inl rfl | exact .inr rfl)) (@pss_ck _ _ _ (@pss_cons _ _ _ _ _ (@ps_set _ _ 12 _ _ _ _ sclaw.nd rfl (Or.inl rfl) (@pcall _ _ _ _ _ _ _ _ _ _ _ _ _ Dtaken Gtaken (hr.mono (by decide)) (@pa_cN _ _ _ _ _ _ (pv 5) (@pa_cN _ _ _ _ _ _ (pv 8) (@pa_cN _ _ _ _ _ _ (pv 7) (@pa_cF _ _ _ _ _ _ _ _ (@pcall _ _ _ _ _ _ _ _ _ _ _ _ _ D_law_turned G_law_turned (hr.mono (by decide)) (@pa_cN _ _ _ _ _ _ (pv 2) (@pa_cN _ _ _ _ _ _ (pv 9) (@pa_nil _))) (by rfl) (by decide) (by rfl) (by rfl)) (@pa_nil _))))) (by rfl) (by decide) (by rfl) (by rfl)) (by rfl) (by first | exact .inl rfl | exact .inr rfl)) (@pss_cons _ _ _ _ _ (@ps_if _ _ _ _ _ _ _ _ (@PW.pt _ _ _ (@pw_or _ _ _ _ _ _ _ (@pt_not _ _ _ _ (@pt_val _ _ _ (@pcall _ _ _ _ _ _ _ _ _ _ _ _ _ D_law_same G_law_same (hr.mono (by decide)) (@pa_cS _ _ _ _ _ _ _ (@pe_ix _ _ _ _ _ _ _ ix_tup (pv 10) (@pe_int _ _ _ _) (fun _ _ => rfl)) (@pa_cN _ _ _ _ _ _ (pv 11) (@pa_nil _))) (by rfl) (by decide) (by rfl) (by rfl)) (by intro _; rfl))) (@pw_or1 _ _ _ _ (@pt_not _ _ _ _ (@pt_val _ _ _ (@pcall _ _ _ _ _ _ _ _ _ _ _ _ _ D_law_same G_law_same (hr.mono (by decide)) (@pa_cS _ _ _ _ _ _ _ (@pe_ix _ _ _ _ _ _ _ ix_tup (pv 12) (@pe_int _ _ _ _) (fun _ _ => rfl)) (@pa_cN _ _ _ _ _ _ (pv 11) (@pa_nil _))) (by rfl) (by decide) (by rfl) (by rfl)) (by intro _; rfl)))))) (@pss_one _ _ _ (@ps_ret _ _ _ _ (@pe_bl _ _ _ _))) (@pss_nil _)) (@pss_cons _ _ _ _ _ (@ps_set _ _ 13 _ _ _ _ sclaw.nd rfl (Or.inl rfl) (@pe_callTy _ _ _ _ _ _ _ _ _ call_tuple_of rfl T.z_tuple boot_tuple (@pa_cons _ _ _ _ _ (pe_comp (sc := defScope (top 22)) (NX := ["_law_script", "_law_k", "_law_box_here", "_law_drawn", "_law_clauses", "_law_rules_here", "_law_n", "_law_own", "_law_house_here", "_law_notes", "_law_later", "_law_book", "_law_other", "_law_once"]) (N := ["_law_of", "_law_word", "_law_book"]) (own := 2) (cap := [11]) rfl (pi_tup (pv 9)) rfl rfl (fun cl C s0 H0 fp => ⟨(pg_tupK (K := K) (n := 2) rfl rfl (pgs_cons (pg_name (i := 0) (by show (["_law_of", "_law_word", "_law_book"] : List Str).Nodup; decide +kernel) rfl (Or.inl rfl)) (pgs_cons (pg_name (i := 1) (by show (["_law_of", "_law_word", "_law_book"] : List Str).Nodup; decide +kernel) rfl (Or.inl rfl)) pgs_nil))), pts_nil, (@pe_tup _ _ _ _ _ (@pa_cN _ _ _ _ _ _ (pv 0) (@pa_cS _ _ _ _ _ _ _ (@pe_ix _ _ _ _ _ _ _ (ix_tupK (K := K) rfl) (pv 2) (pv 0) (fun _ _ => rfl)) (@pa_nil _))))⟩) (by decide +kernel)) (@pa_nil _) (by rfl)) (by decide) (by decide) (by rfl) (by rfl)) (by rfl) (by first | exact .inl rfl | exact .inr rfl)) (@pss_ck _ _ _ (@pss_cons _ _ _ _ _ (@ps_if _ _ _ _ _ _ _ _ (@pt_not _ _ _ _ (@pt_val _ _ _ (@pcall _ _ _ _ _ _ _ _ _ _ _ _ _ D_law_right G_law_right (hr.mono (by decide)) (@pa_cN _ _ _ _ _ _ (pv 8) (@pa_cF _ _ _ _ _ _ _ _ (@pcall _ _ _ _ _ _ _ _ _ _ _ _ _ Dtaken Gtaken (hr.mono (by decide)) (@pa_cN _ _ _ _ _ _ (pv 5) (@pa_cN _ _ _ _ _ _ (pv 8) (@pa_cN _ _ _ _ _ _ (pv 7) (@pa_cN _ _ _ _ _ _ (pv 13) (@pa_nil _))))) (by rfl) (by decide) (by rfl) (by rfl)) (@pa_cN _ _ _ _ _ _ (pv 11) (@pa_nil _)))) (by rfl) (by decide) (by rfl) (by rfl)) (by intro _; rfl))) (@pss_one _ _ _ (@ps_ret _ _ _ _ (@pe_bl _ _ _ _))) (@pss_nil _)) (@pss_one _ _ _ (@ps_if _ _ _ _ _ _ _ _ (@pt_not _ _ _ _ (@pt_val _ _ _ (@pcall _ _ _ _ _ _ _ _ _ _ _ _ _ D_law_same G_law_same (hr.mono (by decide)) (@pa_cF _ _ _ _ _ _ _ _ (@pcall _ _ _ _ _ _ _ _ _ _ _ _ _ Dtaken Gtaken (hr.mono (by decide)) (@pa_cN _ _ _ _ _ _ (pv 5) (@pa_cN _ _ _ _ _ _ (pv 10) (@pa_cN _ _ _ _ _ _ (pv 7) (@pa_cN _ _ _ _ _ _ (pv 9) (@pa_nil _))))) (by rfl) (by decide) (by rfl) (by rfl)) (@pa_cN _ _ _ _ _ _ (pv 10) (@pa_nil _))) (by rfl) (by decide) (by rfl) (by rfl)) (by intro _; rfl))) (@pss_one _ _ _ (@ps_ret _ _ _ _ (@pe_bl _ _ _ _))) (@pss_nil _))))))))))))))))))))) (@pss_one _ _ _ (@ps_ret _ _ _ _ (@pe_bl _ _ _ _)))), ?_⟩
    and_intros
    refine ⟨hS, fun sp hsp => ?_⟩
    have S0 := H1.Same.upd (o := .lst (cutV (ns.map V.int) none (some 30))) hsp
    have P0 : upd H sp (.lst (cutV (ns.map V.int) none (some 30))) sp = some (.lst (cutV (ns.map V.int) none (some 30))) := upd_same
    generalize upd H sp (.lst (cutV (ns.map V.int) none (some 30))) = H0 at *
    have hcl := cutV_length (ns.map V.int) none (some 30)
    rw [List.length_map] at hcl
    and_intros
    refine ⟨.inl (SqL.of P0), ?_⟩
    and_intros
    refine ⟨by omega, by omega, ?_⟩
    refine for_range (fun i σ H2 => ∃ v1 v2 v3 v4 v5 v6 v7 v8 v9 v10 v11 v12 v13 : Option V, σ = [some (.ref a), v1, v2, v3, v4, v5, v6, v7, v8, v9, v10, v11, v12, v13] ∧ Same H H2) ⟨none, none, none, none, none, none, none, none, none, none, none, none, none, rfl, S0⟩ ?_ ?_
    · rintro i σ H2 hi ⟨v1, v2, v3, v4, v5, v6, v7, v8, v9, v10, v11, v12, v13, rfl, s2⟩
      have hi2 : i ≤ 63 := by omega
      and_intros
      refine ⟨s2.seq hS, by omega, by omega, fun b H3 hb s3 B => ?_⟩
      have hbH : H b = none := s2.free hb
      and_intros
      refine ⟨B, fun rq r H4 E4 tr ro _ => ?_⟩
      and_intros
      refine ⟨szl 1, fun p1 hp1 => ?_⟩
      have E5 := Ext.new (o := .lst [.str "newer"]) E4.bx hp1
      have P5 : upd H4 p1 (.lst [.str "newer"]) p1 = some (.lst [.str "newer"]) := upd_same
      generalize upd H4 p1 (.lst [.str "newer"]) = H5 at *
      obtain ⟨_, cb, e, hrq, hcb⟩ := (tr.ext E5 E4.bx).ruI
      cases e
      have hl7 := ro.l
      and_intros
      refine ⟨SqT.of hrq, ?_⟩
      and_intros
      refine ⟨⟨_, SqT.of hcb⟩, fun D hD => ?_⟩
      refine comp_tup (K := K) (a := cb) (xs := r.cl.map V.str) (fun j acc Hc => Same H5 Hc ∧ Hc D = some (.lst acc) ∧ ∃ ss : List Str, acc = ss.map V.str ∧ ss.length ≤ j) ⟨H1.Same.upd hD, upd_same, [], rfl, Nat.le_refl _⟩ (fun _ _ _ _ ⟨sc, _⟩ => SqT.of (sc _ _ hcb)) ?_ ?_
      · rintro j v acc Hc hv ⟨Sc, hDc, ss, rfl, hsl⟩
        rw [List.getElem?_map] at hv
        cases hm : r.cl[j]? with
        | none => rw [hm] at hv; cases hv
        | some x =>
        rw [hm] at hv
        cases hv
        have hj : j < r.cl.length := (List.getElem?_eq_some_iff.mp hm).1
        and_intros
        refine ⟨Wk.set rfl Wk.refl, ?_⟩
        and_intros
        refine ite2 (fun c => ?_) (fun c => ?_)
        · and_intros
          refine ⟨hDc, small1000 (by rw [List.length_map]; omega), fun a' u e => by rw [upd_ne (ne_of_none e hD)]; exact Sc a' u e, upd_same, ss ++ [x], (by rw [List.map_append]; rfl), by rw [List.length_append]; exact Nat.succ_le_succ hsl⟩
        · exact ⟨Sc, hDc, ss, rfl, by omega⟩
      rintro acc H6 ⟨S6, hD6, ss, rfl, hsl⟩
      rw [List.length_map] at hsl
      have B6 := (H1.Same.ext S6 E5.bx).bx
      have E46 := E5.trans (H1.Same.ext S6 E5.bx)
      refine ⟨p1, D, _, _, rfl, rfl, S6 _ _ P5, hD6, Nat.le_of_lt (small1000 (by rw [List.length_map]; show 1 + ss.length ≤ 1000; omega)), fun p2 hp2 => ?_⟩
      have E7 := Ext.new (o := .lst ([.str "newer"] ++ ss.map V.str)) B6 hp2
      have P7 : upd H6 p2 (.lst ([.str "newer"] ++ ss.map V.str)) p2 = some (.lst ([.str "newer"] ++ ss.map V.str)) := upd_same
      generalize upd H6 p2 (.lst ([.str "newer"] ++ ss.map V.str)) = H7 at *
      and_intros
      refine ⟨"newer" :: ss, rfl, SqL.of P7, by rw [List.length_cons]; omega, fun l7 cl hl7' pm => ?_⟩
      have E8 := Ext.new (o := .lst (cl.map V.str)) E7.bx hl7'
      have P8 : upd H7 l7 (.lst (cl.map V.str)) l7 = some (.lst (cl.map V.str)) := upd_same
      generalize upd H7 l7 (.lst (cl.map V.str)) = H8 at *
      have hclen : cl.length ≤ 8 := by
        rw [pm.length_eq, List.length_cons]
        omega
      have hn : hasC cl "newer" = true := by
        unfold hasC inV
        rw [List.any_eq_true]
        exact ⟨.str "newer", List.mem_map.mpr ⟨"newer", pm.mem_iff.mpr (List.mem_cons_self ..), rfl⟩, by decide⟩
      refine ⟨l7, _, rfl, .inl ⟨SqL.of P8, fun cq hcq => ?_⟩⟩
      have E9 := Ext.new (o := .tup (cl.map V.str)) E8.bx hcq
      have P9 : upd H8 cq (.tup (cl.map V.str)) cq = some (.tup (cl.map V.str)) := upd_same
      generalize upd H8 cq (.tup (cl.map V.str)) = H9 at *
      have E59 : Ext b H5 H9 := (H1.Same.ext S6 E5.bx).trans (E7.trans (E8.trans E9))
      have hrq9 := E59.tup E5.bx hrq
      and_intros
      refine ⟨SqT.of hrq9, ?_⟩
      and_intros
      refine ⟨SqT.of hrq9, ?_⟩
      and_intros
      refine ⟨SqT.of hrq9, ?_⟩
      and_intros
      refine ⟨SqT.of hrq9, ?_⟩
      and_intros
      refine ⟨szl 5, fun ru hru => ?_⟩
      have EA := Ext.new (o := .tup [.int r.o, .int r.w, .int r.t, .int r.c, .ref cq]) E9.bx hru
      have PA : upd H9 ru (.tup [.int r.o, .int r.w, .int r.t, .int r.c, .ref cq]) ru = some (.tup [.int r.o, .int r.w, .int r.t, .int r.c, .ref cq]) := upd_same
      generalize upd H9 ru (.tup [.int r.o, .int r.w, .int r.t, .int r.c, .ref cq]) = HA at *
      have tru : Tr HA (.ref ru) (ruD ⟨r.o, r.w, r.t, r.c, cl⟩) := .tup PA (.cons (.int _) (.cons (.int _) (.cons (.int _) (.cons (.int _) (.cons (.tup (EA.tup E9.bx P9) (trl_strs' cl)) .nil)))))
      have rok : RuW ⟨r.o, r.w, r.t, r.c, cl⟩ := ⟨ro.w, ro.t⟩
      have E3A : Ext b H3 HA := E4.trans (E5.trans (E59.trans EA))
      have BA : Box HA b := EA.bx
      clear E4 E5 E7 E8 E9 EA E46 E59 P5 P7 P8 P9 PA hD6 S6 B6 hrq9 tr hrq hcb hD hp1 hp2 hl7' hcq hru
      and_intros
      refine ⟨[some (.ref a), some (.int (0 + i)), some (.ref b), some (.ref rq), some (.ref cq), some (.ref ru), v6, v7, v8, v9, v10, v11, v12, v13], rfl, ?_⟩
      and_intros
      refine ⟨BA, ⟨by decide, by decide⟩, fun tq ts HB EB tt ⟨t2, t8⟩ hck => ?_⟩
      obtain ⟨_, txs, e, htq, ttl⟩ := tt.tupI
      cases e
      have htl := ttl.lenM
      have hnl : ((txs.length : Nat) : Int) = ((ts.length : Nat) : Int) := by rw [htl]
      have hn8 : ts.length ≤ 8 := by omega
      and_intros
      refine ⟨.inr (SqT.of htq), ?_⟩
      and_intros
      refine ⟨⟨r.o, r.w, r.t, r.c, cl⟩, rfl, EB.bx, ⟨hnl, t2, hn8⟩, tru.ext EB BA, rok, ⟨by decide, by decide⟩, fun q hq o h HC EC hqt th ho ⟨hw, hup, hzero⟩ => ?_⟩
      and_intros
      refine ⟨SqT.of hqt, ?_⟩
      and_intros
      refine ⟨[some (.ref a), some (.int (0 + i)), some (.ref b), some (.ref rq), some (.ref cq), some (.ref ru), some (.int ((txs.length : Nat) : Int)), some (.int ((o : Nat) : Int)), some (.ref hq), v9, v10, v11, v12, v13], rfl, ?_⟩
      and_intros
      refine ⟨EC.bx, ⟨hnl, t2, hn8⟩, ⟨by decide, by decide⟩, ⟨by decide, by decide⟩, fun nq nts HD ED tn hnts hnl2 => ?_⟩
      have E3D := E3A.trans (EB.trans (EC.trans ED))
      have xD : Same H HD := L2.Same.trans s2 (Ext.same s3 E3D hb)
      have thD := th.ext ED EC.bx
      have trD := tru.ext (EB.trans (EC.trans ED)) BA
      have BD : Box HD b := ED.bx
      clear EB EC ED E3D E3A tru th hqt tt htq
      obtain ⟨_, nxs, e, hnq, tnl⟩ := tn.tupI
      cases e
      have hnxl := tnl.lenM
      and_intros
      refine ⟨⟨_, SqT.of hnq⟩, fun D hD => ?_⟩
      refine comp_tup (K := K) (a := nq) (xs := nxs) (fun j acc Hc => Same HD Hc ∧ Hc D = some (.lst acc) ∧ acc.length ≤ j ∧ TrL Hc acc (((nts.take j).filter fun x => decide (x.1 ≠ o)).map noteD)) ⟨H1.Same.upd hD, upd_same, Nat.le_refl _, .nil⟩ (fun _ _ _ _ ⟨sc, _⟩ => SqT.of (sc _ _ hnq)) ?_ ?_
      · rintro j v acc Hc hv ⟨Sc, hDc, hal, tc⟩
        obtain ⟨nt, hnt, tv⟩ := tnl.getM hv
        obtain ⟨vq, wv, rfl, hvq, twv⟩ := tv.noteI
        have hj : j < nxs.length := (List.getElem?_eq_some_iff.mp hv).1
        have et : nts.take (j + 1) = nts.take j ++ [nt] := by rw [List.take_add_one, hnt]; rfl
        and_intros
        refine ⟨Wk.set rfl Wk.refl, ?_⟩
        and_intros
        refine ⟨SqT.of (Sc _ _ hvq), ?_⟩
        and_intros
        refine ite2 (fun c => ?_) (fun c => ?_)
        · have c' : ¬ nt.1 = o := by
            have : ¬ (nt.1 : Int) = (o : Int) := by simpa using c
            omega
          and_intros
          refine ⟨hDc, small1000 (by omega), fun a' u e => by rw [upd_ne (ne_of_none e hD)]; exact Sc a' u e, upd_same, by rw [List.length_append]; exact Nat.succ_le_succ hal, ?_⟩
          rw [et, List.filter_append, List.filter_cons_of_pos (by simpa using c')]
          exact (tc.snocM (tv.same Sc)).mono fun a' us e => by rw [upd_ne (ne_of e hDc (by intro z; cases z))]; exact e
        · have c' : nt.1 = o := by
            have : (nt.1 : Int) = (o : Int) := by simpa using c
            omega
          refine ⟨Sc, hDc, by omega, ?_⟩
          rw [et, List.filter_append, List.filter_cons_of_neg (by simpa using c'), List.filter_nil, List.append_nil]
          exact tc
      rintro acc HE ⟨SE, hDE, hal, tE⟩
      rw [hnxl, List.take_length] at tE
      refine ⟨D, acc, rfl, .inl ⟨SqL.of hDE, fun oq hoq => ?_⟩⟩
      have SF := H1.Same.upd (o := .tup acc) hoq
      have PF : upd HE oq (.tup acc) oq = some (.tup acc) := upd_same
      generalize upd HE oq (.tup acc) = HF at *
      have hoths : ∀ x ∈ nts.filter (fun x => decide (x.1 ≠ o)), NW ts.length x ∧ x.1 ≠ o := fun x hx => by
        have := List.mem_filter.mp hx
        exact ⟨hnts x this.1, by simpa using this.2⟩
      have hol : (nts.filter fun x => decide (x.1 ≠ o)).length ≤ 10 := by
        have := List.length_filter_le (fun x : Nat × (Int × Int) => decide (x.1 ≠ o)) nts
        omega
      have tOl := tE.same SF
      have tO : Tr HF (.ref oq) (notesD (nts.filter fun x => decide (x.1 ≠ o))) := .tup PF tOl
      generalize nts.filter (fun x => decide (x.1 ≠ o)) = os at *
      have SDF := L2.Same.trans SE SF
      have EDF : Ext b HD HF := H1.Same.ext SDF BD
      have thF := thD.same SDF
      have trF := trD.same SDF
      have xF : Same H HF := L2.Same.trans xD SDF
      have BF : Box HF b := EDF.bx
      have haccl := tOl.lenM
      clear SE SF SDF EDF tE hDE hD hoq thD trD xD tn hnq tnl BD
      obtain ⟨fb, fu, fm, fbx, hf0, hfb, tfb, hfu, hfm⟩ := thF.parts
      have hoN : ∀ x ∈ os, NW ts.length x := fun x hx => (hoths x hx).1
      have hoO : ∀ x ∈ os, x.1 ≠ o := fun x hx => (hoths x hx).2
      have hoL : ∀ x ∈ os, x.1 < h.2.1.length := fun x hx => by
        rw [hw.bl]
        exact (hoN x hx).1
      and_intros
      refine ⟨⟨r.o, r.w, r.t, r.c, cl⟩, h, os, rfl, trF, thF, tO, ⟨rfl, ho, hn8⟩, ⟨hw, by omega, hoN⟩, fun lq HG SG tL => ?_⟩
      and_intros
      refine ⟨SqT.of (SG _ _ hf0), ?_⟩
      and_intros
      refine ⟨(show Tr HG (.ref fb) (bookD h.2.1) from .tup (SG _ _ hfb) (tfb.same SG)), tO.same SG, hoL, by rw [hw.bl]; exact hn8, fun bq HI SI tBk => ?_⟩
      have SFI := L2.Same.trans SG SI
      have EFI : Ext b HF HI := H1.Same.ext SFI BF
      and_intros
      refine ⟨[some (.ref a), some (.int (0 + i)), some (.ref b), some (.ref rq), some (.ref cq), some (.ref ru), some (.int ((txs.length : Nat) : Int)), some (.int ((o : Nat) : Int)), some (.ref hq), some (.ref oq), some (.ref lq), some (.ref bq), v12, v13], rfl, ?_⟩
      and_intros
      refine ⟨EFI.bx, tO.same SFI, by omega, fun mq ms HJ EJ tM hmem hml => ?_⟩
      have EFJ := EFI.trans EJ
      have hmN : ∀ x ∈ ms, NW ts.length x := fun x hx => hoN x ((hmem x).mp hx)
      have hmO : ∀ x ∈ ms, x.1 ≠ o := fun x hx => hoO x ((hmem x).mp hx)
      and_intros
      refine ⟨⟨r.o, r.w, r.t, r.c, cl⟩, h, ms, rfl, trF.ext EFJ BF, thF.ext EFJ BF, tM, ⟨rfl, ho, hn8⟩, ⟨hw, by omega, hmN⟩, fun gq HK SK tG => ?_⟩
      have EFK : Ext b HF HK := EFJ.trans (H1.Same.ext SK EJ.bx)
      have EIK : Ext b HI HK := EJ.trans (H1.Same.ext SK EJ.bx)
      have xK : Same H HK := Ext.same xF EFK hbH
      have thK := thF.ext EFK BF
      have trK := trF.ext EFK BF
      have tOK := tO.ext EFK BF
      have PK := EFK.tup BF PF
      have tOlK := tOl.ext EFK BF
      have tLK := (tL.same SI).ext EIK EFI.bx
      have tBK := tBk.ext EIK EFI.bx
      clear SG SI SFI EFI EJ EFJ EFK EIK SK tL tBk thF trF tO tOl PF xF hf0 hfb tfb hfu hfm BF tM
      have eL : (takenH cl o h os).2.1 = heardL h.2.1 os := taken_heard hn hoO
      have eG : (takenH cl o h ms).2.1 = heardL h.2.1 os := (taken_heard hn hmO).trans (heardL_mem hoL hmem)
      have hLw := takenH_ok (cl := cl) (y := o) hw hoN
      have hst : takenH cl o (takenH cl o h os) os = takenH cl o h os := taken_stay hn hoO fun n hn' => by
        rw [eL]
        exact (heardL_get hoL n.1).2.1 n hn' rfl
      have hBge : ∀ j, geW ((heardL h.2.1 os).getD j (0, 0)) (h.2.1.getD j (0, 0)) := fun j => (heardL_get hoL j).1
      have hBl : (heardL h.2.1 os).length = ts.length := by rw [← eL]; exact hLw.bl
      have hBs : ∀ w ∈ heardL h.2.1 os, 0 ≤ w.1 ∧ w.1 ≤ 1000010 ∧ 0 ≤ w.2 ∧ w.2 ≤ 3 := by rw [← eL]; exact hLw.bs
      have hB9 : ∀ j, j < ts.length → ((heardL h.2.1 os).getD j (0, 0)).1 ≤ 1000009 := fun j hj => by
        rcases (heardL_get hoL j).2.2 with z | ⟨n, hn', e, z⟩
        · rw [z]
          exact hzero _ (List.mem_of_getElem? (get_getD (d := (0, 0)) (show j < h.2.1.length by rw [hw.bl]; exact hj)))
        · rw [z]
          exact (hoN n hn').2.2.1
      have hBo : ∀ j, (∀ x ∈ os, x.1 ≠ j) → (heardL h.2.1 os).getD j (0, 0) = h.2.1.getD j (0, 0) := fun j hj => by
        rcases (heardL_get hoL j).2.2 with z | ⟨n, hn', e, _⟩
        · exact z
        · exact absurd e.symm (hj n hn')
      obtain ⟨lb, lu, lm, lbx, hl0, hlb, tlb, hlu, hlm⟩ := tLK.parts
      obtain ⟨gb, gu, gm, gbx, hg0, hgb, tgb, hgu, hgm⟩ := tG.parts
      rw [eL] at tlb
      rw [eG] at tgb
      generalize heardL h.2.1 os = Bk at *
      and_intros
      refine ⟨SqT.of hl0, ?_⟩
      and_intros
      refine ⟨.tup hlb tlb, tBK, book_it (n := 1) (by omega), fun H1' S1 => ?_⟩
      and_intros
      refine ⟨SqT.of (S1 _ _ hg0), ?_⟩
      and_intros
      refine ⟨.tup (S1 _ _ hgb) (tgb.same S1), tBK.same S1, book_it (n := 1) (by omega), fun H2' S2 => ?_⟩
      have S12 := L2.Same.trans S1 S2
      have P2 := S12 _ _ PK
      obtain ⟨_, bkx, e, hbk, tbk⟩ := (tBK.same S12).tupI
      cases e
      and_intros
      refine ⟨⟨_, SqT.of P2⟩, fun D3 hD3 => comp_mapD (((os.map fun x => x.1).map fun k => (k, Bk.getD k (0, 0))).map noteD) hD3 P2 (by omega) (by rw [List.length_map, List.length_map, List.length_map]; exact haccl.symm) (fun j x d hx hd Hc Sc R Z hR => ?_) (fun acc3 H3' S3 hD3' t3 => ?_)⟩
      · obtain ⟨nt, hnt, tv⟩ := (tOlK.same S12).getM hx
        obtain ⟨vq, wv, rfl, hvq, twv⟩ := tv.noteI
        rw [List.getElem?_map, List.getElem?_map, List.getElem?_map, hnt] at hd
        cases hd
        have hk := (hoN nt (List.mem_of_getElem? hnt)).1
        obtain ⟨bv, hbv, tbv⟩ := word_at tbk (i := nt.1) (by omega)
        and_intros
        refine ⟨SqT.of (Sc _ _ hvq), ?_⟩
        and_intros
        refine ⟨Wk.set rfl (Wk.set rfl Wk.refl), ?_⟩
        and_intros
        refine ⟨SqT.of (Sc _ _ hbk), atI_nat hbv, ?_⟩
        and_intros
        refine ⟨szl 2, fun q4 hq4 => ?_⟩
        have S4 := H1.Same.upd (o := .tup [.int ((nt.1 : Nat) : Int), bv]) hq4
        exact hR _ _ S4 (.tup upd_same (.cons (.int _) (.cons (tbv.same (L2.Same.trans Sc S4)) .nil)))
      refine ⟨D3, acc3, rfl, .inl ⟨SqL.of hD3', fun nq2 hnq2 => ?_⟩⟩
      have S5 := H1.Same.upd (o := .tup acc3) hnq2
      have P5 : upd H3' nq2 (.tup acc3) nq2 = some (.tup acc3) := upd_same
      generalize upd H3' nq2 (.tup acc3) = H5' at *
      have SK5 := L2.Same.trans S12 (L2.Same.trans S3 S5)
      have tN : Tr H5' (.ref nq2) (notesD ((os.map fun x => x.1).map fun k => (k, Bk.getD k (0, 0)))) := .tup P5 (t3.same S5)
      have hnN : ∀ x ∈ ((os.map fun x => x.1).map fun k => (k, Bk.getD k (0, 0))), NW ts.length x := fun x hx => by
        obtain ⟨k, hk, rfl⟩ := List.mem_map.mp hx
        obtain ⟨y, hy, rfl⟩ := List.mem_map.mp hk
        have hk := (hoN y hy).1
        have := hBs _ (List.mem_of_getElem? (get_getD (d := (0, 0)) (show y.1 < Bk.length by omega)))
        exact ⟨hk, this.1, hB9 _ hk, this.2.2⟩
      have onc := once_all (cl := cl) (y := o) (n := ts.length) (h := h) (B := Bk) hn hBge (ks := os.map fun x => x.1) (g := h) (js := []) ⟨hw.bl, hw.tl, hw.ml, rfl, (fun _ z => nomatch z), fun _ _ => rfl⟩ (fun k hk => by
        obtain ⟨y, hy, rfl⟩ := List.mem_map.mp hk
        exact ⟨(hoN y hy).1, hoO y hy⟩)
      have hNw := takenH_ok (cl := cl) (y := o) hw hnN
      have hdue : ∀ j, j < ts.length → cmp3 (takenH cl o h ((os.map fun x => x.1).map fun k => (k, Bk.getD k (0, 0)))) j = dueH h Bk j := fun j hj => by
        by_cases hm : j ∈ os.map fun x => x.1
        · exact onc.i j (by rw [List.nil_append]; exact hm)
        · rw [onc.o j (by rw [List.nil_append]; exact hm)]
          unfold dueH
          rw [if_neg]
          intro z
          exact z (hBo j fun x hx e => hm (List.mem_map.mpr ⟨x, hx, e⟩))
      have hNB : (takenH cl o h ((os.map fun x => x.1).map fun k => (k, Bk.getD k (0, 0)))).2.1 = Bk := eq_of_getD (by rw [hNw.bl, hBl]) fun j => by
        by_cases hj : j < ts.length
        · have e : (takenH cl o h ((os.map fun x => x.1).map fun k => (k, Bk.getD k (0, 0)))).2.1.getD j (0, 0) = (dueH h Bk j).1 := congrArg (fun z => z.1) (hdue j hj)
          rw [e]
          unfold dueH cmp3
          split
          · rfl
          · rename_i z
            exact (Classical.not_not.mp z).symm
        · rw [List.getD_eq_getElem?_getD, List.getD_eq_getElem?_getD, List.getElem?_eq_none (by rw [hNw.bl]; omega), List.getElem?_eq_none (by omega)]
      have hNu : (takenH cl o h ((os.map fun x => x.1).map fun k => (k, Bk.getD k (0, 0)))).1 = 1 := onc.up.trans hup
      have hnl3 : ((os.map fun x => x.1).map fun k => (k, Bk.getD k (0, 0))).length ≤ 100 := by
        rw [List.length_map, List.length_map]
        omega
      generalize ((os.map fun x => x.1).map fun k => (k, Bk.getD k (0, 0))) = nn at *
      and_intros
      refine ⟨[some (.ref a), some (.int (0 + i)), some (.ref b), some (.ref rq), some (.ref cq), some (.ref ru), some (.int ((txs.length : Nat) : Int)), some (.int ((o : Nat) : Int)), some (.ref hq), some (.ref oq), some (.ref lq), some (.ref bq), some (.ref gq), some (.ref nq2)], rfl, ?_⟩
      and_intros
      refine ⟨⟨r.o, r.w, r.t, r.c, cl⟩, h, nn, rfl, trK.same SK5, thK.same SK5, tN, ⟨rfl, ho, hn8⟩, ⟨hw, hnl3, hnN⟩, fun kq H6' S6 tK => ?_⟩
      have SK6 := L2.Same.trans SK5 S6
      and_intros
      refine ⟨h, takenH cl o h nn, Bk, rfl, thK.same SK6, tK, tBK.same SK6, ⟨hw, hNw, hn8, hNu, hNB⟩, hBge, hdue, fun H7' S7 => ?_⟩
      have SK7 := L2.Same.trans SK6 S7
      and_intros
      refine ⟨⟨r.o, r.w, r.t, r.c, cl⟩, takenH cl o h os, os, rfl, trK.same SK7, tLK.same SK7, tOK.same SK7, ⟨rfl, ho, hn8⟩, ⟨hLw, by omega, hoN⟩, fun zq H8' S8 tZ => ?_⟩
      have tZ' : Tr H8' (.ref zq) (houseD (takenH cl o h os)) := by
        rw [← hst]
        exact tZ
      have SK8 := L2.Same.trans SK7 S8
      and_intros
      refine ⟨tZ', tLK.same SK8, house_it hn8 hLw, fun H9' S9 => ?_⟩
      have xZ := L2.Same.trans xK (L2.Same.trans SK8 S9)
      first
        | (and_intros; exact xZ)
        | (and_intros; exact ⟨_, _, _, _, _, _, _, _, _, _, _, _, _, rfl, xZ⟩)
        | (refine ⟨_, rfl, ?_⟩; refine iteFF (by decide) ?_; exact ⟨_, _, _, _, _, _, _, _, _, _, _, _, _, rfl, xZ⟩)
        | (refine ⟨_, rfl, ?_⟩; and_intros; exact ⟨_, _, _, _, _, _, _, _, _, _, _, _, _, rfl, xZ⟩)
    · rintro σ H2 ⟨v1, v2, v3, v4, v5, v6, v7, v8, v9, v10, v11, v12, v13, rfl, s2⟩
      and_intros
      exact kq _
end
theorem all_mk {l : PySem.W.OpenLaw} {w : World} {K : PySem.W.Frag} {h : Heap} {mg : Str → Option Value} {fa : Addr} (X : K.In h) (G : h.Ns mainGlobals mg) (hfa : mg "law" = some (.ref fa))
    {f0 : Addr} {od0 an0 : Option Addr} {sl0 : Array (Option Value)} {oc0 kV0 dc0 pm0 cd0 ct0 : Value}
    {f1 : Addr} {od1 an1 : Option Addr} {sl1 : Array (Option Value)} {oc1 kV1 dc1 pm1 cd1 ct1 : Value}
    {f2 : Addr} {od2 an2 : Option Addr} {sl2 : Array (Option Value)} {oc2 kV2 dc2 pm2 cd2 ct2 : Value}
    {f3 : Addr} {od3 an3 : Option Addr} {sl3 : Array (Option Value)} {oc3 kV3 dc3 pm3 cd3 ct3 : Value}
    {f4 : Addr} {od4 an4 : Option Addr} {sl4 : Array (Option Value)} {oc4 kV4 dc4 pm4 cd4 ct4 : Value}
    {f5 : Addr} {od5 an5 : Option Addr} {sl5 : Array (Option Value)} {oc5 kV5 dc5 pm5 cd5 ct5 : Value}
    {f6 : Addr} {od6 an6 : Option Addr} {sl6 : Array (Option Value)} {oc6 kV6 dc6 pm6 cd6 ct6 : Value}
    {f7 : Addr} {od7 an7 : Option Addr} {sl7 : Array (Option Value)} {oc7 kV7 dc7 pm7 cd7 ct7 : Value}
    {f8 : Addr} {od8 an8 : Option Addr} {sl8 : Array (Option Value)} {oc8 kV8 dc8 pm8 cd8 ct8 : Value}
    {f9 : Addr} {od9 an9 : Option Addr} {sl9 : Array (Option Value)} {oc9 kV9 dc9 pm9 cd9 ct9 : Value}
    {f10 : Addr} {od10 an10 : Option Addr} {sl10 : Array (Option Value)} {oc10 kV10 dc10 pm10 cd10 ct10 : Value}
    {f11 : Addr} {od11 an11 : Option Addr} {sl11 : Array (Option Value)} {oc11 kV11 dc11 pm11 cd11 ct11 : Value}
    {f12 : Addr} {od12 an12 : Option Addr} {sl12 : Array (Option Value)} {oc12 kV12 dc12 pm12 cd12 ct12 : Value}
    {f13 : Addr} {od13 an13 : Option Addr} {sl13 : Array (Option Value)} {oc13 kV13 dc13 pm13 cd13 ct13 : Value}
    {f14 : Addr} {od14 an14 : Option Addr} {sl14 : Array (Option Value)} {oc14 kV14 dc14 pm14 cd14 ct14 : Value}
    {f15 : Addr} {od15 an15 : Option Addr} {sl15 : Array (Option Value)} {oc15 kV15 dc15 pm15 cd15 ct15 : Value}
    {f16 : Addr} {od16 an16 : Option Addr} {sl16 : Array (Option Value)} {oc16 kV16 dc16 pm16 cd16 ct16 : Value}
    (a0 : PySem.W.nsIn K mainGlobals "put" = some (some (.ref f0))) (l0 : K.lookup f0 = some ⟨oc0, od0, .func (PySem.W.fnOf "put" "put" (defArgs (top 1)) (defBody (top 1)) (defScope (top 1)) .none kV0 dc0 pm0 an0 cd0 ct0), sl0⟩) (c0 : PySem.W.codeIn K cd0 "put" = true) (k0 : PySem.W.keepIn K (.ref f0) = true)
    (a1 : PySem.W.nsIn K mainGlobals "newer" = some (some (.ref f1))) (l1 : K.lookup f1 = some ⟨oc1, od1, .func (PySem.W.fnOf "newer" "newer" (defArgs (top 5)) (defBody (top 5)) (defScope (top 5)) .none kV1 dc1 pm1 an1 cd1 ct1), sl1⟩) (c1 : PySem.W.codeIn K cd1 "newer" = true) (k1 : PySem.W.keepIn K (.ref f1) = true)
    (a2 : PySem.W.nsIn K mainGlobals "heard" = some (some (.ref f2))) (l2 : K.lookup f2 = some ⟨oc2, od2, .func (PySem.W.fnOf "heard" "heard" (defArgs (top 6)) (defBody (top 6)) (defScope (top 6)) .none kV2 dc2 pm2 an2 cd2 ct2), sl2⟩) (c2 : PySem.W.codeIn K cd2 "heard" = true) (k2 : PySem.W.keepIn K (.ref f2) = true)
    (a3 : PySem.W.nsIn K mainGlobals "taken" = some (some (.ref f3))) (l3 : K.lookup f3 = some ⟨oc3, od3, .func (PySem.W.fnOf "taken" "taken" (defArgs (top 8)) (defBody (top 8)) (defScope (top 8)) .none kV3 dc3 pm3 an3 cd3 ct3), sl3⟩) (c3 : PySem.W.codeIn K cd3 "taken" = true) (k3 : PySem.W.keepIn K (.ref f3) = true)
    (a4 : PySem.W.nsIn K mainGlobals "refuted" = some (some (.ref f4))) (l4 : K.lookup f4 = some ⟨oc4, od4, .func (PySem.W.fnOf "refuted" "refuted" (defArgs (top 9)) (defBody (top 9)) (defScope (top 9)) .none kV4 dc4 pm4 an4 cd4 ct4), sl4⟩) (c4 : PySem.W.codeIn K cd4 "refuted" = true) (k4 : PySem.W.keepIn K (.ref f4) = true)
    (a5 : PySem.W.nsIn K mainGlobals "noted" = some (some (.ref f5))) (l5 : K.lookup f5 = some ⟨oc5, od5, .func (PySem.W.fnOf "noted" "noted" (defArgs (top 10)) (defBody (top 10)) (defScope (top 10)) .none kV5 dc5 pm5 an5 cd5 ct5), sl5⟩) (c5 : PySem.W.codeIn K cd5 "noted" = true) (k5 : PySem.W.keepIn K (.ref f5) = true)
    (a6 : PySem.W.nsIn K mainGlobals "gives_way" = some (some (.ref f6))) (l6 : K.lookup f6 = some ⟨oc6, od6, .func (PySem.W.fnOf "gives_way" "gives_way" (defArgs (top 11)) (defBody (top 11)) (defScope (top 11)) .none kV6 dc6 pm6 an6 cd6 ct6), sl6⟩) (c6 : PySem.W.codeIn K cd6 "gives_way" = true) (k6 : PySem.W.keepIn K (.ref f6) = true)
    (a7 : PySem.W.nsIn K mainGlobals "_law_box" = some (some (.ref f7))) (l7 : K.lookup f7 = some ⟨oc7, od7, .func (PySem.W.fnOf "_law_box" "_law_box" (defArgs (top 13)) (defBody (top 13)) (defScope (top 13)) .none kV7 dc7 pm7 an7 cd7 ct7), sl7⟩) (c7 : PySem.W.codeIn K cd7 "_law_box" = true) (k7 : PySem.W.keepIn K (.ref f7) = true)
    (a8 : PySem.W.nsIn K mainGlobals "_law_take" = some (some (.ref f8))) (l8 : K.lookup f8 = some ⟨oc8, od8, .func (PySem.W.fnOf "_law_take" "_law_take" (defArgs (top 14)) (defBody (top 14)) (defScope (top 14)) .none kV8 dc8 pm8 an8 cd8 ct8), sl8⟩) (c8 : PySem.W.codeIn K cd8 "_law_take" = true) (k8 : PySem.W.keepIn K (.ref f8) = true)
    (a9 : PySem.W.nsIn K mainGlobals "_law_rules" = some (some (.ref f9))) (l9 : K.lookup f9 = some ⟨oc9, od9, .func (PySem.W.fnOf "_law_rules" "_law_rules" (defArgs (top 15)) (defBody (top 15)) (defScope (top 15)) .none kV9 dc9 pm9 an9 cd9 ct9), sl9⟩) (c9 : PySem.W.codeIn K cd9 "_law_rules" = true) (k9 : PySem.W.keepIn K (.ref f9) = true)
    (a10 : PySem.W.nsIn K mainGlobals "_law_town" = some (some (.ref f10))) (l10 : K.lookup f10 = some ⟨oc10, od10, .func (PySem.W.fnOf "_law_town" "_law_town" (defArgs (top 16)) (defBody (top 16)) (defScope (top 16)) .none kV10 dc10 pm10 an10 cd10 ct10), sl10⟩) (c10 : PySem.W.codeIn K cd10 "_law_town" = true) (k10 : PySem.W.keepIn K (.ref f10) = true)
    (a11 : PySem.W.nsIn K mainGlobals "_law_same" = some (some (.ref f11))) (l11 : K.lookup f11 = some ⟨oc11, od11, .func (PySem.W.fnOf "_law_same" "_law_same" (defArgs (top 17)) (defBody (top 17)) (defScope (top 17)) .none kV11 dc11 pm11 an11 cd11 ct11), sl11⟩) (c11 : PySem.W.codeIn K cd11 "_law_same" = true) (k11 : PySem.W.keepIn K (.ref f11) = true)
    (a12 : PySem.W.nsIn K mainGlobals "_law_house" = some (some (.ref f12))) (l12 : K.lookup f12 = some ⟨oc12, od12, .func (PySem.W.fnOf "_law_house" "_law_house" (defArgs (top 18)) (defBody (top 18)) (defScope (top 18)) .none kV12 dc12 pm12 an12 cd12 ct12), sl12⟩) (c12 : PySem.W.codeIn K cd12 "_law_house" = true) (k12 : PySem.W.keepIn K (.ref f12) = true)
    (a13 : PySem.W.nsIn K mainGlobals "_law_some_notes" = some (some (.ref f13))) (l13 : K.lookup f13 = some ⟨oc13, od13, .func (PySem.W.fnOf "_law_some_notes" "_law_some_notes" (defArgs (top 19)) (defBody (top 19)) (defScope (top 19)) .none kV13 dc13 pm13 an13 cd13 ct13), sl13⟩) (c13 : PySem.W.codeIn K cd13 "_law_some_notes" = true) (k13 : PySem.W.keepIn K (.ref f13) = true)
    (a14 : PySem.W.nsIn K mainGlobals "_law_right" = some (some (.ref f14))) (l14 : K.lookup f14 = some ⟨oc14, od14, .func (PySem.W.fnOf "_law_right" "_law_right" (defArgs (top 20)) (defBody (top 20)) (defScope (top 20)) .none kV14 dc14 pm14 an14 cd14 ct14), sl14⟩) (c14 : PySem.W.codeIn K cd14 "_law_right" = true) (k14 : PySem.W.keepIn K (.ref f14) = true)
    (a15 : PySem.W.nsIn K mainGlobals "_law_turned" = some (some (.ref f15))) (l15 : K.lookup f15 = some ⟨oc15, od15, .func (PySem.W.fnOf "_law_turned" "_law_turned" (defArgs (top 21)) (defBody (top 21)) (defScope (top 21)) .none kV15 dc15 pm15 an15 cd15 ct15), sl15⟩) (c15 : PySem.W.codeIn K cd15 "_law_turned" = true) (k15 : PySem.W.keepIn K (.ref f15) = true)
    (a16 : PySem.W.nsIn K mainGlobals "law" = some (some (.ref f16))) (l16 : K.lookup f16 = some ⟨oc16, od16, .func (PySem.W.fnOf "law" "law" (defArgs (top 22)) (defBody (top 22)) (defScope (top 22)) .none kV16 dc16 pm16 an16 cd16 ct16), sl16⟩) (c16 : PySem.W.codeIn K cd16 "law" = true) (k16 : PySem.W.keepIn K (.ref f16) = true)
    {gt0 : Tok} (glob0 : PySem.W.nsIn K mainGlobals "ALIVE" = some (some (.int 0 gt0))) {gt1 : Tok} (glob1 : PySem.W.nsIn K mainGlobals "SUSPECT" = some (some (.int 1 gt1)))
    (z0 : PySem.W.nsIn K mainGlobals "abs" = some none) (z1 : PySem.W.nsIn K mainGlobals "all" = some none) (z2 : PySem.W.nsIn K mainGlobals "bool" = some none) (z3 : PySem.W.nsIn K mainGlobals "enumerate" = some none) (z4 : PySem.W.nsIn K mainGlobals "int" = some none) (z5 : PySem.W.nsIn K mainGlobals "isinstance" = some none) (z6 : PySem.W.nsIn K mainGlobals "len" = some none) (z7 : PySem.W.nsIn K mainGlobals "list" = some none) (z8 : PySem.W.nsIn K mainGlobals "min" = some none) (z9 : PySem.W.nsIn K mainGlobals "range" = some none) (z10 : PySem.W.nsIn K mainGlobals "sorted" = some none) (z11 : PySem.W.nsIn K mainGlobals "tuple" = some none) (z12 : PySem.W.nsIn K mainGlobals "zip" = some none) :
    ∃ fd : FuncData, (∀ (s : Shared) (v : Value), BindsTo s fd ⟨[v], []⟩ [("_law_script", v)]) ∧ ∀ base : Heap, K.In base → base.Ns mainGlobals mg → FnOk l.prog w K mg base CX0 7 fa fd ["_law_script"] (spLaw K) := by
  have e := hfa.symm.trans (PySem.W.mg_of X G a16)
  cases e
  have T : Txt mg := ⟨PySem.W.mg_none_of X G z0, PySem.W.mg_none_of X G z1, PySem.W.mg_none_of X G z2, PySem.W.mg_none_of X G z3, PySem.W.mg_none_of X G z4, PySem.W.mg_none_of X G z5, PySem.W.mg_none_of X G z6, PySem.W.mg_none_of X G z7, PySem.W.mg_none_of X G z8, PySem.W.mg_none_of X G z9, PySem.W.mg_none_of X G z10, PySem.W.mg_none_of X G z11, PySem.W.mg_none_of X G z12, ⟨_, PySem.W.mg_of X G glob0⟩, ⟨_, PySem.W.mg_of X G glob1⟩⟩
  have F0 := fun_mk (st := top 1) l0 c0 k0
  have D0 : Def K mg "put" (top 1) ["things", "place", "thing"] f0 _ := ⟨PySem.W.mg_of X G a0, F0, F0.binds (ps := ["things", "place", "thing"]) fun _ _ _ _ _ _ us hl => match us, hl with | [_, _, _], _ => rfl⟩
  have F1 := fun_mk (st := top 5) l1 c1 k1
  have D1 : Def K mg "newer" (top 5) ["one", "other"] f1 _ := ⟨PySem.W.mg_of X G a1, F1, F1.binds (ps := ["one", "other"]) fun _ _ _ _ _ _ us hl => match us, hl with | [_, _], _ => rfl⟩
  have F2 := fun_mk (st := top 6) l2 c2 k2
  have D2 : Def K mg "heard" (top 6) ["book", "notes"] f2 _ := ⟨PySem.W.mg_of X G a2, F2, F2.binds (ps := ["book", "notes"]) fun _ _ _ _ _ _ us hl => match us, hl with | [_, _], _ => rfl⟩
  have F3 := fun_mk (st := top 8) l3 c3 k3
  have D3 : Def K mg "taken" (top 8) ["rules", "house", "y", "notes"] f3 _ := ⟨PySem.W.mg_of X G a3, F3, F3.binds (ps := ["rules", "house", "y", "notes"]) fun _ _ _ _ _ _ us hl => match us, hl with | [_, _, _, _], _ => rfl⟩
  have F4 := fun_mk (st := top 9) l4 c4 k4
  have D4 : Def K mg "refuted" (top 9) ["rules", "house", "y", "word"] f4 _ := ⟨PySem.W.mg_of X G a4, F4, F4.binds (ps := ["rules", "house", "y", "word"]) fun _ _ _ _ _ _ us hl => match us, hl with | [_, _, _, _], _ => rfl⟩
  have F5 := fun_mk (st := top 10) l5 c5 k5
  have D5 : Def K mg "noted" (top 10) ["rules", "house", "about", "word"] f5 _ := ⟨PySem.W.mg_of X G a5, F5, F5.binds (ps := ["rules", "house", "about", "word"]) fun _ _ _ _ _ _ us hl => match us, hl with | [_, _, _, _], _ => rfl⟩
  have F6 := fun_mk (st := top 11) l6 c6 k6
  have D6 : Def K mg "gives_way" (top 11) ["rules", "old", "word"] f6 _ := ⟨PySem.W.mg_of X G a6, F6, F6.binds (ps := ["rules", "old", "word"]) fun _ _ _ _ _ _ us hl => match us, hl with | [_, _, _], _ => rfl⟩
  have F7 := fun_mk (st := top 13) l7 c7 k7
  have D7 : Def K mg "_law_box" (top 13) ["_law_script", "_law_k"] f7 _ := ⟨PySem.W.mg_of X G a7, F7, F7.binds (ps := ["_law_script", "_law_k"]) fun _ _ _ _ _ _ us hl => match us, hl with | [_, _], _ => rfl⟩
  have F8 := fun_mk (st := top 14) l8 c8 k8
  have D8 : Def K mg "_law_take" (top 14) ["_law_box_here", "_law_many"] f8 _ := ⟨PySem.W.mg_of X G a8, F8, F8.binds (ps := ["_law_box_here", "_law_many"]) fun _ _ _ _ _ _ us hl => match us, hl with | [_, _], _ => rfl⟩
  have F9 := fun_mk (st := top 15) l9 c9 k9
  have D9 : Def K mg "_law_rules" (top 15) ["_law_box_here", "_law_whole"] f9 _ := ⟨PySem.W.mg_of X G a9, F9, F9.binds (ps := ["_law_box_here", "_law_whole"]) fun _ _ _ _ _ _ us hl => match us, hl with | [_, _], _ => rfl⟩
  have F10 := fun_mk (st := top 16) l10 c10 k10
  have D10 : Def K mg "_law_town" (top 16) ["_law_box_here", "_law_most"] f10 _ := ⟨PySem.W.mg_of X G a10, F10, F10.binds (ps := ["_law_box_here", "_law_most"]) fun _ _ _ _ _ _ us hl => match us, hl with | [_, _], _ => rfl⟩
  have F11 := fun_mk (st := top 17) l11 c11 k11
  have D11 : Def K mg "_law_same" (top 17) ["_law_found", "_law_due"] f11 _ := ⟨PySem.W.mg_of X G a11, F11, F11.binds (ps := ["_law_found", "_law_due"]) fun _ _ _ _ _ _ us hl => match us, hl with | [_, _], _ => rfl⟩
  have F12 := fun_mk (st := top 18) l12 c12 k12
  have D12 : Def K mg "_law_house" (top 18) ["_law_box_here", "_law_n", "_law_rules_here", "_law_far"] f12 _ := ⟨PySem.W.mg_of X G a12, F12, F12.binds (ps := ["_law_box_here", "_law_n", "_law_rules_here", "_law_far"]) fun _ _ _ _ _ _ us hl => match us, hl with | [_, _, _, _], _ => rfl⟩
  have F13 := fun_mk (st := top 19) l13 c13 k13
  have D13 : Def K mg "_law_some_notes" (top 19) ["_law_box_here", "_law_n", "_law_far", "_law_most"] f13 _ := ⟨PySem.W.mg_of X G a13, F13, F13.binds (ps := ["_law_box_here", "_law_n", "_law_far", "_law_most"]) fun _ _ _ _ _ _ us hl => match us, hl with | [_, _, _, _], _ => rfl⟩
  have F14 := fun_mk (st := top 20) l14 c14 k14
  have D14 : Def K mg "_law_right" (top 20) ["_law_house_here", "_law_later", "_law_book"] f14 _ := ⟨PySem.W.mg_of X G a14, F14, F14.binds (ps := ["_law_house_here", "_law_later", "_law_book"]) fun _ _ _ _ _ _ us hl => match us, hl with | [_, _, _], _ => rfl⟩
  have F15 := fun_mk (st := top 21) l15 c15 k15
  have D15 : Def K mg "_law_turned" (top 21) ["_law_box_here", "_law_notes"] f15 _ := ⟨PySem.W.mg_of X G a15, F15, F15.binds (ps := ["_law_box_here", "_law_notes"]) fun _ _ _ _ _ _ us hl => match us, hl with | [_, _], _ => rfl⟩
  have F16 := fun_mk (st := top 22) l16 c16 k16
  exact ⟨PySem.W.fnOf "law" "law" (defArgs (top 22)) (defBody (top 22)) (defScope (top 22)) .none kV16 dc16 pm16 an16 cd16 ct16, fun s v => .of_eq rfl, fun base _ _ => ok_law F16 T D0 D1 D2 D3 D4 D5 D6 D7 D8 D9 D10 D11 D12 D13 D14 D15⟩
theorem walk {l : PySem.W.OpenLaw} {q : Program} {loose : List Str} {XP : (Str → Option Value) → Heap → Prop} {YP : World → Heap → Prop} {d : DefRec} {K : Params → PySem.W.Frag} (hn : l.most = some 63) (hdf : d.params.defaults = [])
    (hY : ∀ (w : World) (h : Heap), YP w h → (K w.params).In h)
    (F : ∀ (w : World) (mg : Str → Option Value) (fa : Addr) (h : Heap), (K w.params).In h → h.Ns mainGlobals mg → mg d.name = some (.ref fa) →
      ∃ fd : FuncData, (∀ (s : Shared) (u : Value), BindsTo s fd ⟨[u], []⟩ [("_law_script", u)]) ∧ ∀ base : Heap, (K w.params).In base → base.Ns mainGlobals mg → FnOk l.prog w (K w.params) mg base CX0 7 fa fd ["_law_script"] (spLaw (K w.params))) :
    PySem.W.WalkO q loose XP YP l.row.toRowW d [] (fun f vs => PySem.call f vs) :=
  L2.walk_of (n := 63) (k := 7) (x := "_law_script") (CX := fun _ => CX0) (sp := fun w => spLaw (K w.params)) hn (by decide) hdf ⟨rfl, by decide, by decide, rfl⟩ hY F (fun _ _ a ns hl _ hS => ⟨a, ns, rfl, hS, hl, fun _ => rfl⟩) fun _ _ _ _ _ z => z
end K23
open PySem PySem.W PyProof.Rows
set_option maxRecDepth 100000 in
set_option maxHeartbeats 0 in
theorem PySem.Challenge.cw_hearsaybook_k23_newer_notes_win_holds : PySem.Challenge.rw_hearsaybook_k23_newer_notes_win.Holds := by
  w_on; o_law; k_head; (case hw => w_witness2)
  k_fill
  refine K23.walk (l := PySem.Challenge.rw_hearsaybook_k23_newer_notes_win) rfl rfl (fun w h Y => PySem.W.kIn_of Y) ?F
  case F =>
    intro w mg fa h KX G hmg
    refine' K23.all_mk KX G hmg ?a0 ?l0 ?c0 ?k0 ?a1 ?l1 ?c1 ?k1 ?a2 ?l2 ?c2 ?k2 ?a3 ?l3 ?c3 ?k3 ?a4 ?l4 ?c4 ?k4 ?a5 ?l5 ?c5 ?k5 ?a6 ?l6 ?c6 ?k6 ?a7 ?l7 ?c7 ?k7 ?a8 ?l8 ?c8 ?k8 ?a9 ?l9 ?c9 ?k9 ?a10 ?l10 ?c10 ?k10 ?a11 ?l11 ?c11 ?k11 ?a12 ?l12 ?c12 ?k12 ?a13 ?l13 ?c13 ?k13 ?a14 ?l14 ?c14 ?k14 ?a15 ?l15 ?c15 ?k15 ?a16 ?l16 ?c16 ?k16 ?glob0 ?glob1 ?z0 ?z1 ?z2 ?z3 ?z4 ?z5 ?z6 ?z7 ?z8 ?z9 ?z10 ?z11 ?z12
    (case a0 => k_is)
    (case l0 => k_is)
    (case c0 => k_is)
    (case k0 => k_is)
    (case a1 => k_is)
    (case l1 => k_is)
    (case c1 => k_is)
    (case k1 => k_is)
    (case a2 => k_is)
    (case l2 => k_is)
    (case c2 => k_is)
    (case k2 => k_is)
    (case a3 => k_is)
    (case l3 => k_is)
    (case c3 => k_is)
    (case k3 => k_is)
    (case a4 => k_is)
    (case l4 => k_is)
    (case c4 => k_is)
    (case k4 => k_is)
    (case a5 => k_is)
    (case l5 => k_is)
    (case c5 => k_is)
    (case k5 => k_is)
    (case a6 => k_is)
    (case l6 => k_is)
    (case c6 => k_is)
    (case k6 => k_is)
    (case a7 => k_is)
    (case l7 => k_is)
    (case c7 => k_is)
    (case k7 => k_is)
    (case a8 => k_is)
    (case l8 => k_is)
    (case c8 => k_is)
    (case k8 => k_is)
    (case a9 => k_is)
    (case l9 => k_is)
    (case c9 => k_is)
    (case k9 => k_is)
    (case a10 => k_is)
    (case l10 => k_is)
    (case c10 => k_is)
    (case k10 => k_is)
    (case a11 => k_is)
    (case l11 => k_is)
    (case c11 => k_is)
    (case k11 => k_is)
    (case a12 => k_is)
    (case l12 => k_is)
    (case c12 => k_is)
    (case k12 => k_is)
    (case a13 => k_is)
    (case l13 => k_is)
    (case c13 => k_is)
    (case k13 => k_is)
    (case a14 => k_is)
    (case l14 => k_is)
    (case c14 => k_is)
    (case k14 => k_is)
    (case a15 => k_is)
    (case l15 => k_is)
    (case c15 => k_is)
    (case k15 => k_is)
    (case a16 => k_is)
    (case l16 => k_is)
    (case c16 => k_is)
    (case k16 => k_is)
    (case glob0 => k_is)
    (case glob1 => k_is)
    (case z0 => k_is)
    (case z1 => k_is)
    (case z2 => k_is)
    (case z3 => k_is)
    (case z4 => k_is)
    (case z5 => k_is)
    (case z6 => k_is)
    (case z7 => k_is)
    (case z8 => k_is)
    (case z9 => k_is)
    (case z10 => k_is)
    (case z11 => k_is)
    (case z12 => k_is)
