import PyProof.Rows.All
import Wide.All
import OpenK.AllK
import Wide.FinOn
import Lean
import PyProof.EqAt
import PyProof.EqKinds
import PyProof.TupleCall
import PyProof.NeKinds
import PyProof.ConsumeWalk
import KE.IntBitsLaws
import PyProof.DictWalks
import PyProof.DictRoadsH
import KE.KDictList
import PyProof.RaisesMany
import PyProof.StationsW
import PyProof.ExcClass2
import PyProof.RulesTry
import PyProof.ExcBaseAll.ValueError
import PyProof.Rows.FStr
import KE.KLam
import KE.KNestM
import PyProof.Seq
import PyProof.Walks
import PyProof.SumWalkG
import PyProof.FactsTree
import PyProof.CodeObj
import PyProof.WalkInts
import KE.KIsNot
import OpenK.KDescr
import OpenK.KCls
import PyProof.ExcAttrAll.ValueError
import KE.KIsAll
import PyProof.RulesAs
import PyProof.Rows.SumGenD
import KE.KNest
import PyProof.Rows.SetFrom
import PyProof.SetRoads
import PyProof.Rows.SortShell
import KE.KDictSum
import PyProof.ListMulRoad
import PySem.Sem
import PySem.Builtin.Str.Common
import PySem.Eval
import PySem.Challenge.RW_namewants_k30_whole_keeps
section
set_option Elab.async false
set_option linter.all false
set_option maxRecDepth 100000
/-! THE HAND LAYER, for ints, bools, texts, own classes, LISTS and tuples (index, slices, in, append, pop ..), calls, loops. Paste it whole ahead of your own text; what your proof does not reach may be deleted. -/
namespace L2
open PySem PySem.Spec PyProof.Rows

/-- a key: an int or a str -/
abbrev Key := Sum Int Str
def keyIs : Key → Value → Bool
  | .inl k, v => Value.isInt k v
  | .inr x, v => Value.isStrOf x v
def keyH (w : World) : Key → Int
  | .inl k => hashInt k
  | .inr x => hashStr w x
theorem keyIs_shape : ∀ {k : Key} {v : Value}, keyIs k v = true → (∃ i t, k = Sum.inl i ∧ v = Value.int i t) ∨ (∃ x t, k = Sum.inr x ∧ v = Value.str x t)
  | .inl i, v, h => by
    obtain ⟨t, e⟩ := Value.isInt_shape (k := i) (v := v) h
    exact .inl ⟨i, t, rfl, e⟩
  | .inr x, v, h => by
    obtain ⟨t, e⟩ := Value.isStrOf_shape (x := x) (v := v) h
    exact .inr ⟨x, t, rfl, e⟩
theorem keyIs_int (i : Int) (t : Tok) : keyIs (.inl i) (.int i t) = true := by simp [keyIs, Value.isInt]
theorem keyIs_str (x : Str) (t : Tok) : keyIs (.inr x) (.str x t) = true := by simp [keyIs, Value.isStrOf]
theorem key_ll (a b : Int) : decide ((Sum.inl a : Key) = Sum.inl b) = (a == b) := by
  by_cases e : a = b
  · subst e; simp
  · have h : ¬ (Sum.inl a : Key) = Sum.inl b := fun q => e (Sum.inl.inj q)
    rw [decide_eq_false h]
    exact (beq_eq_false_iff_ne.mpr e).symm
theorem key_rr (a b : Str) : decide ((Sum.inr a : Key) = Sum.inr b) = decide (a = b) := by
  by_cases e : a = b
  · subst e; simp
  · have h : ¬ (Sum.inr a : Key) = Sum.inr b := fun q => e (Sum.inr.inj q)
    rw [decide_eq_false h, decide_eq_false e]
theorem key_lr (a : Int) (b : Str) : decide ((Sum.inl a : Key) = Sum.inr b) = false := decide_eq_false (fun q => nomatch q)
theorem key_rl (a : Str) (b : Int) : decide ((Sum.inr a : Key) = Sum.inl b) = false := decide_eq_false (fun q => nomatch q)

def mixKind (prog : Program) (w : World) : PySem.KeyKind prog w Key where
  is := keyIs
  hash := keyH w
  inj := fun v a b ha hb => by
    rcases keyIs_shape ha with ⟨i, t, rfl, rfl⟩ | ⟨x, t, rfl, rfl⟩
    · rcases keyIs_shape hb with ⟨j, u, rfl, e⟩ | ⟨y, u, rfl, e⟩
      · injection e with e1 _; rw [e1]
      · exact nomatch e
    · rcases keyIs_shape hb with ⟨j, u, rfl, e⟩ | ⟨y, u, rfl, e⟩
      · exact nomatch e
      · injection e with e1 _; rw [e1]
  byValue := fun k v h => by
    rcases keyIs_shape h with ⟨i, t, rfl, rfl⟩ | ⟨x, t, rfl, rfl⟩ <;> rfl
  pyHash := fun hv h => by
    rcases keyIs_shape hv with ⟨i, t, rfl, rfl⟩ | ⟨x, t, rfl, rfl⟩
    · exact wpAny_pyHash_int h
    · exact wpAny_pyHash_str h
  eqBool := fun hu hv h => by
    rcases keyIs_shape hu with ⟨i, t, rfl, rfl⟩ | ⟨x, t, rfl, rfl⟩
    · rcases keyIs_shape hv with ⟨j, u, rfl, rfl⟩ | ⟨y, u, rfl, rfl⟩
      · rw [key_ll] at h; exact wpAny_eqBool_int h
      · rw [key_lr] at h; exact SeqAt.EqAt.int_str i t y u _ _ _ _ h
    · rcases keyIs_shape hv with ⟨j, u, rfl, rfl⟩ | ⟨y, u, rfl, rfl⟩
      · rw [key_rl] at h; exact SeqAt.EqAt.str_int x t j u _ _ _ _ h
      · rw [key_rr] at h; exact wpAny_eqBool_str h
  «strs» := fun k x t v h => by
    rcases keyIs_shape h with ⟨i, u, rfl, e⟩ | ⟨y, u, rfl, e⟩
    · exact nomatch e
    · injection e with e1 _
      subst e1
      cases v <;> rfl

theorem mixKind_int (prog : Program) (w : World) (i : Int) (t : Tok) : (mixKind prog w).is (.inl i) (.int i t) = true := keyIs_int i t
theorem mixKind_str (prog : Program) (w : World) (x : Str) (t : Tok) : (mixKind prog w).is (.inr x) (.str x t) = true := keyIs_str x t
end L2

namespace L2
open PySem PySem.Spec PyProof.Rows

/-- a value, without the heap -/
inductive V where
  | non | bl (b : Bool) | int (i : Int) | str (x : Str) | byt (b : Array UInt8) | flt (b : UInt64) | ref (a : Addr) | ty (n : String)
  deriving DecidableEq

def RelV : V → Value → Prop
  | .non, u => u = Value.none
  | .bl b, u => u = Value.bool b
  | .int i, u => ∃ t, u = Value.int i t
  | .str x, u => ∃ t, u = Value.str x t
  | .byt b, u => ∃ t, u = Value.bytes b t
  | .flt b, u => ∃ t, u = Value.float b t
  | .ref a, u => u = Value.ref a
  | .ty n, u => u = Value.type n

abbrev Vals : List V → List Value → Prop := Paired RelV
theorem Vals.length {xs : List V} {us : List Value} (r : Vals xs us) : xs.length = us.length := Paired.length r
theorem Vals.get : ∀ {xs : List V} {us : List Value} {i : Nat} {x : V}, Vals xs us → xs[i]? = some x → ∃ u, us[i]? = some u ∧ RelV x u
  | _, _, _, _, .nil, e => by simp at e
  | _, _, 0, _, .cons r _, e => by simp at e; subst e; exact ⟨_, rfl, r⟩
  | _, _, i + 1, x, .cons _ t, e => by
    obtain ⟨u, h1, h2⟩ := Vals.get (i := i) (x := x) t (by simpa using e)
    exact ⟨u, by simpa using h1, h2⟩
theorem Vals.set {x : V} {u : Value} (r : RelV x u) : ∀ {xs : List V} {us : List Value} (i : Nat), Vals xs us → Vals (xs.set i x) (us.set i u)
  | _, _, _, .nil => .nil
  | _, _, 0, .cons _ t => .cons r t
  | _, _, i + 1, .cons q t => .cons q (Vals.set r i t)
theorem Vals.append : ∀ {xs ys : List V} {us ws : List Value}, Vals xs us → Vals ys ws → Vals (xs ++ ys) (us ++ ws)
  | _, _, _, _, .nil, s => s
  | _, _, _, _, .cons r t, s => .cons r (Vals.append t s)
theorem Vals.take : ∀ {xs : List V} {us : List Value} (n : Nat), Vals xs us → Vals (xs.take n) (us.take n)
  | _, _, 0, _ => .nil
  | _, _, _ + 1, .nil => .nil
  | _, _, n + 1, .cons r t => .cons r (Vals.take n t)
theorem Vals.drop : ∀ {xs : List V} {us : List Value} (n : Nat), Vals xs us → Vals (xs.drop n) (us.drop n)
  | _, _, 0, r => r
  | _, _, _ + 1, .nil => .nil
  | _, _, n + 1, .cons _ t => Vals.drop n t
def RelO : Option V → Option Value → Prop
  | some v, some u => RelV v u
  | none, none => True
  | _, _ => False
def KV {κ : Type} : List (κ × V) → List (κ × Value) → Prop := Paired fun (p : κ × V) (q : κ × Value) => p.1 = q.1 ∧ RelV p.2 q.2

/-- a key of a dict (00_mix): an int or a text -/
def kV : Key → V
  | .inl i => .int i
  | .inr x => .str x

/-- what stands at a tracked address -/
inductive HO where
  /-- a list -/
  | lst (xs : List V)
  /-- a tuple (never changes) -/
  | tup (xs : List V)
  /-- a dict whose keys are ints and texts; one whose keys are tuples of ints and texts (the empty one is both) -/
  | dK (kvs : List (Key × V)) | dT (kvs : List (List Key × V))
  /-- a set of ints: its members, its size -/
  | set (S : Int → Bool) (n : Nat)
  /-- an instance of the class at C, its dict at dx, its attributes -/
  | ins (C dx : Addr) (fs : List (Str × V))
  /-- the dict of the instance at x -/
  | own (x : Addr)
  /-- the dict of an exception -/
  | xd (fs : List (Str × V))
  /-- a bound method, f of x -/
  | met (f x : Addr)
  /-- a range object lo, lo + 1, .. below hi -/
  | rng (lo hi : Int)
  /-- a thing that is known to the object (the script; a dict while a loop walks it): read, never written while it is so -/
  | frz (o : Obj) (u : HO)
  /-- a code object's table -/
  | tbl (ps : Array Value)
  /-- any other thing, by what is true of its one object (a def of one's own: SetO a S n := HO.ext fun h => ..) -/
  | ext (φ : Heap → Prop)

abbrev Hp := Addr → Option HO
def upd (H : Hp) (a : Addr) (o : HO) : Hp := fun b => if b = a then some o else H b
theorem upd_same {H : Hp} {a : Addr} {o : HO} : upd H a o a = some o := by unfold upd; rw [if_pos rfl]
theorem upd_ne {H : Hp} {a b : Addr} {o : HO} (h : b ≠ a) : upd H a o b = H b := by unfold upd; rw [if_neg h]
/-- two objects of different content stand apart -/
theorem ne_of {H : Hp} {a b : Addr} {o u : HO} (h : H a = some o) (h' : H b = some u) (d : o ≠ u) : a ≠ b := by
  intro e; subst e; rw [h] at h'; exact d (Option.some.inj h')
theorem ne_of_none {H : Hp} {a b : Addr} {o : HO} (h : H a = some o) (h' : H b = none) : a ≠ b := by
  intro e; subst e; rw [h] at h'; cases h'

section
variable (P : Program) (w : World)
def ObjOk (H : Hp) (h : Heap) (a : Addr) : HO → Prop
  | .lst xs => xs.length ≤ sizeLine ∧ ∃ (its : List Value) (n : Nat), Vals xs its ∧ h.get? a = some { cls := .type "list", data := .seq its.toArray n }
  | .tup xs => xs.length ≤ sizeLine ∧ ∃ its : List Value, Vals xs its ∧ IsTup h a its.toArray
  | .dK kvs => kvs.length ≤ sizeLine ∧ (a == sysModules) = false ∧ ∃ vs, KV kvs vs ∧ h.DictOf (mixKind P w) a vs
  | .dT kvs => kvs.length ≤ sizeLine ∧ (a == sysModules) = false ∧ ∃ xs : List (List Key × Addr × Value),
      Paired (fun (p : List Key × V) (q : List Key × Addr × Value) => p.1 = q.1 ∧ H q.2.1 = some (.tup (p.1.map kV)) ∧ RelV p.2 q.2.2) kvs xs ∧
      ∃ o es ep, h.get? a = some o ∧ o.ExactDict ∧ o.data = .dict es ep ∧ es.toList = xs.map (entryOfKey (tupleKind (mixKind P w))) ∧ (xs.map (·.1)).Nodup
  | .set S n => h.SetOf (intKind P w) a S n
  | .ins C dx fs => H dx = some (.own a) ∧ fs.length ≤ 1000 ∧ dx ≠ a ∧ h.get? a = some (PySem.W.instObj C dx) ∧
      ∃ mA, h.Ns1 dx mA ∧ (∀ f, RelO (fs.lookup f) (mA f)) ∧ PySem.Within mA (fs.map (·.1))
  | .own _ => ∃ o, h.get? a = some o
  | .xd fs => ∃ mA, h.Ns1 a mA ∧ ∀ f, RelO (fs.lookup f) (mA f)
  | .rng lo hi => ∃ t u v, h.get? a = some { cls := .type "range", data := .fields #[.int lo t, .int hi u, .int 1 v] }
  | .frz o u => h.get? a = some o ∧ ObjOk H h a u
  | .tbl ps => h.get? a = some { cls := .none, data := .fields ps }
  | .met f x => h.get? a = some (PySem.W.methodObj (.ref f) (.ref x))
  | .ext φ => φ h ∧ (∃ o, h.get? a = some o) ∧ ∀ h1 h2 : Heap, φ h1 → (∀ o, h1.get? a = some o → h2.get? a = some o) → φ h2
/-- the abstract heap is held -/
def HOk (H : Hp) (h : Heap) : Prop := ∀ a o, H a = some o → ObjOk P w H h a o
end

section
variable {P : Program} {w : World} {H H' : Hp} {h h' : Heap} {a : Addr} {o : HO}
theorem ObjOk.lt (x : ObjOk P w H h a o) : a < h.objs.size := by
  cases o with
  | lst xs => obtain ⟨_, _, _, _, e⟩ := x; exact Heap.lt_size e
  | tup xs => obtain ⟨_, _, _, p⟩ := x; exact p.lt
  | dK kvs => obtain ⟨_, _, _, _, o, _, _, e, _⟩ := x; exact Heap.lt_size e
  | dT kvs => obtain ⟨_, _, _, _, o, _, _, e, _⟩ := x; exact Heap.lt_size e
  | set S n => obtain ⟨o, _, _, _, e, _⟩ := x; exact Heap.lt_size e
  | ins C dx fs => obtain ⟨_, _, _, e, _⟩ := x; exact Heap.lt_size e
  | own y => obtain ⟨_, e⟩ := x; exact Heap.lt_size e
  | xd fs => obtain ⟨_, ⟨_, _, _, e, _⟩, _⟩ := x; exact Heap.lt_size e
  | rng lo hi => obtain ⟨_, _, _, e⟩ := x; exact Heap.lt_size e
  | frz ob u => obtain ⟨e, _⟩ := x; exact Heap.lt_size e
  | tbl ps => exact Heap.lt_size (show h.get? a = some _ from x)
  | met f y => exact Heap.lt_size (show h.get? a = some _ from x)
  | ext φ => obtain ⟨_, ⟨_, e⟩, _⟩ := x; exact Heap.lt_size e
theorem Paired.mapP {α β : Type} {F G : α → β → Prop} : ∀ {l₁ : List α} {l₂ : List β}, Paired F l₁ l₂ → (∀ a b, F a b → G a b) → Paired G l₁ l₂
  | _, _, .nil, _ => .nil
  | _, _, .cons r t, f => .cons (f _ _ r) (Paired.mapP t f)
/-- what an object's description leans on: its own object, its own dict, the tuples -/
theorem ObjOk.stay (x : ObjOk P w H h a o) (k : ∀ b u, (b = a ∨ H b = some (.own a)) → h.get? b = some u → h'.get? b = some u)
    (ho : ∀ b, H b = some (.own a) → H' b = some (.own a)) (ht : ∀ b xs, H b = some (.tup xs) → H' b = some (.tup xs)) : ObjOk P w H' h' a o := by
  induction o with
  | lst xs => obtain ⟨z, its, n, r, e⟩ := x; exact ⟨z, its, n, r, k _ _ (.inl rfl) e⟩
  | tup xs => obtain ⟨z, its, r, ob, e, c⟩ := x; exact ⟨z, its, r, ob, k _ _ (.inl rfl) e, c⟩
  | dK kvs => obtain ⟨z, y, vs, r, ob, es, ep, e, c⟩ := x; exact ⟨z, y, vs, r, ob, es, ep, k _ _ (.inl rfl) e, c⟩
  | dT kvs =>
    obtain ⟨z, y, xs, r, ob, es, ep, e, c⟩ := x
    exact ⟨z, y, xs, Paired.mapP r fun p q z => ⟨z.1, ht _ _ z.2.1, z.2.2⟩, ob, es, ep, k _ _ (.inl rfl) e, c⟩
  | set S n => obtain ⟨ob, es, ep, t, e, c⟩ := x; exact ⟨ob, es, ep, t, k _ _ (.inl rfl) e, c⟩
  | ins C dx fs =>
    obtain ⟨d, z, ne, e, mA, ⟨od, es, ep, e2, c⟩, r⟩ := x
    exact ⟨ho _ d, z, ne, k _ _ (.inl rfl) e, mA, ⟨od, es, ep, k _ _ (.inr d) e2, c⟩, r⟩
  | own y => obtain ⟨ob, e⟩ := x; exact ⟨ob, k _ _ (.inl rfl) e⟩
  | xd fs => obtain ⟨mA, ⟨od, es, ep, e, c⟩, r⟩ := x; exact ⟨mA, ⟨od, es, ep, k _ _ (.inl rfl) e, c⟩, r⟩
  | rng lo hi => obtain ⟨t, u, v, e⟩ := x; exact ⟨t, u, v, k _ _ (.inl rfl) e⟩
  | frz ob u ih => obtain ⟨e, q⟩ := x; exact ⟨k _ _ (.inl rfl) e, ih q⟩
  | tbl ps =>
    have e : h.get? a = some { cls := .none, data := .fields ps } := x
    show h'.get? a = some { cls := .none, data := .fields ps }
    exact k a _ (.inl rfl) e
  | met f y =>
    have e : h.get? a = some (PySem.W.methodObj (.ref f) (.ref y)) := x
    show h'.get? a = some (PySem.W.methodObj (.ref f) (.ref y))
    exact k a _ (.inl rfl) e
  | ext φ => obtain ⟨p, ⟨o, e⟩, st⟩ := x; exact ⟨st _ _ p fun o q => k _ _ (.inl rfl) q, ⟨o, k _ _ (.inl rfl) e⟩, st⟩
theorem HOk.lt (x : HOk P w H h) (e : H a = some o) : a < h.objs.size := (x a o e).lt
theorem HOk.fresh (x : HOk P w H h) (e : h.objs.size ≤ a) : H a = none := by
  cases q : H a with
  | none => rfl
  | some u => exact absurd (Nat.lt_of_lt_of_le (x.lt q) e) (Nat.lt_irrefl _)
/-- every object of the heap is kept -/
theorem HOk.kept (x : HOk P w H h) (k : ∀ b u, h.get? b = some u → h'.get? b = some u) : HOk P w H h' := fun a o e =>
  (x a o e).stay (fun b u _ q => k b u q) (fun _ q => q) fun _ _ q => q
/-- a new object is laid and tracked -/
theorem HOk.laid (x : HOk P w H h) (k : ∀ b u, h.get? b = some u → h'.get? b = some u) (hp : h.objs.size ≤ a) (new : ObjOk P w (upd H a o) h' a o) : HOk P w (upd H a o) h' := fun b u e => by
  have hn := x.fresh hp
  by_cases hb : b = a
  · subst hb; rw [upd_same] at e; cases e; exact new
  · rw [upd_ne hb] at e
    exact (x b u e).stay (fun c v _ q => k c v q) (fun c q => by rw [upd_ne (ne_of_none q hn)]; exact q) fun c xs q => by rw [upd_ne (ne_of_none q hn)]; exact q
end

/-- what may be read as u: it is u, or a known u -/
def Rd (H : Hp) (a : Addr) (u : HO) : Prop := H a = some u ∨ ∃ o, H a = some (.frz o u)
theorem Rd.ok {P : Program} {w : World} {H : Hp} {h : Heap} {a : Addr} {u : HO} (r : Rd H a u) (x : HOk P w H h) : ObjOk P w H h a u := by
  rcases r with r | ⟨o, r⟩
  · exact x a u r
  · obtain ⟨_, q⟩ := x a _ r
    exact q
/-- what may be written -/
def Mut : Option HO → Prop
  | some (.lst _) => True
  | some (.dK _) => True
  | some (.dT _) => True
  | some (.set _ _) => True
  | some (.ins _ _ _) => True
  | some (.ext _) => True
  | _ => False
section
variable {P : Program} {w : World} {H : Hp} {h h' : Heap} {x e : Addr} {o' : HO}
/-- the object at e is changed: x itself, or the dict of the instance x -/
theorem HOk.write (ok : HOk P w H h) (mu : Mut (H x)) (he : e = x ∨ H e = some (.own x)) (k : ∀ b u, b ≠ e → h.get? b = some u → h'.get? b = some u) (heo : ∃ u, h'.get? e = some u)
    (new : ObjOk P w (upd H x o') h' x o') : HOk P w (upd H x o') h' := fun b u q => by
  have nown : ∀ c y, H c = some (.own y) → c ≠ x := fun c y r z => by subst z; rw [r] at mu; exact mu
  have ntup : ∀ c xs, H c = some (.tup xs) → c ≠ x := fun c xs r z => by subst z; rw [r] at mu; exact mu
  by_cases hb : b = x
  · subst hb; rw [upd_same] at q; cases q; exact new
  · rw [upd_ne hb] at q
    by_cases hbe : b = e
    · have q' : H b = some (.own x) := by
        rcases he with z | z
        · exact absurd (hbe.trans z) hb
        · rw [hbe]; exact z
      rw [q] at q'; cases q'
      obtain ⟨v, hv⟩ := heo
      exact ⟨v, by rw [hbe]; exact hv⟩
    · refine (ok b u q).stay (fun c v hc r => k c v ?_ r) (fun c r => by rw [upd_ne (nown c b r)]; exact r) fun c xs r => by rw [upd_ne (ntup c xs r)]; exact r
      rcases hc with rfl | hc
      · exact hbe
      · rintro rfl
        rcases he with z | z
        · exact nown c b hc z
        · rw [hc] at z; cases z; exact hb rfl
end

/-! ### kept unless tracked; of the frames at fs (the callers') the slots may change (an exception that passes writes there); of the records at ex (iterators) nothing is said -/
structure Un (fs ex : List Addr) (H H' : Hp) (h h' : Heap) : Prop where
  keep : ∀ b o, h.get? b = some o → H b = none → b ∉ fs → b ∉ ex → h'.get? b = some o
  slot : ∀ b o, h.get? b = some o → H b = none → b ∈ fs → b ∉ ex → ∃ sl, h'.get? b = some { o with slots := sl }
  free : ∀ b o, h.get? b = some o → H b = none → b ∉ ex → H' b = none
  there : ∀ b o, h.get? b = some o → b ∉ ex → ∃ o', h'.get? b = some o'
  tups : ∀ b xs, H b = some (.tup xs) → H' b = some (.tup xs)
  frzs : ∀ b o u, H b = some (.frz o u) → H' b = some (.frz o u)
  tbls : ∀ b ps, H b = some (.tbl ps) → ∃ more, H' b = some (.tbl (ps ++ more))
section
variable {fs fs' ex ex' : List Addr} {H H1 H2 : Hp} {h h1 h2 h' : Heap} {a x e : Addr} {o : HO}
theorem Un.any (u : Un fs ex H H1 h h1) {b : Addr} {ob : Obj} (q : h.get? b = some ob) (n : H b = none) (hx : b ∉ ex) : ∃ sl, h1.get? b = some { ob with slots := sl } := by
  by_cases hb : b ∈ fs
  · exact u.slot b ob q n hb hx
  · exact ⟨ob.slots, u.keep b ob q n hb hx⟩
theorem Un.kept (k : ∀ b u, h.get? b = some u → h'.get? b = some u) : Un fs ex H H h h' :=
  ⟨fun b ob q _ _ _ => k b ob q, fun b ob q _ _ _ => ⟨ob.slots, k b ob q⟩, fun _ _ _ n _ => n, fun b ob q _ => ⟨ob, k b ob q⟩, fun _ _ q => q, fun _ _ _ q => q, fun _ ps q => ⟨#[], by rw [q]; simp⟩⟩
theorem Un.refl : Un fs ex H H h h := Un.kept fun _ _ q => q
theorem Un.laid (k : ∀ b u, h.get? b = some u → h'.get? b = some u) (hp : h.objs.size ≤ a) (hn : H a = none) : Un fs ex H (upd H a o) h h' where
  keep := fun b u q _ _ _ => k b u q
  slot := fun b u q _ _ _ => ⟨u.slots, k b u q⟩
  free := fun b u q n _ => by rw [upd_ne (Nat.ne_of_lt (Nat.lt_of_lt_of_le (Heap.lt_size q) hp))]; exact n
  there := fun b u q _ => ⟨u, k b u q⟩
  tups := fun b xs q => by rw [upd_ne (ne_of_none q hn)]; exact q
  frzs := fun b u xs q => by rw [upd_ne (ne_of_none q hn)]; exact q
  tbls := fun b ps q => ⟨#[], by rw [upd_ne (ne_of_none q hn), q]; simp⟩
theorem Un.write (mu : Mut (H x)) (he : e = x ∨ H e = some (.own x)) (k : ∀ b u, b ≠ e → h.get? b = some u → h'.get? b = some u) (heo : ∃ u, h'.get? e = some u) : Un fs ex H (upd H x o) h h' := by
  have hx : ∀ b, H b = none → b ≠ x := fun b n z => by subst z; rw [n] at mu; exact mu
  have hb : ∀ b, H b = none → b ≠ e := fun b n z => by
    subst z
    rcases he with r | r
    · exact hx b n r
    · rw [n] at r; cases r
  have hm : ∀ b u, H b = some u → ¬ Mut (some u) → b ≠ x := fun b u q nm z => by subst z; rw [q] at mu; exact nm mu
  refine ⟨fun b u q n _ _ => k b u (hb b n) q, fun b u q n _ _ => ⟨u.slots, k b u (hb b n) q⟩, fun b u q n _ => by rw [upd_ne (hx b n)]; exact n, fun b u q _ => ?_,
    fun b xs q => by rw [upd_ne (hm b _ q fun z => z)]; exact q, fun b u xs q => by rw [upd_ne (hm b _ q fun z => z)]; exact q, fun b ps q => ⟨#[], by rw [upd_ne (hm b _ q fun z => z), q]; simp⟩⟩
  by_cases hbe : b = e
  · subst hbe; exact heo
  · exact ⟨u, k b u hbe q⟩
end

/-! ### the heap without what is tracked -/
def trk (h : Heap) (H : Hp) : List Addr := (List.range h.objs.size).filter fun a => (H a).isSome
def hidT (h : Heap) (H : Hp) : Heap := PySem.W.hideAll h (trk h H)
theorem hidT_size (h : Heap) (H : Hp) : (hidT h H).objs.size = h.objs.size := PySem.W.hideAll_size _ _
theorem hidT_get {h : Heap} {H : Hp} {b : Addr} {o : Obj} (e : h.get? b = some o) (n : H b = none) : (hidT h H).get? b = some o :=
  PySem.W.hideAll_get _ e fun hm => by
    have q : (H b).isSome = true := (List.mem_filter.mp hm).2
    rw [n] at q; simp at q
theorem of_hidT {h : Heap} {H : Hp} {b : Addr} {o : Obj} (e : (hidT h H).get? b = some o) : h.get? b = some o ∧ H b = none := by
  have e' : h.get? b = some o := PySem.W.of_hideAll (trk h H) e
  refine ⟨e', ?_⟩
  cases q : H b with
  | none => rfl
  | some x =>
    have hm : b ∈ trk h H := List.mem_filter.mpr ⟨List.mem_range.mpr (Heap.lt_size e'), by simp [q]⟩
    have z : (hidT h H).get? b = none := PySem.W.hideAll_none (trk h H) hm
    rw [z] at e; cases e

/-! ### OpenK's ledger, filled with every new object but one -/
def allNews (g h : Heap) (L : Addr) : List (Addr × Obj) := (List.range h.objs.size).filterMap fun a => if a = L ∨ (g.get? a).isSome = true then none else (h.get? a).map fun o => (a, o)
def rest (g h : Heap) (L d : Addr) : List (Addr × Obj) := (allNews g h L).filter fun p => decide (p.1 ≠ d)
end L2

namespace L2
open PySem PySem.Spec PyProof.Rows

/-- the module's facts, over the base: the heap at the law's entry without what is tracked there -/
structure Mod (K : PySem.W.Frag) (mg : Str → Option Value) (base : Heap) : Prop where
  kin : K.In base
  glob : base.Ns mainGlobals mg
  blt : ∃ mb, base.Ns builtinsNs mb ∧ ∀ x : Str, x ≠ "__name__" → mb x = bootBuiltins x
  nolimit : base.NoLimit

/-- the context: a def's body (or a comprehension's block) running. base: fixed through the whole law; s₀, H₀: the entry; outer: the frames whose slots others may change (a def's callers); stack: all frames that run;
   ex: iterators that were made ahead of the entry and are walked here (a comprehension's); fn: the names whose cells were made at the entry (a def: all; a comprehension's block: its own); calm: not within an except suite; pn: pins that every state bears; xe: what is wanted of an exception that leaves the code -/
structure Cx where
  prog : Program
  w : World
  K : PySem.W.Frag
  mg : Str → Option Value
  base : Heap
  A : Around
  N : List Str
  s₀ : Shared
  H₀ : Hp
  env : Env
  outer : List Env
  stack : List Env
  ex : List Addr
  fn : Str → Bool
  calm : Bool
  pn : List (Addr × Obj)
  xe : Value → Shared → Prop
/-- the callers' frames -/
def frs (l : List Env) : List Addr := l.filterMap (·.frame)
abbrev Cx.fs (X : Cx) : List Addr := frs X.outer

def Vis (sc : Scope) (x : Str) : Prop := sc.names.lookup x = some .local ∨ sc.names.lookup x = some .cell ∨ sc.names.lookup x = some .free
def Loc (sc : Scope) (x : Str) : Prop := sc.names.lookup x = some .local ∨ sc.names.lookup x = some .cell
def Look (env : Env) (h : Heap) (m : Str → Option Value) (x : Str) (u : Value) : Prop :=
  (env.kindOf x = some .local ∧ m x = some u) ∨ ((env.kindOf x = some .cell ∨ env.kindOf x = some .free) ∧ ∃ c, env.cells.lookup x = some c ∧ h.IsCell c (some u))

structure Cx.Ok (X : Cx) : Prop where
  mod : Mod X.K X.mg X.base
  kind : X.env.scope.kind = .function
  glob : X.env.globals = mainGlobals
  blt : X.env.builtins = builtinsNs
  above : X.s₀.heap.objs.size ≤ X.env.locals
  inj : ∀ x y c, X.env.cells.lookup x = some c → X.env.cells.lookup y = some c → x = y
  has : ∀ x, (X.env.kindOf x = some .cell ∨ X.env.kindOf x = some .free) → ∃ c, X.env.cells.lookup x = some c
  cab : ∀ x c, X.fn x = true → X.env.cells.lookup x = some c → X.s₀.heap.objs.size ≤ c
  hd : X.calm = true → X.A.handled = none
  frames : X.A.frames = some X.stack
  stk : X.stack = X.outer ∨ (X.stack = X.env :: X.outer ∧ X.env.frame = some X.env.locals)
  exf : ∀ b ∈ X.ex, b ≠ X.env.locals ∧ ∀ x c, X.env.cells.lookup x = some c → c ≠ b
  bs : ∀ b o, X.base.get? b = some o → X.s₀.heap.get? b = some o ∧ X.H₀ b = none
  bsz : X.base.objs.size ≤ X.s₀.heap.objs.size
  noex : ∀ b o, X.base.get? b = some o → b ∉ X.ex
  exfs : ∀ b ∈ X.ex, b ∉ X.fs
  funs : X.s₀.heap.FunFrames X.base X.outer
  frf : ∀ b ∈ X.fs, X.H₀ b = none

structure Inv (X : Cx) (pins : List (Addr × Obj)) (σ : List (Option V)) (H : Hp) (s : Shared) : Prop where
  ok : X.Ok
  os : s.os = X.s₀.os
  bare : AllBare s.gens
  base : Un X.fs X.ex X.H₀ H X.s₀.heap s.heap
  loc : ∃ m, s.heap.Ns X.env.locals m ∧ ∀ (i : Nat) (x : Str) (v : V), X.N[i]? = some x → σ[i]? = some (some v) → Vis X.env.scope x → ∃ u, RelV v u ∧ Look X.env s.heap m x u
  cell : ∀ x c, X.env.cells.lookup x = some c → ∃ v, s.heap.IsCell c v
  free : H X.env.locals = none
  freeC : ∀ x c, X.env.cells.lookup x = some c → H c = none
  pin : ∀ p ∈ X.pn ++ pins, s.heap.get? p.1 = some p.2 ∧ H p.1 = none ∧ p.1 ≠ X.env.locals ∧ p.1 ∉ X.fs ∧ ∀ v, p.2.data ≠ .cell v
  hok : HOk X.prog X.w H s.heap
  len : σ.length = X.N.length

section
variable {X : Cx} {pins : List (Addr × Obj)} {σ : List (Option V)} {H H' : Hp} {s : Shared} {h' : Heap}

theorem Cx.Ok.nofr (ok : X.Ok) {b : Addr} {o : Obj} (e : X.base.get? b = some o) : b ∉ X.fs := fun hb => by
  have := (ok.funs.mem hb).1
  rw [e] at this; cases this
theorem Inv.bs (I : Inv X pins σ H s) : ∀ b o, X.base.get? b = some o → s.heap.get? b = some o ∧ H b = none := fun b o e =>
  ⟨I.base.keep b o (I.ok.bs b o e).1 (I.ok.bs b o e).2 (I.ok.nofr e) (I.ok.noex b o e), I.base.free b o (I.ok.bs b o e).1 (I.ok.bs b o e).2 (I.ok.noex b o e)⟩
theorem Inv.bk (I : Inv X pins σ H s) : ∀ b o, X.base.get? b = some o → s.heap.get? b = some o := fun b o e => (I.bs b o e).1
theorem Inv.mod (I : Inv X pins σ H s) : Mod X.K X.mg X.base := I.ok.mod
theorem Inv.kIn (I : Inv X pins σ H s) : X.K.In s.heap := I.ok.mod.kin.keeps I.bk
/-- the frame over the base: for OpenK's rules (K.In X.base is I.mod.kin) -/
theorem Inv.fr (I : Inv X pins σ H s) : ∃ m, Fr X.base X.env.locals s.heap m :=
  let ⟨m, hn, _⟩ := I.loc
  ⟨m, hn, I.bk, Nat.le_trans I.ok.bsz I.ok.above⟩
theorem Inv.lt (I : Inv X pins σ H s) : X.env.locals < s.heap.objs.size := let ⟨_, hn, _⟩ := I.loc; hn.lt
theorem Inv.sz (I : Inv X pins σ H s) : X.s₀.heap.objs.size ≤ s.heap.objs.size := Nat.le_trans I.ok.above (Nat.le_of_lt I.lt)
theorem Inv.nofs (I : Inv X pins σ H s) {a : Addr} (h : s.heap.objs.size ≤ a) : a ∉ X.fs := fun hb => by
  obtain ⟨_, o, ho, _⟩ := I.ok.funs.mem hb
  exact absurd (Nat.lt_of_lt_of_le (Heap.lt_size ho) (Nat.le_trans I.sz h)) (Nat.lt_irrefl _)
theorem Inv.cne (I : Inv X pins σ H s) : ∀ x c, X.env.cells.lookup x = some c → c ≠ X.env.locals := fun x c e z => by
  obtain ⟨v, o, ho, hd⟩ := I.cell x c e
  obtain ⟨m, ⟨o', es, ep, ho', hd', _⟩, _⟩ := I.loc
  rw [z, ho'] at ho; cases ho; rw [hd'] at hd; cases hd
theorem Inv.funs (I : Inv X pins σ H s) : s.heap.FunFrames X.base X.outer := by
  have all : ∀ (l : List Env), (∀ b ∈ frs l, b ∈ X.fs) → X.s₀.heap.FunFrames X.base l → s.heap.FunFrames X.base l := by
    intro l
    induction l with
    | nil => intro _ _; trivial
    | cons env r ih =>
      intro hs hl
      obtain ⟨hk, ⟨L, o, hf, hn, ho, hd⟩, hr⟩ := hl
      have hL : L ∈ X.fs := hs L (by unfold frs; rw [List.filterMap_cons, hf]; exact List.mem_cons_self)
      obtain ⟨sl, e⟩ := I.base.slot L o ho (I.ok.frf L hL) hL fun z => I.ok.exfs L z hL
      exact ⟨hk, ⟨L, _, hf, hn, e, hd⟩, ih (fun b hb => hs b (by unfold frs; rw [List.filterMap_cons, hf]; exact List.mem_cons_of_mem _ hb)) hr⟩
  exact all X.outer (fun _ hb => hb) I.ok.funs

/-- the frames that run, for a call -/
theorem Inv.stack (I : Inv X pins σ H s) : s.heap.FunFrames X.base X.stack := by
  rcases I.ok.stk with e | ⟨e, hf⟩
  · rw [e]; exact I.funs
  · rw [e]
    obtain ⟨m, hn, _⟩ := I.loc
    refine .cons (by rw [I.ok.kind]; decide) hf hn ?_ I.funs
    exact Heap.get?_none_of_le (Nat.le_trans I.ok.bsz I.ok.above)
theorem Inv.stkSub (I : Inv X pins σ H s) : ∀ b ∈ frs X.stack, b ∈ X.env.locals :: X.fs := fun b hb => by
  rcases I.ok.stk with e | ⟨e, hf⟩
  · rw [e] at hb; exact List.mem_cons_of_mem _ hb
  · rw [e] at hb
    unfold frs at hb
    rw [List.filterMap_cons, hf] at hb
    exact hb
theorem Inv.stkFree (I : Inv X pins σ H s) : ∀ b ∈ frs X.stack, H b = none := fun b hb => by
  rcases List.mem_cons.mp (I.stkSub b hb) with e | hb
  · rw [e]; exact I.free
  · obtain ⟨_, o, ho, _⟩ := I.ok.funs.mem hb
    exact I.base.free b o ho (I.ok.frf b hb) fun z => I.ok.exfs b z hb

/-- THE STEP: the untracked objects but the frame and the records at ch are kept (the callers' frames up to slots), the frame's map is kept, the new abstract heap is held -/
theorem Inv.step {g' : Array GenState} {t' : Nat} {d' : Drawn} {ch : List Addr} (I : Inv X pins σ H s)
    (hch : ∀ b ∈ ch, (b ∈ X.ex ∨ X.s₀.heap.objs.size ≤ b) ∧ b ≠ X.env.locals ∧ (∀ x c, X.env.cells.lookup x = some c → c ≠ b) ∧ ∀ p ∈ X.pn ++ pins, p.1 ≠ b)
    (keep : ∀ b o, b ≠ X.env.locals → b ∉ X.fs → b ∉ ch → s.heap.get? b = some o → H b = none → h'.get? b = some o)
    (slot : ∀ b o, b ≠ X.env.locals → b ∈ X.fs → b ∉ ch → s.heap.get? b = some o → H b = none → ∃ sl, h'.get? b = some { o with slots := sl }) (free : ∀ b o, b ∉ ch → s.heap.get? b = some o → H b = none → H' b = none)
    (there : ∀ b o, b ∉ ch → s.heap.get? b = some o → ∃ o', h'.get? b = some o')
    (tups : ∀ b xs, H b = some (.tup xs) → H' b = some (.tup xs)) (frzs : ∀ b o u, H b = some (.frz o u) → H' b = some (.frz o u)) (tbls : ∀ b ps, H b = some (.tbl ps) → ∃ more, H' b = some (.tbl (ps ++ more)))
    (ns : ∀ m, s.heap.Ns X.env.locals m → h'.Ns X.env.locals m) (hok : HOk X.prog X.w H' h') (hg : AllBare g') :
    Inv X pins σ H' { s with heap := h', gens := g', drawn := d', toks := t' } := by
  have neL : ∀ b o, X.s₀.heap.get? b = some o → b ≠ X.env.locals := fun b o e => Nat.ne_of_lt (Nat.lt_of_lt_of_le (Heap.lt_size e) I.ok.above)
  have neC : ∀ b o, X.s₀.heap.get? b = some o → b ∉ X.ex → b ∉ ch := fun b o e hx hb => by
    rcases (hch b hb).1 with z | z
    · exact hx z
    · exact absurd (Nat.lt_of_lt_of_le (Heap.lt_size e) z) (Nat.lt_irrefl _)
  have cellK : ∀ x c, X.env.cells.lookup x = some c → ∀ v, s.heap.IsCell c v → h'.IsCell c v := fun x c e v ⟨o, ho, hd⟩ => by
    have nch : c ∉ ch := fun z => (hch c z).2.2.1 x c e rfl
    by_cases hc : c ∈ X.fs
    · obtain ⟨sl, q⟩ := slot c o (I.cne x c e) hc nch ho (I.freeC x c e)
      exact ⟨_, q, hd⟩
    · exact ⟨o, keep c o (I.cne x c e) hc nch ho (I.freeC x c e), hd⟩
  refine ⟨I.ok, I.os, hg, ⟨fun b o e n hb hx => ?_, fun b o e n hb hx => ?_, fun b o e n hx => ?_, fun b o e hx => ?_, fun b xs e => tups b xs (I.base.tups b xs e), fun b o xs e => frzs b o xs (I.base.frzs b o xs e), fun b ps e => ?_⟩, ?_, fun x c e => ?_, ?_, fun x c e => ?_, fun p hp => ?_, hok, I.len⟩
  · exact keep b o (neL b o e) hb (neC b o e hx) (I.base.keep b o e n hb hx) (I.base.free b o e n hx)
  · obtain ⟨sl, e1⟩ := I.base.slot b o e n hb hx
    obtain ⟨sl', e2⟩ := slot b _ (neL b o e) hb (neC b o e hx) e1 (I.base.free b o e n hx)
    exact ⟨sl', e2⟩
  · obtain ⟨o', e1⟩ := I.base.there b o e hx
    exact free b o' (neC b o e hx) e1 (I.base.free b o e n hx)
  · obtain ⟨o', e1⟩ := I.base.there b o e hx
    exact there b o' (neC b o e hx) e1
  · obtain ⟨m1, e1⟩ := I.base.tbls b ps e
    obtain ⟨m2, e2⟩ := tbls b _ e1
    exact ⟨m1 ++ m2, by rw [e2, Array.append_assoc]⟩
  · obtain ⟨m, hn, hl⟩ := I.loc
    refine ⟨m, ns m hn, fun i x v e1 e2 e3 => ?_⟩
    obtain ⟨u, r, l⟩ := hl i x v e1 e2 e3
    refine ⟨u, r, ?_⟩
    rcases l with l | ⟨k, c, e, z⟩
    · exact .inl l
    · exact .inr ⟨k, c, e, cellK x c e _ z⟩
  · obtain ⟨v, z⟩ := I.cell x c e
    exact ⟨v, cellK x c e v z⟩
  · obtain ⟨m, ⟨o, _, _, ho, _⟩, _⟩ := I.loc
    exact free _ o (fun z => (hch _ z).2.1 rfl) ho I.free
  · obtain ⟨v, o, ho, hd⟩ := I.cell x c e
    exact free c o (fun z => (hch c z).2.2.1 x c e rfl) ho (I.freeC x c e)
  · obtain ⟨e, n, ne, nf, d⟩ := I.pin p hp
    have nch : p.1 ∉ ch := fun z => (hch p.1 z).2.2.2 p hp rfl
    exact ⟨keep p.1 p.2 ne nf nch e n, free p.1 p.2 nch e n, ne, nf, d⟩
/-- .. where the frame's own object is kept too -/
theorem Inv.un {t' : Nat} (I : Inv X pins σ H s) (u : Un X.fs [] H H' s.heap h') (hok : HOk X.prog X.w H' h') : Inv X pins σ H' { s with heap := h', toks := t' } := by
  obtain ⟨m, ⟨o, es, ep, ho, r⟩, _⟩ := id I.loc
  obtain ⟨sl, hL⟩ := u.any ho I.free (by simp)
  exact I.step (g' := s.gens) (d' := s.drawn) (ch := []) (fun _ z => nomatch z) (fun b o _ hb _ e n => u.keep b o e n hb (by simp)) (fun b o _ hb _ e n => u.slot b o e n hb (by simp)) (fun b o _ e n => u.free b o e n (by simp)) (fun b o _ e => u.there b o e (by simp)) u.tups u.frzs u.tbls (fun m' hm => by
    obtain ⟨o', es', ep', ho', r'⟩ := hm
    rw [ho] at ho'; cases ho'
    exact ⟨_, es', ep', hL, r'⟩) hok I.bare
/-- behind a call (or a comprehension's block): the slots of this frame may have changed too, the records at ch may have turned -/
theorem Inv.call {g' : Array GenState} {t' : Nat} {d' : Drawn} {ch : List Addr} (I : Inv X pins σ H s) (u : Un (frs X.stack) ch H H' s.heap h') (hok : HOk X.prog X.w H' h') (hg : AllBare g')
    (hch : ∀ b ∈ ch, (b ∈ X.ex ∨ X.s₀.heap.objs.size ≤ b) ∧ b ≠ X.env.locals ∧ (∀ x c, X.env.cells.lookup x = some c → c ≠ b) ∧ ∀ p ∈ X.pn ++ pins, p.1 ≠ b) :
    Inv X pins σ H' { s with heap := h', gens := g', drawn := d', toks := t' } := by
  obtain ⟨m, ⟨o, es, ep, ho, r⟩, _⟩ := id I.loc
  obtain ⟨sl, hL⟩ := u.any ho I.free fun z => (hch _ z).2.1 rfl
  exact I.step (ch := ch) hch (fun b o hL hb hc e n => u.keep b o e n (fun z => (List.mem_cons.mp (I.stkSub b z)).elim hL hb) hc) (fun b o _ _ hc e n => u.any e n hc) (fun b o hc e n => u.free b o e n hc) (fun b o hc e => u.there b o e hc) u.tups u.frzs u.tbls (fun m' hm => by
    obtain ⟨o', es', ep', ho', r'⟩ := hm
    rw [ho] at ho'; cases ho'
    exact ⟨_, es', ep', hL, r'⟩) hok hg
/-- an untracked record of ours (an iterator) has turned -/
theorem Inv.turned {t' : Nat} {it : Addr} (I : Inv X pins σ H s) (k : ∀ b o, b ≠ it → s.heap.get? b = some o → h'.get? b = some o) (hn : H it = none) (hL : it ≠ X.env.locals)
    (h1 : it ∈ X.ex ∨ X.s₀.heap.objs.size ≤ it) (h2 : ∀ x c, X.env.cells.lookup x = some c → c ≠ it) (h3 : ∀ p ∈ X.pn ++ pins, p.1 ≠ it) : Inv X pins σ H { s with heap := h', toks := t' } := by
  have nit : ∀ b u, H b = some u → b ≠ it := fun b u e z => by rw [z, hn] at e; cases e
  refine I.step (g' := s.gens) (d' := s.drawn) (ch := [it]) (fun b hb => ?_) (fun b o _ _ hc e _ => k b o (fun z => hc (by simp [z])) e) (fun b o _ _ hc e _ => ⟨o.slots, k b o (fun z => hc (by simp [z])) e⟩) (fun _ _ _ _ n => n)
    (fun b o hc e => ⟨o, k b o (fun z => hc (by simp [z])) e⟩) (fun _ _ e => e) (fun _ _ _ e => e) (fun b ps e => ⟨#[], by rw [e]; simp⟩) (fun m hm => ?_) (fun b u e => ?_) I.bare
  · have e : b = it := by simpa using hb
    subst e
    exact ⟨h1, hL, h2, h3⟩
  · obtain ⟨o, es, ep, ho, r⟩ := hm
    exact ⟨o, es, ep, k _ o (Ne.symm hL) ho, r⟩
  · refine (I.hok b u e).stay (fun c v hc q => k c v ?_ q) (fun _ q => q) fun _ _ q => q
    rcases hc with z | z
    · rw [z]; exact nit b u e
    · exact nit c _ z
theorem Inv.tok (I : Inv X pins σ H s) (t : Nat) : Inv X pins σ H { s with toks := t } := I.un (h' := s.heap) (t' := t) Un.refl I.hok
/-- all objects kept -/
theorem Inv.kept {t' : Nat} (I : Inv X pins σ H s) (k : ∀ b u, s.heap.get? b = some u → h'.get? b = some u) : Inv X pins σ H { s with heap := h', toks := t' } := I.un (Un.kept k) (I.hok.kept k)
/-- a new object laid and tracked -/
theorem Inv.laid {a : Addr} {o : HO} {t' : Nat} (I : Inv X pins σ H s) (k : ∀ b u, s.heap.get? b = some u → h'.get? b = some u) (hp : s.heap.objs.size ≤ a) (new : ObjOk X.prog X.w (upd H a o) h' a o) :
    Inv X pins σ (upd H a o) { s with heap := h', toks := t' } := I.un (Un.laid k hp (I.hok.fresh hp)) (I.hok.laid k hp new)
/-- an object written -/
theorem Inv.write {x e : Addr} {o : HO} {t' : Nat} (I : Inv X pins σ H s) (mu : Mut (H x)) (he : e = x ∨ H e = some (.own x)) (k : ∀ b u, b ≠ e → s.heap.get? b = some u → h'.get? b = some u) (heo : ∃ u, h'.get? e = some u)
    (new : ObjOk X.prog X.w (upd H x o) h' x o) : Inv X pins σ (upd H x o) { s with heap := h', toks := t' } := I.un (Un.write mu he k heo) (I.hok.write mu he k heo new)
theorem Inv.pins_of {pins' : List (Addr × Obj)} (I : Inv X pins σ H s) (h : ∀ p ∈ pins', s.heap.get? p.1 = some p.2 ∧ H p.1 = none ∧ p.1 ≠ X.env.locals ∧ p.1 ∉ X.fs ∧ ∀ v, p.2.data ≠ .cell v) : Inv X pins' σ H s :=
  ⟨I.ok, I.os, I.bare, I.base, I.loc, I.cell, I.free, I.freeC, fun p hp => (List.mem_append.mp hp).elim (fun z => I.pin p (List.mem_append_left _ z)) (h p), I.hok, I.len⟩

theorem nodup_ix {N : List Str} (hN : N.Nodup) {i j : Nat} {x : Str} (a : N[i]? = some x) (b : N[j]? = some x) : i = j := by
  obtain ⟨h1, e1⟩ := List.getElem?_eq_some_iff.mp a
  obtain ⟨h2, e2⟩ := List.getElem?_eq_some_iff.mp b
  exact (List.getElem_inj hN).mp (e1.trans e2.symm)

/-- a name is stored; what changed -/
theorem store_ok2 {M : Model} {A : Around} {E : Value → Shared → Prop} {i : Nat} {x : Str} {v : V} {u : Value} {Q : Unit → Shared → Prop} (I : Inv X pins σ H s) (hN : X.N.Nodup) (hi : X.N[i]? = some x) (hx : Loc X.env.scope x) (r : RelV v u)
    (h : ∀ s', Inv X pins (σ.set i (some v)) H s' → (∃ a, Heap.SameBut a s.heap s'.heap ∧ (a = X.env.locals ∨ X.env.cells.lookup x = some a)) → Q () s') (hf : X.fn x = true ∨ X.env.scope.names.lookup x = some .local := by first | exact .inl rfl | exact .inr rfl | assumption) : wpAny M A (storeName X.env x u) Q E s := by
  obtain ⟨m, hn, hl⟩ := id I.loc
  have hcls : (X.env.scope.kind == .class || (X.env.scope.kind == .module && X.env.locals != X.env.globals)) = false := by rw [I.ok.kind]; rfl
  have hiσ : i < σ.length := by rw [I.len]; exact (List.getElem?_eq_some_iff.mp hi).1
  have cne := I.cne
  have tracked : ∀ {a : Addr} {h' : Heap}, (∃ o, s.heap.get? a = some o ∧ H a = none) → Heap.SameBut a s.heap h' → HOk X.prog X.w H h' := fun {a h'} ha hs b ob e => by
    obtain ⟨_, _, hfree⟩ := ha
    refine (I.hok b ob e).stay (fun c w' hc q => (hs.2 c ?_).trans q) (fun _ q => q) fun _ _ q => q
    rintro rfl
    rcases hc with rfl | hc
    · rw [hfree] at e; cases e
    · rw [hfree] at hc; cases hc
  rcases hx with hk | hk
  · refine wpAny_storeName_local hk hn (fun h' hn' hs => ?_) hcls
    obtain ⟨oL, _, _, hoL, _⟩ := id hn
    refine h _ ⟨I.ok, I.os, I.bare, ⟨fun b o e n hb hx => ?_, fun b o e n hb hx => ?_, I.base.free, fun b o e hx => ?_, I.base.tups, I.base.frzs, I.base.tbls⟩, ⟨_, hn', fun j y v' e1 e2 e3 => ?_⟩, fun y c e => ?_, I.free, I.freeC, fun p hp => ?_, tracked ⟨oL, hoL, I.free⟩ hs, by simpa using I.len⟩ ⟨_, hs, .inl rfl⟩
    · exact (hs.2 b (Nat.ne_of_lt (Nat.lt_of_lt_of_le (Heap.lt_size e) I.ok.above))).trans (I.base.keep b o e n hb hx)
    · obtain ⟨sl, e1⟩ := I.base.slot b o e n hb hx
      exact ⟨sl, (hs.2 b (Nat.ne_of_lt (Nat.lt_of_lt_of_le (Heap.lt_size e) I.ok.above))).trans e1⟩
    · obtain ⟨o', e1⟩ := I.base.there b o e hx
      exact ⟨o', (hs.2 b (Nat.ne_of_lt (Nat.lt_of_lt_of_le (Heap.lt_size e) I.ok.above))).trans e1⟩
    · by_cases hj : j = i
      · subst hj
        rw [hi] at e1; cases e1
        rw [List.getElem?_set_self hiσ] at e2
        cases e2
        exact ⟨u, r, .inl ⟨hk, by simp⟩⟩
      · rw [List.getElem?_set_ne (Ne.symm hj)] at e2
        obtain ⟨u', r', q⟩ := hl j y v' e1 e2 e3
        refine ⟨u', r', ?_⟩
        rcases q with ⟨k, e⟩ | ⟨k, c, e, z⟩
        · refine .inl ⟨k, ?_⟩
          have : y ≠ x := fun e => hj (nodup_ix hN e1 (e ▸ hi))
          simp [this, e]
        · exact .inr ⟨k, c, e, z.sameBut hs (cne y c e)⟩
    · obtain ⟨w', z⟩ := I.cell y c e
      exact ⟨w', z.sameBut hs (cne y c e)⟩
    · obtain ⟨e, n, ne, nf, d⟩ := I.pin p hp
      exact ⟨(hs.2 p.1 ne).trans e, n, ne, nf, d⟩
  · have hfn : X.fn x = true := by
      rcases hf with z | z
      · exact z
      · rw [z] at hk; cases hk
    obtain ⟨c, hc⟩ := I.ok.has x (.inl hk)
    obtain ⟨w', z⟩ := I.cell x c hc
    refine wpAny_storeName_cell I.ok.kind hk hc z (fun h' hc' hs => ?_)
    obtain ⟨oc, hoc, hocd⟩ := id z
    refine h { s with heap := h' } ⟨I.ok, I.os, I.bare, ⟨fun b o e n hb hx => ?_, fun b o e n hb hx => ?_, I.base.free, fun b o e hx => ?_, I.base.tups, I.base.frzs, I.base.tbls⟩, ⟨m, hn.sameBut hs (Ne.symm (cne x c hc)), fun j y v' e1 e2 e3 => ?_⟩, fun y c' e => ?_, I.free, I.freeC, fun p hp => ?_, tracked ⟨oc, hoc, I.freeC x c hc⟩ hs, by simpa using I.len⟩ ⟨c, hs, .inr hc⟩
    · exact (hs.2 b (Nat.ne_of_lt (Nat.lt_of_lt_of_le (Heap.lt_size e) (I.ok.cab x c hfn hc)))).trans (I.base.keep b o e n hb hx)
    · obtain ⟨sl, e1⟩ := I.base.slot b o e n hb hx
      exact ⟨sl, (hs.2 b (Nat.ne_of_lt (Nat.lt_of_lt_of_le (Heap.lt_size e) (I.ok.cab x c hfn hc)))).trans e1⟩
    · obtain ⟨o', e1⟩ := I.base.there b o e hx
      exact ⟨o', (hs.2 b (Nat.ne_of_lt (Nat.lt_of_lt_of_le (Heap.lt_size e) (I.ok.cab x c hfn hc)))).trans e1⟩
    · by_cases hj : j = i
      · subst hj
        rw [hi] at e1; cases e1
        rw [List.getElem?_set_self hiσ] at e2
        cases e2
        exact ⟨u, r, .inr ⟨.inl hk, c, hc, hc'⟩⟩
      · rw [List.getElem?_set_ne (Ne.symm hj)] at e2
        obtain ⟨u', r', q⟩ := hl j y v' e1 e2 e3
        refine ⟨u', r', ?_⟩
        rcases q with q | ⟨k, c', e, z'⟩
        · exact .inl q
        · refine .inr ⟨k, c', e, z'.sameBut hs ?_⟩
          rintro rfl
          exact hj (nodup_ix hN e1 (I.ok.inj _ _ _ e hc ▸ hi))
    · by_cases hcc : c' = c
      · subst hcc; exact ⟨_, hc'⟩
      · obtain ⟨w2, z2⟩ := I.cell y c' e
        exact ⟨w2, z2.sameBut hs hcc⟩
    · obtain ⟨e, n, ne, nf, d⟩ := I.pin p hp
      refine ⟨(hs.2 p.1 ?_).trans e, n, ne, nf, d⟩
      intro q
      rw [q, hoc] at e
      have q' : oc = p.2 := Option.some.inj e
      exact d w' (by rw [← q']; exact hocd)
theorem store_ok {M : Model} {A : Around} {E : Value → Shared → Prop} {i : Nat} {x : Str} {v : V} {u : Value} {Q : Unit → Shared → Prop} (I : Inv X pins σ H s) (hN : X.N.Nodup) (hi : X.N[i]? = some x) (hx : Loc X.env.scope x) (r : RelV v u)
    (h : ∀ s', Inv X pins (σ.set i (some v)) H s' → Q () s') (hf : X.fn x = true ∨ X.env.scope.names.lookup x = some .local := by first | exact .inl rfl | exact .inr rfl | assumption) : wpAny M A (storeName X.env x u) Q E s :=
  store_ok2 I hN hi hx r (fun s' I' _ => h s' I') hf
/-- behind a call or a block, the state as it is -/
theorem Inv.call' {s' : Shared} {ch : List Addr} (I : Inv X pins σ H s) (ho : s'.os = s.os) (u : Un (frs X.stack) ch H H' s.heap s'.heap) (hok : HOk X.prog X.w H' s'.heap) (hg : AllBare s'.gens)
    (hch : ∀ b ∈ ch, (b ∈ X.ex ∨ X.s₀.heap.objs.size ≤ b) ∧ b ≠ X.env.locals ∧ (∀ x c, X.env.cells.lookup x = some c → c ≠ b) ∧ ∀ p ∈ X.pn ++ pins, p.1 ≠ b) : Inv X pins σ H' s' := by
  obtain ⟨h', g', d', t', o'⟩ := s'
  have e : o' = s.os := ho
  subst e
  exact I.call (g' := g') (t' := t') (d' := d') u hok hg hch
end

/-! ### the judgements -/
/-- an exception: its class, its own dict's address (where it has one), the abstract heap behind it -/
abbrev XK := Value → Option Addr → Hp → Prop
abbrev St := List (Option V)
abbrev VK := V → Hp → Prop
/-- an expression's reading; a test's; an argument list's -/
abbrev TE := St → Hp → VK → Prop
abbrev TT := St → Hp → (Bool → Hp → Prop) → Prop
abbrev TA := St → Hp → (List V → Hp → Prop) → Prop
/-- what is wanted behind a statement -/
structure Ends where
  nx : St → Hp → Prop
  rt : VK
  bk : St → Hp → Prop := fun _ _ => False
  ct : St → Hp → Prop := fun _ _ => False
abbrev TS := Ends → St → Hp → Prop

def EP (X : Cx) (pins : List (Addr × Obj)) (σ : St) (Q : VK) (u : Value) (s' : Shared) : Prop := ∃ v H', Inv X pins σ H' s' ∧ RelV v u ∧ Q v H'
def TP (X : Cx) (pins : List (Addr × Obj)) (σ : St) (Q : Bool → Hp → Prop) (b : Bool) (s' : Shared) : Prop := ∃ H', Inv X pins σ H' s' ∧ Q b H'
def AP (X : Cx) (pins : List (Addr × Obj)) (σ : St) (Q : List V → Hp → Prop) (us : List Value) (s' : Shared) : Prop := ∃ vs H', Inv X pins σ H' s' ∧ Vals vs us ∧ Q vs H'
def SP (X : Cx) (pins : List (Addr × Obj)) (D : Ends) (f : Flow) (s' : Shared) : Prop :=
  match f with
  | .next => ∃ σ' H', Inv X pins σ' H' s' ∧ D.nx σ' H'
  | .brk => ∃ σ' H', Inv X pins σ' H' s' ∧ D.bk σ' H'
  | .cont => ∃ σ' H', Inv X pins σ' H' s' ∧ D.ct σ' H'
  | .ret u => ∃ v σ' H', Inv X pins σ' H' s' ∧ RelV v u ∧ D.rt v H'

def PE (X : Cx) (e : Expr) (t : TE) : Prop :=
  ∀ (pins : List (Addr × Obj)) (s : Shared) (σ : St) (H : Hp) (Q : VK), Inv X pins σ H s → t σ H Q → wpAny (model X.prog X.w) X.A (eval e X.env) (EP X pins σ Q) X.xe s
def PT (X : Cx) (e : Expr) (t : TT) : Prop :=
  ∀ (pins : List (Addr × Obj)) (s : Shared) (σ : St) (H : Hp) (Q : Bool → Hp → Prop), Inv X pins σ H s → t σ H Q → wpAny (model X.prog X.w) X.A (isTrue e X.env (eval e X.env)) (TP X pins σ Q) X.xe s
/-- a test whatever its 'whole' is (and, or) -/
def PW (X : Cx) (e : Expr) (t : TT) : Prop :=
  ∀ (whole : Sem Value) (pins : List (Addr × Obj)) (s : Shared) (σ : St) (H : Hp) (Q : Bool → Hp → Prop), Inv X pins σ H s → t σ H Q → wpAny (model X.prog X.w) X.A (isTrue e X.env whole) (TP X pins σ Q) X.xe s
theorem PW.pt {X : Cx} {e : Expr} {t : TT} (h : PW X e t) : PT X e t := h _
/-- an argument list (no star), from the left -/
def PA (X : Cx) (es : List Expr) (t : TA) : Prop :=
  ∀ (pos : Pos) (pins : List (Addr × Obj)) (s : Shared) (σ : St) (H : Hp) (Q : List V → Hp → Prop), Inv X pins σ H s → t σ H Q → wpAny (model X.prog X.w) X.A (spliced (backTo pos (starEach es X.env))) (AP X pins σ Q) X.xe s
def PS (X : Cx) (st : Stmt) (t : TS) : Prop :=
  ∀ (pins : List (Addr × Obj)) (s : Shared) (σ : St) (H : Hp) (D : Ends), Inv X pins σ H s → t D σ H → wpAny (model X.prog X.w) X.A (exec st X.env) (SP X pins D) X.xe s
def PSs (X : Cx) (st : List Stmt) (t : TS) : Prop :=
  ∀ (pins : List (Addr × Obj)) (s : Shared) (σ : St) (H : Hp) (D : Ends), Inv X pins σ H s → t D σ H → wpAny (model X.prog X.w) X.A (execs st X.env) (SP X pins D) X.xe s
/-- weaken the end -/
theorem thn {α : Type} {t : Sem α} {Q Q' : α → Shared → Prop} {M : Model} {A : Around} {E : Value → Shared → Prop} {s : Shared} (h : wpAny M A t Q E s) (hQ : ∀ a s, Q a s → Q' a s) : wpAny M A t Q' E s := wpAny_mono h hQ fun _ _ x => x
end L2

namespace L2
open PySem PySem.Spec PyProof.Rows
section
variable {X : Cx}

/-! ### names and constants -/
def tVar (i : Nat) : TE := fun σ H Q => ∃ v, σ[i]? = some (some v) ∧ Q v H
def tC (v : V) : TE := fun _ H Q => Q v H
theorem pe_var {i : Nat} {x : Str} {pos : Pos} (hN : X.N[i]? = some x) (hv : Vis X.env.scope x) (hd : (x == ("__debug__" : Str)) = false := by decide) (hcd : (x == ("__classdict__" : Str)) = false := by decide) : PE X (.Name x pos) (tVar i) := by
  intro pins s σ H Q I h
  obtain ⟨v, e, h⟩ := h
  obtain ⟨m, hn, hl⟩ := I.loc
  obtain ⟨u, r, l⟩ := hl i x v hN e hv
  have fin : EP X pins σ Q u s := ⟨v, H, I, r, h⟩
  rcases l with ⟨hk, hm⟩ | ⟨hk, c, hc, hcell⟩
  · exact wpAny_Name (wpAny_loadName_local I.ok.kind hk hn hm fin) hd
  · rcases hk with hk | hk
    · exact wpAny_Name (wpAny_loadName_cell I.ok.kind hk hc hcell fin) hd
    · exact wpAny_Name (wpAny_loadName_free I.ok.kind hk hc hcell fin hcd) hd
theorem pe_int {i j pos} : PE X (.Constant (.int i) j pos) (tC (.int i)) := fun _ _ _ H _ I h => wpAny_Constant_int ⟨.int i, H, I.tok _, ⟨_, rfl⟩, h⟩
theorem pe_bl {b j pos} : PE X (.Constant (.bool b) j pos) (tC (.bl b)) := fun _ _ _ H _ I h => Constant_bool ⟨.bl b, H, I, rfl, h⟩
theorem pe_non {j pos} : PE X (.Constant .none j pos) (tC .non) := fun _ _ _ H _ I h => Constant_none ⟨.non, H, I, rfl, h⟩
theorem pe_str {x j pos} : PE X (.Constant (.str x) j pos) (tC (.str x)) := fun _ _ _ H _ I h => Calls.Constant_str ⟨.str x, H, I.tok _, ⟨_, rfl⟩, h⟩

/-- a global name of the def -/
def Gl (X : Cx) (x : Str) : Prop := X.env.kindOf x = some .globalImplicit
theorem ld_glob {E : Value → Shared → Prop} {pins : List (Addr × Obj)} {s : Shared} {σ : St} {H : Hp} {x : Str} {u : Value} {pos : Pos} {Q : Value → Shared → Prop} (I : Inv X pins σ H s) (hg : Gl X x) (hm : X.mg x = some u) (h : Q u s)
    (hd : (x == ("__debug__" : Str)) = false := by decide) : wpAny (model X.prog X.w) X.A (eval (.Name x pos) X.env) Q E s :=
  Calls.Name_function_global I.ok.kind hg (Calls.loadGlobal_global (by rw [I.ok.glob]; exact I.mod.glob.keeps I.bk) hm h) hd
theorem ld_blt {E : Value → Shared → Prop} {pins : List (Addr × Obj)} {s : Shared} {σ : St} {H : Hp} {x : Str} {u : Value} {pos : Pos} {Q : Value → Shared → Prop} (I : Inv X pins σ H s) (hg : Gl X x) (hm : X.mg x = none) (hv : bootBuiltins x = some u) (h : Q u s)
    (hn : x ≠ "__name__" := by decide) (hd : (x == ("__debug__" : Str)) = false := by decide) : wpAny (model X.prog X.w) X.A (eval (.Name x pos) X.env) Q E s := by
  obtain ⟨mb, h1, h2⟩ := I.mod.blt
  exact Calls.Name_function_global I.ok.kind hg (Calls.loadGlobal_builtin (by rw [I.ok.glob]; exact I.mod.glob.keeps I.bk) hm (by rw [I.ok.blt]; exact h1.keeps I.bk) ((h2 x hn).trans hv) h) hd
/-- a module's constant, a class, a function, as a value -/
theorem pe_glob {x : Str} {v : V} {u : Value} {pos : Pos} (hg : Gl X x) (hm : X.mg x = some u) (r : RelV v u) (hd : (x == ("__debug__" : Str)) = false := by decide) : PE X (.Name x pos) (tC v) :=
  fun _ _ _ H _ I h => ld_glob I hg hm ⟨v, H, I, r, h⟩ hd
theorem pe_bltn {x : Str} {v : V} {u : Value} {pos : Pos} (hg : Gl X x) (hm : X.mg x = none) (hv : bootBuiltins x = some u) (r : RelV v u) (hn : x ≠ "__name__" := by decide) (hd : (x == ("__debug__" : Str)) = false := by decide) : PE X (.Name x pos) (tC v) :=
  fun _ _ _ H _ I h => ld_blt I hg hm hv ⟨v, H, I, r, h⟩ hn hd

/-! ### arithmetic -/
/-- two ints -/
def t2I (ta tb : TE) (k : Int → Int → Hp → Prop) : St → Hp → Prop := fun σ H => ta σ H fun x H1 => tb σ H1 fun y H2 => ∃ i j, x = .int i ∧ y = .int j ∧ k i j H2
def tAdd (ta tb : TE) : TE := fun σ H Q => t2I ta tb (fun i j H2 => Q (.int (i + j)) H2) σ H
def tSub (ta tb : TE) : TE := fun σ H Q => t2I ta tb (fun i j H2 => Q (.int (i - j)) H2) σ H
/-- the left factor below 2^64 -/
def tMul (ta tb : TE) : TE := fun σ H Q => t2I ta tb (fun i j H2 => (-(2 ^ 64) < i ∧ i < 2 ^ 64) ∧ Q (.int (i * j)) H2) σ H
variable {a b : Expr} {ta tb : TE} {pos : Pos}
/-! ### comparisons -/
def PC (X : Cx) (op : CmpOp) (a b : Expr) (t : TE) : Prop :=
  ∀ (pins : List (Addr × Obj)) (s : Shared) (σ : St) (H : Hp) (Q : VK), Inv X pins σ H s → t σ H Q →
    wpAny (model X.prog X.w) X.A (eval a X.env) (fun v s₁ => wpAny (model X.prog X.w) X.A (eval b X.env) (fun u s₂ => wpAny (model X.prog X.w) X.A (compareOp op v u) (EP X pins σ Q) X.xe s₂) X.xe s₁) X.xe s
def tCmp (p : Int → Int → Bool) (ta tb : TE) : TE := fun σ H Q => t2I ta tb (fun i j H2 => Q (.bl (p i j)) H2) σ H
abbrev tLt : TE → TE → TE := tCmp fun i j => decide (i < j)
abbrev tLe : TE → TE → TE := tCmp fun i j => decide (i ≤ j)
abbrev tGt : TE → TE → TE := tCmp fun i j => decide (j < i)
abbrev tGe : TE → TE → TE := tCmp fun i j => decide (j ≤ i)
abbrev tEqI : TE → TE → TE := tCmp fun i j => decide (i = j)
abbrev tNeI : TE → TE → TE := tCmp fun i j => !decide (i = j)
/-- is None -/
def tIsN (ta : TE) : TE := fun σ H Q => ta σ H fun x H1 => Q (.bl (decide (x = .non))) H1
def tNotN (ta : TE) : TE := fun σ H Q => ta σ H fun x H1 => Q (.bl (!decide (x = .non))) H1
/-- a comparison as a value, as a test -/
def tB (t : TE) : TT := fun σ H Q => t σ H fun x H1 => ∃ c, x = .bl c ∧ Q c H1
/-! ### and, or, not -/
variable {tA tB' : TT} {rest : List Expr}
def tAnd (t u : TT) : TT := fun σ H Q => t σ H fun c H1 => if c = true then u σ H1 Q else Q false H1
def tOr (t u : TT) : TT := fun σ H Q => t σ H fun c H1 => if c = true then Q true H1 else u σ H1 Q
def tNot (t : TT) : TT := fun σ H Q => t σ H fun c H1 => Q (!c) H1
theorem pw_and1 (ha : PT X a tA) : PW X (.BoolOp .And [a] pos) tA := by
  intro wh pins s σ H Q I h
  refine isTrue_and (thn (ha pins s σ H Q I h) fun c s1 e => ?_)
  cases c with
  | true => exact isTrue_and_nil e
  | false => exact e
theorem pw_or1 (ha : PT X a tA) : PW X (.BoolOp .Or [a] pos) tA := by
  intro wh pins s σ H Q I h
  refine isTrue_or (thn (ha pins s σ H Q I h) fun c s1 e => ?_)
  cases c with
  | false => exact isTrue_or_nil e
  | true => exact e
theorem pw_and (ha : PT X a tA) (hb : PW X (.BoolOp .And (b :: rest) pos) tB') : PW X (.BoolOp .And (a :: b :: rest) pos) (tAnd tA tB') := by
  intro wh pins s σ H Q I h
  refine isTrue_and (thn (ha pins s σ H _ I h) fun c s1 ⟨H1, I1, q1⟩ => ?_)
  cases c with
  | true => exact hb wh pins s1 σ H1 Q I1 q1
  | false => exact ⟨H1, I1, q1⟩
theorem pw_or (ha : PT X a tA) (hb : PW X (.BoolOp .Or (b :: rest) pos) tB') : PW X (.BoolOp .Or (a :: b :: rest) pos) (tOr tA tB') := by
  intro wh pins s σ H Q I h
  refine isTrue_or (thn (ha pins s σ H _ I h) fun c s1 ⟨H1, I1, q1⟩ => ?_)
  cases c with
  | true => exact ⟨H1, I1, q1⟩
  | false => exact hb wh pins s1 σ H1 Q I1 q1
theorem pt_not (ha : PT X a tA) : PT X (.UnaryOp .Not a pos) (tNot tA) := by
  intro pins s σ H Q I h
  exact isTrue_not (ha pins s σ H (fun c H1 => Q (!c) H1) I h)
/-- .. as values (bools) -/
def tAndV (ta tb : TE) : TE := fun σ H Q => ta σ H fun x H1 => ∃ c, x = .bl c ∧ if c = true then tb σ H1 Q else Q (.bl false) H1
def tOrV (ta tb : TE) : TE := fun σ H Q => ta σ H fun x H1 => ∃ c, x = .bl c ∧ if c = true then Q (.bl true) H1 else tb σ H1 Q
def tNotV (ta : TE) : TE := fun σ H Q => ta σ H fun x H1 => ∃ c, x = .bl c ∧ Q (.bl (!c)) H1
theorem pe_one {op} {t : TE} (h : PE X a t) : PE X (.BoolOp op [a] pos) t := fun pins s σ H Q I hw => BoolOp_one (h pins s σ H Q I hw)
theorem pe_and (ha : PE X a ta) (hb : PE X (.BoolOp .And (b :: rest) pos) tb) : PE X (.BoolOp .And (a :: b :: rest) pos) (tAndV ta tb) := by
  intro pins s σ H Q I h
  refine BoolOp_and (thn (ha pins s σ H _ I h) fun v s1 ⟨x, H1, I1, r1, q1⟩ => ?_)
  obtain ⟨c, rfl, q1⟩ := q1
  cases r1
  refine wpAny_truthy_bool ?_
  cases c with
  | true => exact hb pins s1 σ H1 Q I1 q1
  | false => exact ⟨.bl false, H1, I1, rfl, q1⟩
theorem pe_or (ha : PE X a ta) (hb : PE X (.BoolOp .Or (b :: rest) pos) tb) : PE X (.BoolOp .Or (a :: b :: rest) pos) (tOrV ta tb) := by
  intro pins s σ H Q I h
  refine BoolOp_or (thn (ha pins s σ H _ I h) fun v s1 ⟨x, H1, I1, r1, q1⟩ => ?_)
  obtain ⟨c, rfl, q1⟩ := q1
  cases r1
  refine wpAny_truthy_bool ?_
  cases c with
  | false => exact hb pins s1 σ H1 Q I1 q1
  | true => exact ⟨.bl true, H1, I1, rfl, q1⟩
theorem pe_not (ha : PE X a ta) : PE X (.UnaryOp .Not a pos) (tNotV ta) := by
  intro pins s σ H Q I h
  refine UnaryOp_ (thn (ha pins s σ H _ I h) fun v s1 ⟨x, H1, I1, r1, q1⟩ => ?_)
  obtain ⟨c, rfl, q1⟩ := q1
  cases r1
  exact not_of (wpAny_truthy_bool ⟨.bl (!c), H1, I1, rfl, q1⟩)
/-- a if t else b -/
def tIf (t : TT) (ta tb : TE) : TE := fun σ H Q => t σ H fun c H1 => if c = true then ta σ H1 Q else tb σ H1 Q
theorem pe_ifExp {c : Expr} (hc : PT X c tA) (ha : PE X a ta) (hb : PE X b tb) : PE X (.IfExp c a b pos) (tIf tA ta tb) := by
  intro pins s σ H Q I h
  refine wpAny_IfExp (thn (hc pins s σ H _ I h) fun d s1 ⟨H1, I1, q1⟩ => ?_)
  cases d with
  | true => exact ha pins s1 σ H1 Q I1 q1
  | false => exact hb pins s1 σ H1 Q I1 q1
end
end L2

namespace L2
open PySem PySem.Spec PyProof.Rows

/-! ### a list, a tuple that is read: tracked, frozen, or an object of the module -/
def SqL (K : PySem.W.Frag) (H : Hp) (a : Addr) (xs : List V) : Prop :=
  Rd H a (.lst xs) ∨
    ∃ (o : Obj) (its : Array Value) (n : Nat), K.lookup a = some o ∧ o.cls = .type "list" ∧ o.dict = none ∧ o.data = .seq its n ∧ its.size ≤ sizeLine ∧ Vals xs its.toList
def SqT (K : PySem.W.Frag) (H : Hp) (a : Addr) (xs : List V) : Prop :=
  Rd H a (.tup xs) ∨
    ∃ (o : Obj) (its : Array Value) (n : Nat), K.lookup a = some o ∧ o.cls = .type "tuple" ∧ o.data = .seq its n ∧ its.size ≤ sizeLine ∧ Vals xs its.toList
def absV : Value → Option V
  | .none => some .non
  | .bool b => some (.bl b)
  | .int i _ => some (.int i)
  | .str x _ => some (.str x)
  | .bytes b _ => some (.byt b)
  | .float b _ => some (.flt b)
  | .ref a => some (.ref a)
  | .type n => some (.ty n)
  | _ => none
theorem RelV.abs {x : V} {u : Value} (r : RelV x u) : absV u = some x := by
  cases x with
  | non => cases r; rfl
  | bl _ => cases r; rfl
  | int _ => obtain ⟨t, rfl⟩ := r; rfl
  | str _ => obtain ⟨t, rfl⟩ := r; rfl
  | byt _ => obtain ⟨t, rfl⟩ := r; rfl
  | flt _ => obtain ⟨t, rfl⟩ := r; rfl
  | ref _ => cases r; rfl
  | ty _ => cases r; rfl
theorem RelV.inj {x y : V} {u : Value} (r : RelV x u) (q : RelV y u) : x = y := Option.some.inj (r.abs.symm.trans q.abs)
theorem Vals.inj : ∀ {xs ys : List V} {us : List Value}, Vals xs us → Vals ys us → xs = ys
  | _, _, _, .nil, .nil => rfl
  | _, _, _, .cons r t, .cons r' t' => by rw [r.inj r', Vals.inj t t']
section
variable {X : Cx} {pins : List (Addr × Obj)} {σ : St} {H : Hp} {s : Shared} {a : Addr} {xs ys : List V}
theorem SqL.of {K : PySem.W.Frag} (h : H a = some (.lst xs)) : SqL K H a xs := .inl (.inl h)
theorem SqT.of {K : PySem.W.Frag} (h : H a = some (.tup xs)) : SqT K H a xs := .inl (.inl h)
theorem Inv.list (I : Inv X pins σ H s) (h : SqL X.K H a xs) : ∃ its : List Value, Vals xs its ∧ PlainL s.heap a its.toArray ∧ xs.length ≤ sizeLine := by
  rcases h with h | ⟨o, its, n, hk, hc, hd, hs, hz, r⟩
  · obtain ⟨z, its, n, r, e⟩ := h.ok I.hok
    exact ⟨its, r, ⟨_, n, e, rfl, rfl, rfl⟩, z⟩
  · refine ⟨its.toList, r, ⟨o, n, I.kIn a o hk, hc, hd, by simpa using hs⟩, ?_⟩
    have e := r.length
    simp only [Array.length_toList] at e
    omega
theorem Inv.tuple (I : Inv X pins σ H s) (h : SqT X.K H a xs) : ∃ its : List Value, Vals xs its ∧ IsTup s.heap a its.toArray ∧ xs.length ≤ sizeLine := by
  rcases h with h | ⟨o, its, n, hk, hc, hs, hz, r⟩
  · obtain ⟨z, its, r, p⟩ := h.ok I.hok
    exact ⟨its, r, p, z⟩
  · refine ⟨its.toList, r, ⟨o, I.kIn a o hk, hc, n, by simpa using hs⟩, ?_⟩
    have e := r.length
    simp only [Array.length_toList] at e
    omega
theorem Inv.list_inj (I : Inv X pins σ H s) (h : SqL X.K H a xs) (h' : SqL X.K H a ys) : xs = ys := by
  obtain ⟨its, r, ⟨o, n, e, _, _, d⟩, _⟩ := I.list h
  obtain ⟨its', r', ⟨o', n', e', _, _, d'⟩, _⟩ := I.list h'
  rw [e] at e'; cases e'
  rw [d] at d'
  injection d' with d1 _
  have : its = its' := by simpa using congrArg Array.toList d1
  subst this
  exact r.inj r'
theorem Inv.tuple_inj (I : Inv X pins σ H s) (h : SqT X.K H a xs) (h' : SqT X.K H a ys) : xs = ys := by
  obtain ⟨its, r, ⟨o, e, _, n, d⟩, _⟩ := I.tuple h
  obtain ⟨its', r', ⟨o', e', _, n', d'⟩, _⟩ := I.tuple h'
  rw [e] at e'; cases e'
  rw [d] at d'
  injection d' with d1 _
  have : its = its' := by simpa using congrArg Array.toList d1
  subst this
  exact r.inj r'
end

/-! ### another wish about exceptions -/
abbrev Cx.wish (X : Cx) (E : Value → Shared → Prop) : Cx := { X with xe := E }
/-- no exception leaves -/
abbrev Cx.nox (X : Cx) : Cx := X.wish fun _ _ => False
theorem Cx.Ok.wish {X : Cx} (ok : X.Ok) (E : Value → Shared → Prop) : (X.wish E).Ok :=
  ⟨ok.mod, ok.kind, ok.glob, ok.blt, ok.above, ok.inj, ok.has, ok.cab, ok.hd, ok.frames, ok.stk, ok.exf, ok.bs, ok.bsz, ok.noex, ok.exfs, ok.funs, ok.frf⟩
theorem Cx.Ok.unwish {X : Cx} {E : Value → Shared → Prop} (ok : (X.wish E).Ok) : X.Ok :=
  ⟨ok.mod, ok.kind, ok.glob, ok.blt, ok.above, ok.inj, ok.has, ok.cab, ok.hd, ok.frames, ok.stk, ok.exf, ok.bs, ok.bsz, ok.noex, ok.exfs, ok.funs, ok.frf⟩
section
variable {X : Cx} {pins : List (Addr × Obj)} {σ : St} {H : Hp} {s : Shared} {E : Value → Shared → Prop}
theorem Inv.wish (I : Inv X pins σ H s) (E : Value → Shared → Prop) : Inv (X.wish E) pins σ H s := ⟨I.ok.wish E, I.os, I.bare, I.base, I.loc, I.cell, I.free, I.freeC, I.pin, I.hok, I.len⟩
theorem Inv.unwish (I : Inv (X.wish E) pins σ H s) : Inv X pins σ H s := ⟨I.ok.unwish, I.os, I.bare, I.base, I.loc, I.cell, I.free, I.freeC, I.pin, I.hok, I.len⟩
theorem SP.unwish {D : Ends} {f : Flow} {s' : Shared} (h : SP (X.wish E) pins D f s') : SP X pins D f s' := by
  cases f with
  | next => obtain ⟨σ', H', I, q⟩ := h; exact ⟨σ', H', I.unwish, q⟩
  | brk => obtain ⟨σ', H', I, q⟩ := h; exact ⟨σ', H', I.unwish, q⟩
  | cont => obtain ⟨σ', H', I, q⟩ := h; exact ⟨σ', H', I.unwish, q⟩
  | ret u => obtain ⟨v, σ', H', I, r, q⟩ := h; exact ⟨v, σ', H', I.unwish, r, q⟩
end

/-! ### blocks and small statements -/
section
variable {X : Cx} {st : Stmt} {rest : List Stmt} {t u : TS} {e : Expr} {te : TE} {pos : Pos}
def tNext : TS := fun D σ H => D.nx σ H
def tSeq (t u : TS) : TS := fun D σ H => t { D with nx := u D } σ H
theorem pss_nil : PSs X [] tNext := fun _ _ σ H _ I h => wpAny_execs_nil ⟨σ, H, I, h⟩
theorem pss_cons (h1 : PS X st t) (h2 : PSs X rest u) : PSs X (st :: rest) (tSeq t u) := by
  intro pins s σ H D I h
  refine wpAny_execs_cons (thn (h1 pins s σ H { D with nx := u D } I h) fun f s1 q => ?_)
  cases f with
  | next =>
    obtain ⟨σ', H', I', q⟩ := q
    exact h2 pins s1 σ' H' D I' q
  | ret v => exact q
  | brk => exact q
  | cont => exact q
def tBreak : TS := fun D σ H => D.bk σ H
def tCont : TS := fun D σ H => D.ct σ H
theorem ps_pass : PS X (.Pass pos) tNext := fun _ _ σ H _ I h => wpAny_Pass ⟨σ, H, I, h⟩
theorem ps_break : PS X (.Break pos) tBreak := fun _ _ σ H _ I h => wpAny_Break ⟨σ, H, I, h⟩
theorem ps_continue : PS X (.Continue pos) tCont := fun _ _ σ H _ I h => wpAny_Continue ⟨σ, H, I, h⟩
/-- in a def's body nothing is shown -/
theorem Inv.quiet {pins : List (Addr × Obj)} {σ : St} {H : Hp} {s : Shared} (I : Inv X pins σ H s) : interactive X.env = false := by simp [interactive, I.ok.kind]
/-- an expression whose value is dropped -/
def tDrop (te : TE) : TS := fun D σ H => te σ H fun _ H1 => D.nx σ H1
theorem ps_expr (he : PE X e te) (hs : swapsWith e none pos.line X.env = pure false := by rfl) : PS X (.Expr e pos) (tDrop te) := by
  intro pins s σ H D I h
  exact wpAny_Expr_any (thn (he pins s σ H _ I h) fun v s1 ⟨x, H1, I1, r1, q1⟩ => ⟨σ, H1, I1, q1⟩) I.quiet hs
def tRet (te : TE) : TS := fun D σ H => te σ H D.rt
theorem ps_ret (he : PE X e te) : PS X (.Return (some e) pos) (tRet te) := by
  intro pins s σ H D I h
  exact wpAny_Return_some (thn (he pins s σ H _ I h) fun v s1 ⟨x, H1, I1, r1, q1⟩ => ⟨x, σ, H1, I1, r1, q1⟩)
def tRetN : TS := fun D _ H => D.rt .non H
theorem ps_retN : PS X (.Return none pos) tRetN := fun _ _ σ H _ I h => wpAny_Return_none ⟨.non, σ, H, I, rfl, h⟩
def tIfS (c : TT) (t u : TS) : TS := fun D σ H => c σ H fun b H1 => if b = true then t D σ H1 else u D σ H1
theorem ps_if {c : Expr} {a b : List Stmt} {tc : TT} (hc : PT X c tc) (ha : PSs X a t) (hb : PSs X b u) : PS X (.If c a b pos) (tIfS tc t u) := by
  intro pins s σ H D I h
  refine wpAny_If (thn (hc pins s σ H _ I h) fun d s1 ⟨H1, I1, q1⟩ => ?_)
  cases d with
  | true => exact ha pins s1 σ H1 D I1 q1
  | false => exact hb pins s1 σ H1 D I1 q1
/-- code that the proof never comes to -/
def tNever : TS := fun _ _ _ => False
end

/-! ### targets -/
abbrev TG := V → St → Hp → (St → Hp → Prop) → Prop
abbrev TGs := List V → St → Hp → (St → Hp → Prop) → Prop
def PG (X : Cx) (target : Expr) (t : TG) : Prop :=
  ∀ (pins : List (Addr × Obj)) (s : Shared) (σ : St) (H : Hp) (v : V) (u : Value) (Q : St → Hp → Prop), Inv X pins σ H s → RelV v u → t v σ H Q →
    wpAny (model X.prog X.w) X.A (assign target X.env u) (fun _ s' => ∃ σ' H', Inv X pins σ' H' s' ∧ Q σ' H') X.xe s
/-- several targets, one after another -/
def PGs (X : Cx) (ts : List Expr) (t : TGs) : Prop :=
  ∀ (pins : List (Addr × Obj)) (s : Shared) (σ : St) (H : Hp) (vs : List V) (us : List Value) (Q : St → Hp → Prop), Inv X pins σ H s → Vals vs us → t vs σ H Q →
    wpAny (model X.prog X.w) X.A (assignInOrder ((assignEach ts X.env).map (·.2)) us) (fun _ s' => ∃ σ' H', Inv X pins σ' H' s' ∧ Q σ' H') X.xe s
/-- o[i] = v, by values -/
abbrev TSet := V → V → V → Hp → (Hp → Prop) → Prop
def PSet (X : Cx) (t : TSet) : Prop :=
  ∀ (pins : List (Addr × Obj)) (s : Shared) (σ : St) (H : Hp) (o i v : V) (ov iv u : Value) (Q : Hp → Prop), Inv X pins σ H s → RelV o ov → RelV i iv → RelV v u → t o i v H Q →
    wpAny (model X.prog X.w) X.A (setItem ov iv u) (fun _ s' => ∃ H', Inv X pins σ H' s' ∧ Q H') X.xe s
/-- a op= b, by values -/
abbrev TIp := V → V → Hp → VK → Prop
def PIp (X : Cx) (op : Operator) (t : TIp) : Prop :=
  ∀ (pins : List (Addr × Obj)) (s : Shared) (σ : St) (H : Hp) (x y : V) (v u : Value) (Q : VK), Inv X pins σ H s → RelV x v → RelV y u → t x y H Q →
    wpAny (model X.prog X.w) X.A (inplaceOp op v u) (EP X pins σ Q) X.xe s
section
variable {X : Cx} {pos : Pos}
def gName (i : Nat) : TG := fun v σ H Q => Q (σ.set i (some v)) H
theorem pg_name {i : Nat} {x : Str} (hN : X.N.Nodup) (hi : X.N[i]? = some x) (hx : Loc X.env.scope x) (hf : X.fn x = true ∨ X.env.scope.names.lookup x = some .local := by first | exact .inl rfl | exact .inr rfl | assumption) : PG X (.Name x pos) (gName i) := by
  intro pins s σ H v u Q I r h
  exact wpAny_assign_Name (store_ok I hN hi hx r (fun s' I' => ⟨_, H, I', h⟩) hf)
def gNil : TGs := fun vs σ H Q => vs = [] ∧ Q σ H
def gCons (t : TG) (u : TGs) : TGs := fun vs σ H Q => ∃ v r, vs = v :: r ∧ t v σ H fun σ' H' => u r σ' H' Q
theorem pgs_nil : PGs X [] gNil := by
  intro pins s σ H vs us Q I r h
  obtain ⟨e, h⟩ := h
  subst e
  cases r
  exact assignInOrder_nil ⟨σ, H, I, h⟩
theorem pgs_cons {e : Expr} {es : List Expr} {t : TG} {u : TGs} (h1 : PG X e t) (h2 : PGs X es u)
    (hs : (assignEach (e :: es) X.env).map (·.2) = assign e X.env :: (assignEach es X.env).map (·.2) := by rfl) : PGs X (e :: es) (gCons t u) := by
  intro pins s σ H vs us Q I r h
  obtain ⟨v, vr, e1, h⟩ := h
  subst e1
  cases r with
  | cons r rr =>
    rw [hs]
    refine assignInOrder_cons (thn (h1 pins s σ H _ _ _ I r h) fun _ s1 ⟨σ1, H1, I1, q1⟩ => ?_)
    exact h2 pins s1 σ1 H1 _ _ Q I1 rr q1
/-- (a, b, ..) = a tuple of that length -/
def gTup (K : PySem.W.Frag) (n : Nat) (t : TGs) : TG := fun v σ H Q => ∃ a xs, v = .ref a ∧ SqT K H a xs ∧ xs.length = n ∧ t xs σ H Q
theorem pg_tup {es : List Expr} {k : Nat} {t : TGs} {n : Nat} (hc : X.calm = true) (h : PGs X es t)
    (hn : (assignEach es X.env).length = n := by rfl) (hst : (assignEach es X.env).findIdx? (·.1) = none := by rfl) : PG X (.Tuple es k pos) (gTup X.K n t) := by
  intro pins s σ H v u Q I r hw
  obtain ⟨a, xs, e1, hq, hl, hw⟩ := hw
  subst e1
  cases r
  obtain ⟨its, rv, ht, hz⟩ := I.tuple hq
  refine assign_Tuple_tuple (I.ok.hd hc) ht (by simp [hn, ← hl, rv.length]) hst fun h' hx => ?_
  have I1 : Inv X pins σ H { s with heap := h' } := I.kept (t' := s.toks) fun b o e => hx b o (Nat.ne_of_lt (Heap.lt_size e)) e
  exact h pins _ σ H xs _ Q I1 (by simpa using rv) hw
/-- o[i] = .. -/
def gSub (to ti : TE) (t : TSet) : TG := fun v σ H Q => to σ H fun o H1 => ti σ H1 fun i H2 => t o i v H2 fun H3 => Q σ H3
theorem pg_sub {o i : Expr} {to ti : TE} {t : TSet} (ho : PE X o to) (hi : PE X i ti) (hs : PSet X t)
    (ha : ∀ v, assign (.Subscript o i pos) X.env v = (do
      let ov ← holding [v] (eval o X.env)
      let iv ← holding [v, ov] (eval i X.env)
      standAt pos
      holding [v, ov, iv] (setItem ov iv v)
      release [v, ov, iv] []) := by intro _; rfl) : PG X (.Subscript o i pos) (gSub to ti t) := by
  intro pins s σ H v u Q I r h
  rw [ha]
  refine wpAny_bind (wpAny_holding (thn (ho pins s σ H _ I h) fun ov s1 ⟨x, H1, I1, r1, q1⟩ => ?_))
  refine wpAny_bind (wpAny_holding (thn (hi pins s1 σ H1 _ I1 q1) fun iv s2 ⟨y, H2, I2, r2, q2⟩ => ?_))
  refine wpAny_bind (wpAny_standAt (wpAny_bind (wpAny_holding (thn (hs pins s2 σ H2 x y v ov iv u _ I2 r1 r2 r q2) fun _ s3 ⟨H3, I3, q3⟩ => ?_))))
  exact wpAny_release ⟨σ, H3, I3, q3⟩
/-- target = value -/
def tAsg (te : TE) (g : TG) : TS := fun D σ H => te σ H fun x H1 => g x σ H1 D.nx
theorem ps_asg {tg e : Expr} {te : TE} {g : TG} (he : PE X e te) (hg : PG X tg g) (hs : swapsWithSole [tg] e pos.line X.env = pure false := by rfl) (hw : swappedStores [tg] e X.env = pure none := by rfl)
    (h1 : (assignEach [tg] X.env).map (·.2) = [assign tg X.env] := by rfl) : PS X (.Assign [tg] e pos) (tAsg te g) := by
  intro pins s σ H D I h
  refine wpAny_Assign_stores (thn (he pins s σ H _ I h) fun v s1 ⟨x, H1, I1, r1, q1⟩ => ?_) hs hw
  rw [h1]
  exact thn (hg pins s1 σ H1 x v _ I1 r1 q1) fun _ s2 q => q
/-- name = value -/
theorem ps_set {i : Nat} {x : Str} {e : Expr} {te : TE} {pos' : Pos} (hN : X.N.Nodup) (hi : X.N[i]? = some x) (hx : Loc X.env.scope x) (he : PE X e te) (hs : swapsWith e (some (.Name x pos')) pos.line X.env = pure false := by rfl) (hf : X.fn x = true ∨ X.env.scope.names.lookup x = some .local := by first | exact .inl rfl | exact .inr rfl | assumption) :
    PS X (.Assign [.Name x pos'] e pos) (tAsg te (gName i)) := by
  intro pins s σ H D I h
  refine wpAny_Assign_Name (thn (he pins s σ H _ I h) fun v s1 ⟨y, H1, I1, r1, q1⟩ => ?_) hs
  exact store_ok I1 hN hi hx r1 (fun s2 I2 => ⟨_, H1, I2, q1⟩) hf
/-- a, b = x, y with plain local names: stored from the right; the pair itself is not tracked (the opening rows as in PyProof/Rows/TupAssign.lean:23) -/
def tPar (i j : Nat) (ta : TA) : TS := fun D σ H => ta σ H fun vs H1 => ∃ v w, vs = [v, w] ∧ D.nx ((σ.set i (some v)).set j (some w)) H1
theorem ps_par {i j : Nat} {x y : Str} {a b : Expr} {ta : TA} {px py pt : Pos} {kt k2 pt2} (hc : X.calm = true) (hN : X.N.Nodup) (hi : X.N[i]? = some x) (hj : X.N[j]? = some y) (hij : i ≠ j)
    (hx : X.env.scope.names.lookup x = some .local) (hy : X.env.scope.names.lookup y = some .local) (ha : PA X [a, b] ta)
    (hw : swappedStores [.Tuple [.Name x px, .Name y py] kt pt] (.Tuple [a, b] k2 pt2) X.env = pure (some [x, y]))
    (hs : swapsWithSole [.Tuple [.Name x px, .Name y py] kt pt] (.Tuple [a, b] k2 pt2) pos.line X.env = pure false := by rfl) :
    PS X (.Assign [.Tuple [.Name x px, .Name y py] kt pt] (.Tuple [a, b] k2 pt2) pos) (tPar i j ta) := by
  intro pins s σ H D I h
  rw [exec_Assign_arm]
  refine wpAny_bind (wpAny_standAt ?_)
  rw [hs]
  refine wpAny_bind (wpAny_pure ?_)
  rw [if_neg (by decide)]
  refine wpAny_bind (Tuple_ (thn (ha _ pins s σ H _ I h) fun us s1 ⟨vs, H1, I1, r1, q1⟩ => ?_))
  obtain ⟨v, w, e1, q1⟩ := q1
  subst e1
  obtain ⟨u1, u2, rfl, rv, rw'⟩ : ∃ u1 u2, us = [u1, u2] ∧ RelV v u1 ∧ RelV w u2 := by
    cases r1 with
    | cons p q =>
      cases q with
      | cons p' q' =>
        cases q'
        exact ⟨_, _, rfl, p, p'⟩
  refine wpAny_newObj_type ?_ (by show 2 ≤ sizeLine; decide)
  have I2 : Inv X pins σ H1 { s1 with heap := s1.heap.push { cls := .type "tuple", data := .seq [u1, u2].toArray } } := I1.kept (t' := s1.toks) fun b o e => Heap.get?_push_of_some _ e
  rw [hw]
  refine wpAny_bind (wpAny_pure ?_)
  show wpAny (model X.prog X.w) X.A (do rule "assign.swapped-stores"; let items ← unpackItems (.ref s1.heap.objs.size) 2 none; assignInOrder [fun v => bindName X.env y v, fun v => bindName X.env x v] items.reverse; pure Flow.next) _ _ _
  refine wpAny_bind (wpAny_rule (wpAny_bind (unpackItems_tuple (items := #[u1, u2]) (I.ok.hd hc) (IsTup.new s1.heap _) fun h' hx' => ?_)))
  have I3 := I2.kept (h' := h') (t' := s1.toks) fun b o e => hx' b o (Nat.ne_of_lt (Heap.lt_size e)) e
  show wpAny _ _ (assignInOrder [fun v => bindName X.env y v, fun v => bindName X.env x v] [u2, u1] >>= fun _ => pure Flow.next) _ _ _
  refine wpAny_bind (assignInOrder_cons (wpAny_bindName (store_ok I3 hN hj (.inl hy) rw' (fun s2 I4 => ?_) (.inr hy))))
  refine assignInOrder_cons (wpAny_bindName (store_ok I4 hN hi (.inl hx) rv (fun s3 I5 => assignInOrder_nil (wpAny_pure ?_)) (.inr hx)))
  rw [List.set_comm _ _ (Ne.symm hij)] at I5
  exact ⟨_, H1, I5, q1⟩
/-- name op= e -/
def tAug (i : Nat) (te : TE) (ti : TIp) : TS := fun D σ H => ∃ x, σ[i]? = some (some x) ∧ te σ H fun y H1 => ti x y H1 fun z H2 => D.nx (σ.set i (some z)) H2
/-- o[i] op= e -/
def tAugS (to ti te : TE) (tget : V → V → Hp → VK → Prop) (tip : TIp) (tset : TSet) : TS := fun D σ H => to σ H fun o H1 => ti σ H1 fun i H2 => tget o i H2 fun x H3 => te σ H3 fun y H4 => tip x y H4 fun z H5 => tset o i z H5 fun H6 => D.nx σ H6
/-- o[i], by values -/
def PGet (X : Cx) (t : V → V → Hp → VK → Prop) : Prop :=
  ∀ (pins : List (Addr × Obj)) (s : Shared) (σ : St) (H : Hp) (o i : V) (ov iv : Value) (Q : VK), Inv X pins σ H s → RelV o ov → RelV i iv → t o i H Q →
    wpAny (model X.prog X.w) X.A (getItem ov iv) (EP X pins σ Q) X.xe s
/-- ints -/
def ipI (f : Int → Int → Int) : TIp := fun x y H Q => ∃ i j, x = .int i ∧ y = .int j ∧ Q (.int (f i j)) H
end

/-! ### while -/
section
variable {X : Cx} {pos : Pos}
/-- the invariant W with its measure -/
def tWhile (c : TT) (tb : TS) : TS := fun D σ H => ∃ W : Nat → St → Hp → Prop, (∃ m, W m σ H) ∧ ∀ m σ H, W m σ H →
  c σ H fun b H1 => if b = true then ∃ N : St → Hp → Prop, (∀ σ' H', N σ' H' → ∃ m', m' < m ∧ W m' σ' H') ∧ tb { D with nx := N, ct := N, bk := D.nx } σ H1 else D.nx σ H1
end

/-! ### what a loop or a comprehension walks -/
/-- at turn i: it yields x (the heap may grow), or it stops -/
structure It where
  go : Nat → Hp → Prop
  yld : Nat → Hp → V → Hp → Prop
  stop : Nat → Hp → Prop
/-- the iterator's own objects may turn: they are not the frame's, not pinned, younger than the entry (or a comprehension's own) -/
def FpOk (X : Cx) (pins : List (Addr × Obj)) (H : Hp) (b : Addr) : Prop :=
  H b = none ∧ b ≠ X.env.locals ∧ b ∉ X.fs ∧ (b ∈ X.ex ∨ X.s₀.heap.objs.size ≤ b) ∧ (∀ x c, X.env.cells.lookup x = some c → c ≠ b) ∧ ∀ p ∈ X.pn ++ pins, p.1 ≠ b
theorem Inv.fpOk {X : Cx} {pins : List (Addr × Obj)} {σ : St} {H H' : Hp} {s : Shared} {b : Addr} (I : Inv X pins σ H s) (hb : s.heap.objs.size ≤ b) (hn : H' b = none) : FpOk X pins H' b := by
  refine ⟨hn, Nat.ne_of_gt (Nat.lt_of_lt_of_le I.lt hb), I.nofs hb, .inr (Nat.le_trans I.sz hb), fun x c e z => ?_, fun p hp z => ?_⟩
  · obtain ⟨v, q⟩ := I.cell x c e
    exact absurd (Nat.lt_of_lt_of_le q.lt (by rw [z]; exact hb)) (Nat.lt_irrefl _)
  · exact absurd (Nat.lt_of_lt_of_le (Heap.lt_size (I.pin p hp).1) (by rw [z]; exact hb)) (Nat.lt_irrefl _)
structure Turn (P : Program) (w : World) (K : PySem.W.Frag) (tg : Expr) (J : It) (fp : List Addr) (it : Addr) (tn : Nat → Heap → Prop) : Prop where
  mem : it ∈ fp
  obj : ∀ i h, tn i h → ∀ b ∈ fp, ∃ o, h.get? b = some o ∧ ∀ v, o.data ≠ .cell v
  keep : ∀ i h h', tn i h → (∀ b ∈ fp, ∀ o, h.get? b = some o → h'.get? b = some o) → tn i h'
  item : ∀ (X : Cx), X.prog = P → X.w = w → X.K = K → X.calm = true → ∀ (i : Nat) (pins : List (Addr × Obj)) (s : Shared) (σ : St) (H : Hp) (E : Value → Shared → Prop), Inv X pins σ H s → (∀ b ∈ fp, FpOk X pins H b) → tn i s.heap → J.go i H →
    wpAny (model P w) X.A (pyNext (.ref it)) (fun r s1 => ∃ u, r = some u ∧
      wpAny (model P w) X.A (letOwnedTupleGo tg (.ref it) u) (fun _ s2 => ∃ x H', Inv X pins σ H' s2 ∧ RelV x u ∧ J.yld i H x H' ∧ tn (i + 1) s2.heap ∧ ∀ b ∈ fp, H' b = none) E s1) E s
  done : ∀ (X : Cx), X.prog = P → X.w = w → X.K = K → X.calm = true → ∀ (i : Nat) (pins : List (Addr × Obj)) (s : Shared) (σ : St) (H : Hp) (E : Value → Shared → Prop), Inv X pins σ H s → (∀ b ∈ fp, FpOk X pins H b) → tn i s.heap → J.stop i H →
    wpAny (model P w) X.A (pyNext (.ref it)) (fun r s1 => r = none ∧ Inv X pins σ H s1) E s
  self : ∀ (A : Around) (i : Nat) (s : Shared) (Q : Value → Shared → Prop) (E : Value → Shared → Prop), tn i s.heap → Q (.ref it) s → wpAny (model P w) A (pyIter (.ref it)) Q E s
abbrev TI := St → Hp → (It → Hp → Prop) → Prop
/-- an iterator has come -/
def PIE (X : Cx) (pins : List (Addr × Obj)) (σ : St) (tg : Expr) (R : It → Hp → Prop) (itv : Value) (s2 : Shared) : Prop :=
  ∃ (it : Addr) (fp : List Addr) (tn : Nat → Heap → Prop) (J : It) (H' : Hp), itv = .ref it ∧ Inv X pins σ H' s2 ∧ Turn X.prog X.w X.K tg J fp it tn ∧ tn 0 s2.heap ∧ (∀ b ∈ fp, FpOk X pins H' b) ∧ R J H'
def PI (X : Cx) (tg iter : Expr) (wi : TI) : Prop :=
  ∀ (pins : List (Addr × Obj)) (s : Shared) (σ : St) (H : Hp) (R : It → Hp → Prop), Inv X pins σ H s → wi σ H R →
    wpAny (model X.prog X.w) X.A (eval iter X.env) (fun v s1 => wpAny (model X.prog X.w) X.A (pyIter v) (PIE X pins σ tg R) X.xe s1) X.xe s

/-- the step ahead of the store is nothing for an iterator that keeps no tuple -/
theorem go_of {M : Model} {A : Around} {E : Value → Shared → Prop} {s : Shared} {tg : Expr} {it : Addr} {u : Value} {o : Obj} {n : String} {vs : Array Value} {Q : Unit → Shared → Prop} (ho : s.heap.get? it = some o) (hc : o.cls = .type n) (hd : o.data = .fields vs)
    (hn : ["enumerate", "zip", "dict_itemiterator", "dict_reverseitemiterator", "odict_iterator", "itertools.zip_longest", "itertools.pairwise"].contains n = false) (hQ : Q () s) : wpAny M A (letOwnedTupleGo tg (.ref it) u) Q E s := by
  unfold letOwnedTupleGo
  cases tg <;> first
    | exact wpAny_pure hQ
    | (cases u <;> first
        | exact wpAny_pure hQ
        | (refine wpAny_bind (wpAny_load ho ?_)
           rw [hc, hd]
           show wpAny M A (if (["enumerate", "zip", "dict_itemiterator", "dict_reverseitemiterator", "odict_iterator", "itertools.zip_longest", "itertools.pairwise"].contains n && vs[0]? == some (rawInt _)) = true then _ else _) Q E s
           rw [if_neg (by intro h; rw [hn, Bool.false_and] at h; cases h)]
           exact wpAny_pure hQ))

/-- the list at a, as it stands at each turn (a loop may append to it) -/
def Itl (K : PySem.W.Frag) (a : Addr) : It :=
  ⟨fun i H => ∃ xs x, SqL K H a xs ∧ xs[i]? = some x, fun i H x H' => H' = H ∧ ∀ xs, SqL K H a xs → xs[i]? = some x, fun i H => ∃ xs, SqL K H a xs ∧ xs.length ≤ i⟩
def Itt (K : PySem.W.Frag) (a : Addr) : It :=
  ⟨fun i H => ∃ xs x, SqT K H a xs ∧ xs[i]? = some x, fun i H x H' => H' = H ∧ ∀ xs, SqT K H a xs → xs[i]? = some x, fun i H => ∃ xs, SqT K H a xs ∧ xs.length ≤ i⟩
/-- lo, lo + 1, .. (n of them) -/
def Itr (lo : Int) (n : Nat) : It := ⟨fun i _ => i < n, fun i H x H' => H' = H ∧ x = .int (lo + i), fun i _ => n ≤ i⟩
theorem turn_list {P : Program} {w : World} {K : PySem.W.Frag} {tg : Expr} (a it : Addr) : Turn P w K tg (Itl K a) [it] it (fun i h => h.IsListIter it a i) where
  mem := by simp
  obj := fun i h st b hb => by
    have e : b = it := by simpa using hb
    subst e
    obtain ⟨o, e, c, d⟩ := st
    exact ⟨o, e, fun v z => by rw [d] at z; cases z⟩
  keep := fun i h h' st k => st.at fun o e => k it (by simp) o e
  item := by
    intro X hP hw hK hc i pins s σ H E I hf st hg
    subst hP hw hK
    obtain ⟨xs, x, hq, hx⟩ := hg
    obtain ⟨its, rv, p, hz⟩ := I.list hq
    obtain ⟨u, hu, ru⟩ := rv.get hx
    obtain ⟨f0, f1, f2, f3, f4, f5⟩ := hf it (by simp)
    refine wpAny_pyNext_list_item st p.isList (x := u) (by simpa using hu) fun h' st' sb => ?_
    have I1 : Inv X pins σ H { s with heap := h' } := I.turned (t' := s.toks) (fun b o hb e => (sb.2 b hb).trans e) f0 f1 f3 f4 f5
    obtain ⟨o, e, c, d⟩ := id st'
    exact ⟨u, rfl, go_of (s := { s with heap := h' }) e c d (by decide) ⟨x, H, I1, ru, ⟨rfl, fun ys hy => by rw [I.list_inj hy hq]; exact hx⟩, st', fun b hb => (hf b hb).1⟩⟩
  done := by
    intro X hP hw hK hc i pins s σ H E I hf st hg
    subst hP hw hK
    obtain ⟨xs, hq, hx⟩ := hg
    obtain ⟨its, rv, p, hz⟩ := I.list hq
    obtain ⟨f0, f1, f2, f3, f4, f5⟩ := hf it (by simp)
    have hl := rv.length
    exact wpAny_pyNext_list_end (I.ok.hd hc) st p.isList (by simp; omega) fun h' eb => ⟨rfl, I.turned (t' := s.toks) (fun b o hb e => eb b o hb e) f0 f1 f3 f4 f5⟩
  self := fun _ _ _ _ _ st h => wpAny_pyIter_listiter st h
theorem turn_tuple {P : Program} {w : World} {K : PySem.W.Frag} {tg : Expr} (a it : Addr) : Turn P w K tg (Itt K a) [it] it (fun i h => h.IsTupleIter it a i) where
  mem := by simp
  obj := fun i h st b hb => by
    have e : b = it := by simpa using hb
    subst e
    obtain ⟨o, e, c, d⟩ := st
    exact ⟨o, e, fun v z => by rw [d] at z; cases z⟩
  keep := fun i h h' st k => st.at fun o e => k it (by simp) o e
  item := by
    intro X hP hw hK hc i pins s σ H E I hf st hg
    subst hP hw hK
    obtain ⟨xs, x, hq, hx⟩ := hg
    obtain ⟨its, rv, p, hz⟩ := I.tuple hq
    obtain ⟨u, hu, ru⟩ := rv.get hx
    obtain ⟨f0, f1, f2, f3, f4, f5⟩ := hf it (by simp)
    refine wpAny_pyNext_tuple_item st (show s.heap.IsTuple a its.toArray from p) (x := u) (by simpa using hu) fun h' st' sb => ?_
    have I1 : Inv X pins σ H { s with heap := h' } := I.turned (t' := s.toks) (fun b o hb e => (sb.2 b hb).trans e) f0 f1 f3 f4 f5
    obtain ⟨o, e, c, d⟩ := id st'
    exact ⟨u, rfl, go_of (s := { s with heap := h' }) e c d (by decide) ⟨x, H, I1, ru, ⟨rfl, fun ys hy => by rw [I.tuple_inj hy hq]; exact hx⟩, st', fun b hb => (hf b hb).1⟩⟩
  done := by
    intro X hP hw hK hc i pins s σ H E I hf st hg
    subst hP hw hK
    obtain ⟨xs, hq, hx⟩ := hg
    obtain ⟨its, rv, p, hz⟩ := I.tuple hq
    obtain ⟨f0, f1, f2, f3, f4, f5⟩ := hf it (by simp)
    have hl := rv.length
    exact wpAny_pyNext_tuple_end (I.ok.hd hc) st (show s.heap.IsTuple a its.toArray from p) (by simp; omega) fun h' eb => ⟨rfl, I.turned (t' := s.toks) (fun b o hb e => eb b o hb e) f0 f1 f3 f4 f5⟩
  self := fun _ _ _ _ _ st h => wpAny_pyIter_tupleiter st h
theorem turn_range {P : Program} {w : World} {K : PySem.W.Frag} {tg : Expr} (it : Addr) (lo : Int) (n : Nat) : Turn P w K tg (Itr lo n) [it] it (fun i h => IsRangeIter h it (lo + (i : Nat) * 1) ((n : Int) - (i : Nat)) 1) where
  mem := by simp
  obj := fun i h st b hb => by
    have e : b = it := by simpa using hb
    subst e
    exact ⟨_, st, fun v z => by
      have z' : Data.fields _ = Data.cell v := z
      cases z'⟩
  keep := fun i h h' st k => k it (by simp) _ st
  item := by
    intro X hP hw hK hc i pins s σ H E I hf st hg
    subst hP hw hK
    obtain ⟨f0, f1, f2, f3, f4, f5⟩ := hf it (by simp)
    have W := Walks.range (prog := X.prog) (w := X.w) (I.ok.hd hc) it lo 1 n
    refine W.item i s _ _ hg st fun v h' tk hv st' kk => ?_
    obtain ⟨t, rfl⟩ := hv
    have I1 : Inv X pins σ H { s with heap := h', toks := tk } := I.turned (fun b o hb e => kk b o (by simpa using hb) e) f0 f1 f3 f4 f5
    refine ⟨_, rfl, go_of (s := { s with heap := h', toks := tk }) (n := "range_iterator") st' rfl rfl (by decide) ⟨.int (lo + i), H, I1, ⟨t, ?_⟩, ⟨rfl, rfl⟩, st', fun b hb => (hf b hb).1⟩⟩
    rw [Int.mul_one]
  done := by
    intro X hP hw hK hc i pins s σ H E I hf st hg
    subst hP hw hK
    obtain ⟨f0, f1, f2, f3, f4, f5⟩ := hf it (by simp)
    exact wpAny_pyNext_range_end (I.ok.hd hc) st (by have : n ≤ i := hg; omega) fun h' eb => ⟨rfl, I.turned (t' := s.toks) (fun b o hb e => eb b o hb e) f0 f1 f3 f4 f5⟩
  self := fun _ _ _ _ _ st h => wpAny_pyIter_rangeiter st h
end L2

namespace L2
open PySem PySem.Spec PyProof.Rows
section
variable {X : Cx} {tg : Expr}
def iList (K : PySem.W.Frag) (tl : TE) : TI := fun σ H R => tl σ H fun x H1 => ∃ a, x = .ref a ∧ (∃ xs, SqL K H1 a xs) ∧ R (Itl K a) H1
def iTup (K : PySem.W.Frag) (tl : TE) : TI := fun σ H R => tl σ H fun x H1 => ∃ a, x = .ref a ∧ (∃ xs, SqT K H1 a xs) ∧ R (Itt K a) H1
/-- a range object just made, walked -/
theorem range_it {pins : List (Addr × Obj)} {σ : St} {H : Hp} {s : Shared} {R : It → Hp → Prop} {E : Value → Shared → Prop} {lo hi : Int} {t u v : Tok} {tk : Nat} (I : Inv X pins σ H s) (h1 : -(2 ^ 62) ≤ lo) (h2 : lo < 2 ^ 62) (h3 : -(2 ^ 62) ≤ hi) (h4 : hi < 2 ^ 62)
    (q : R (Itr lo (hi - lo).toNat) H) : wpAny (model X.prog X.w) X.A (pyIter (.ref s.heap.objs.size)) (PIE X pins σ tg R) E { s with heap := s.heap.push { cls := .type "range", data := .fields #[.int lo t, .int hi u, .int 1 v] }, toks := tk } := by
  refine wpAny_pyIter_range (IsRange.new ..) (small_one h1 h2 h3 h4) ?_
  have I1 : Inv X pins σ H { s with heap := s.heap.push { cls := .type "range", data := .fields #[.int lo t, .int hi u, .int 1 v] }, toks := tk } := I.kept fun b o e => Heap.get?_push_of_some _ e
  refine ⟨(s.heap.push { cls := .type "range", data := .fields #[.int lo t, .int hi u, .int 1 v] }).objs.size, [(s.heap.push { cls := .type "range", data := .fields #[.int lo t, .int hi u, .int 1 v] }).objs.size], _, _, H, rfl,
    I1.kept (t' := tk) fun b o e => Heap.get?_push_of_some _ e, turn_range _ lo (hi - lo).toNat, ?_, fun b hb => ?_, q⟩
  · have e1 : lo + ((0 : Nat) : Int) * 1 = lo := by simp
    have e2 : (((hi - lo).toNat : Nat) : Int) - ((0 : Nat) : Int) = Builtin.Range.rangeSize lo hi 1 := by rw [rangeSize_one]; split <;> omega
    show IsRangeIter _ _ (lo + ((0 : Nat) : Int) * 1) ((((hi - lo).toNat : Nat) : Int) - ((0 : Nat) : Int)) 1
    rw [e1, e2]
    exact Heap.get?_push_size _ rfl
  · have e : b = (s.heap.push { cls := .type "range", data := .fields #[.int lo t, .int hi u, .int 1 v] }).objs.size := by simpa using hb
    subst e
    exact I1.fpOk (Nat.le_refl _) (I1.hok.fresh (Nat.le_refl _))
def iRng1 (ta : TA) : TI := fun σ H R => ta σ H fun vs H1 => ∃ j : Int, vs = [.int j] ∧ -(2 ^ 62) ≤ j ∧ j < 2 ^ 62 ∧ R (Itr 0 j.toNat) H1
def iRng2 (ta : TA) : TI := fun σ H R => ta σ H fun vs H1 => ∃ i j : Int, vs = [.int i, .int j] ∧ (-(2 ^ 62) ≤ i ∧ i < 2 ^ 62 ∧ -(2 ^ 62) ≤ j ∧ j < 2 ^ 62) ∧ R (Itr i (j - i).toNat) H1
theorem pi_range1 {a : Expr} {ta : TA} {p pos : Pos} (hg : Gl X "range") (hm : X.mg "range" = none) (ha : PA X [a] ta) (hs : starEach [a] X.env = [(false, eval a X.env)] := by rfl) : PI X tg (.Call (.Name "range" p) [a] [] pos) (iRng1 ta) := by
  intro pins s σ H R I h
  refine Call_ (ld_blt I hg hm boot_range (PyProof.Rows.callWith_type1 (thn (ha pos pins s σ H _ I h) fun us s1 ⟨vs, H1, I1, r1, q1⟩ => ?_) hs rfl))
  obtain ⟨j, e, q1, q2, q⟩ := q1
  subst e
  cases r1 with
  | cons r rr =>
    cases rr
    obtain ⟨t, rfl⟩ := r
    exact call_range_1 (range_it I1 (by omega) (by omega) q1 q2 (by simpa using q))
/-! ### for -/
/-- W: the invariant by the turn and a measure; N: what the body is to reach -/
def tFor (wi : TI) (g : TG) (tb : TS) : TS := fun D σ H => wi σ H fun J H1 => ∃ W : Nat → Nat → St → Hp → Prop, (∃ m, W 0 m σ H1) ∧ ∀ i m σ H, W i m σ H →
  (J.stop i H ∧ D.nx σ H) ∨ (J.go i H ∧ ∃ N : St → Hp → Prop, (∀ σ' H', N σ' H' → ∃ m', m' < m ∧ W (i + 1) m' σ' H') ∧ ∀ x H', J.yld i H x H' → g x σ H' fun σ2 H2 => tb { D with nx := N, ct := N, bk := D.nx } σ2 H2)
/-- the records at fp as they stand -/
def pinsAt (fp : List Addr) (h : Heap) : List (Addr × Obj) := fp.filterMap fun b => (h.get? b).map fun o => (b, o)
theorem mem_pinsAt {fp : List Addr} {h : Heap} {b : Addr} {o : Obj} (hb : b ∈ fp) (e : h.get? b = some o) : (b, o) ∈ pinsAt fp h := List.mem_filterMap.mpr ⟨b, hb, by rw [e]; rfl⟩
theorem of_pinsAt {fp : List Addr} {h : Heap} {p : Addr × Obj} (hp : p ∈ pinsAt fp h) : p.1 ∈ fp ∧ h.get? p.1 = some p.2 := by
  obtain ⟨b, hb, e⟩ := List.mem_filterMap.mp hp
  cases q : h.get? b with
  | none => rw [q] at e; cases e
  | some o =>
    rw [q] at e
    have e' : (b, o) = p := Option.some.inj e
    subst e'
    exact ⟨hb, q⟩
theorem Inv.pinned {pins : List (Addr × Obj)} {σ : St} {H : Hp} {s : Shared} {fp : List Addr} (I : Inv X pins σ H s) (hf : ∀ b ∈ fp, FpOk X pins H b) (ho : ∀ b ∈ fp, ∃ o, s.heap.get? b = some o ∧ ∀ v, o.data ≠ .cell v) : Inv X (pins ++ pinsAt fp s.heap) σ H s :=
  I.pins_of fun p hp => (List.mem_append.mp hp).elim (fun z => I.pin p (List.mem_append_right _ z)) fun z => by
    obtain ⟨hb, e⟩ := of_pinsAt z
    obtain ⟨f0, f1, f2, _⟩ := hf p.1 hb
    obtain ⟨o, e', d⟩ := ho p.1 hb
    rw [e] at e'; cases e'
    exact ⟨e, f0, f1, f2, d⟩
theorem Inv.unpinned {pins pl : List (Addr × Obj)} {σ : St} {H : Hp} {s : Shared} (I : Inv X (pins ++ pl) σ H s) : Inv X pins σ H s := I.pins_of fun p hp => I.pin p (List.mem_append_right _ (List.mem_append_left _ hp))
theorem ps_for {iter : Expr} {body : List Stmt} {wi : TI} {g : TG} {tb : TS} {pos : Pos} (hp : PassesOwn (model X.prog X.w) X.A X.env X.xe) (hc : X.calm = true) (hi : PI X tg iter wi) (hg : PG X tg g) (hb : PSs X body tb)
    (hs : ∀ x, foldedSetIterable iter X.env x = pure x := by intro _; rfl) : PS X (.For tg iter body [] pos) (tFor wi g tb) := by
  intro pins s σ H D I h
  refine wpAny_For (thn (hi pins s σ H _ I h) fun v s1 h1 => thn h1 fun itv s2 h2 => ?_) hs
  obtain ⟨it, fp, tn, J, H2, e, I2, T, st2, f2, W, ⟨m0, w0⟩, turn⟩ := h2
  subst e
  -- what stays true of the iterator's objects through the loop
  have stat : ∀ {H' : Hp}, (∀ b ∈ fp, H' b = none) → ∀ b ∈ fp, FpOk X pins H' b := fun hn b hb => ⟨hn b hb, (f2 b hb).2⟩
  refine codeAny_forLoop_any (fun n s' => ∃ i σ' H', Inv X pins σ' H' s' ∧ tn i s'.heap ∧ (∀ b ∈ fp, H' b = none) ∧ W i n σ' H') ?_ m0 ⟨0, σ, H2, I2, st2, fun b hb => (f2 b hb).1, w0⟩
  rintro n s3 ⟨i, σ3, H3, I3, st3, fr3, w3⟩
  rcases turn i n σ3 H3 w3 with ⟨stop, qn⟩ | ⟨go, N, hN, step⟩
  · refine wpAny_passesOwn hp (thn (T.done X rfl rfl rfl hc i pins s3 σ3 H3 X.xe I3 (stat fr3) st3 stop) fun r s4 ⟨hr, I4⟩ => ?_)
    subst hr
    exact wpAny_execs_nil ⟨σ3, H3, I4, qn⟩
  · refine wpAny_passesOwn hp (thn (T.item X rfl rfl rfl hc i pins s3 σ3 H3 X.xe I3 (stat fr3) st3 go) fun r s4 ⟨u, hr, h4⟩ => ?_)
    subst hr
    refine wpAny_passesOwn hp (thn h4 fun _ s5 ⟨x, H5, I5, r5, y5, st5, fr5⟩ => ?_)
    have I5' := I5.pinned (stat fr5) (T.obj _ _ st5)
    refine wpAny_passesOwn hp (thn (hg _ s5 σ3 H5 x u _ I5' r5 (step x H5 y5)) fun _ s6 ⟨σ6, H6, I6, q6⟩ => ?_)
    refine wpAny_passesOwn hp (thn (hb _ s6 σ6 H6 _ I6 q6) fun f s7 q7 => ?_)
    have again : ∀ {σ7 : St} {H7 : Hp}, Inv X (pins ++ pinsAt fp s5.heap) σ7 H7 s7 → N σ7 H7 → ∃ m, m < n ∧ ∃ i σ' H', Inv X pins σ' H' s7 ∧ tn i s7.heap ∧ (∀ b ∈ fp, H' b = none) ∧ W i m σ' H' := fun {σ7 H7} I7 n7 => by
      obtain ⟨m', hm, w7⟩ := hN σ7 H7 n7
      refine ⟨m', hm, i + 1, σ7, H7, I7.unpinned, T.keep _ _ _ st5 fun b hb o e => (I7.pin (b, o) (List.mem_append_right _ (List.mem_append_right _ (mem_pinsAt hb e)))).1, fun b hb => ?_, w7⟩
      obtain ⟨o, e, d⟩ := T.obj _ _ st5 b hb
      exact (I7.pin (b, o) (List.mem_append_right _ (List.mem_append_right _ (mem_pinsAt hb e)))).2.1
    cases f with
    | next => obtain ⟨σ7, H7, I7, n7⟩ := q7; exact again I7 n7
    | cont => obtain ⟨σ7, H7, I7, n7⟩ := q7; exact again I7 n7
    | brk => obtain ⟨σ7, H7, I7, q7⟩ := q7; exact ⟨σ7, H7, I7.unpinned, q7⟩
    | ret v => obtain ⟨x7, σ7, H7, I7, r7, q7⟩ := q7; exact ⟨x7, σ7, H7, I7.unpinned, r7, q7⟩
end

/-! ### the forms one uses -/
end L2

namespace L2
open PySem PySem.Spec PyProof.Rows

abbrev R2 := V → V → Hp → VK → Prop
/-- a two-place operation on values: f is binaryOp op, inplaceOp op or compareOp op -/
def OpR (X : Cx) (f : Value → Value → Sem Value) (r : R2) : Prop :=
  ∀ (pins : List (Addr × Obj)) (s : Shared) (σ : St) (H : Hp) (x y : V) (v u : Value) (Q : VK), Inv X pins σ H s → RelV x v → RelV y u → r x y H Q →
    wpAny (model X.prog X.w) X.A (f v u) (EP X pins σ Q) X.xe s
/-- a one-place operation -/
def UnR (X : Cx) (f : Value → Sem Value) (r : V → Hp → VK → Prop) : Prop :=
  ∀ (pins : List (Addr × Obj)) (s : Shared) (σ : St) (H : Hp) (x : V) (v : Value) (Q : VK), Inv X pins σ H s → RelV x v → r x H Q →
    wpAny (model X.prog X.w) X.A (f v) (EP X pins σ Q) X.xe s
/-- a call of a value that is known (a builtin, a type) with values -/
def CallR (X : Cx) (f : Value) (r : List V → Hp → VK → Prop) : Prop :=
  ∀ (pins : List (Addr × Obj)) (s : Shared) (σ : St) (H : Hp) (xs : List V) (us : List Value) (Q : VK), Inv X pins σ H s → Vals xs us → r xs H Q →
    wpAny (model X.prog X.w) X.A (call f us) (EP X pins σ Q) X.xe s
/-- a value's truth -/
def TruR (X : Cx) (r : V → Hp → (Bool → Hp → Prop) → Prop) : Prop :=
  ∀ (pins : List (Addr × Obj)) (s : Shared) (σ : St) (H : Hp) (x : V) (v : Value) (Q : Bool → Hp → Prop), Inv X pins σ H s → RelV x v → r x H Q →
    wpAny (model X.prog X.w) X.A (truthy v) (TP X pins σ Q) X.xe s

def tOp (r : R2) (ta tb : TE) : TE := fun σ H Q => ta σ H fun x H1 => tb σ H1 fun y H2 => r x y H2 Q
def tUn (r : V → Hp → VK → Prop) (ta : TE) : TE := fun σ H Q => ta σ H fun x H1 => r x H1 Q
/-- ints in, under C, and a value out -/
def rI (C : Int → Int → Prop) (g : Int → Int → V) : R2 := fun x y H Q => ∃ i j, x = .int i ∧ y = .int j ∧ C i j ∧ Q (g i j) H
def rI0 (g : Int → Int → V) : R2 := fun x y H Q => ∃ i j, x = .int i ∧ y = .int j ∧ Q (g i j) H
def rU (g : Int → V) : V → Hp → VK → Prop := fun x H Q => ∃ i, x = .int i ∧ Q (g i) H

section
variable {X : Cx} {a b c : Expr} {ta tb tc : TE} {pos : Pos}

theorem binT (ha : PE X a ta) (hb : PE X b tb) {pins : List (Addr × Obj)} {s : Shared} {σ : St} {H : Hp} {R : V → V → Hp → Prop} (I : Inv X pins σ H s)
    (h : ta σ H fun x H1 => tb σ H1 fun y H2 => R x y H2) {Q : Value → Shared → Prop} {f : Value → Value → Sem Value}
    (hf : ∀ v u s2 x y H2, Inv X pins σ H2 s2 → RelV x v → RelV y u → R x y H2 → wpAny (model X.prog X.w) X.A (f v u) Q X.xe s2) :
    wpAny (model X.prog X.w) X.A (eval a X.env) (fun v s₁ => wpAny (model X.prog X.w) X.A (eval b X.env) (fun u s₂ => wpAny (model X.prog X.w) X.A (f v u) Q X.xe s₂) X.xe s₁) X.xe s := by
  refine thn (ha pins s σ H _ I h) fun v s1 ⟨x, H1, I1, r1, q1⟩ => ?_
  refine thn (hb pins s1 σ H1 _ I1 q1) fun u s2 ⟨y, H2, I2, r2, q2⟩ => ?_
  exact hf v u s2 x y H2 I2 r1 r2 q2

theorem pe_op {op : Operator} {r : R2} (ho : OpR X (binaryOp op) r) (ha : PE X a ta) (hb : PE X b tb) : PE X (.BinOp a op b pos) (tOp r ta tb) := by
  intro pins s σ H Q I h
  exact wpAny_BinOp (binT ha hb I h fun v u s2 x y H2 I2 rx ry q => ho pins s2 σ H2 x y v u Q I2 rx ry q)
theorem pe_un {op : UnaryOp} {r : V → Hp → VK → Prop} (ho : UnR X (unaryOp op) r) (ha : PE X a ta) : PE X (.UnaryOp op a pos) (tUn r ta) := by
  intro pins s σ H Q I h
  exact UnaryOp_ (thn (ha pins s σ H _ I h) fun v s1 ⟨x, H1, I1, r1, q1⟩ => ho pins s1 σ H1 x v Q I1 r1 q1)
/-! ### ints -/
theorem opI {f : Value → Value → Sem Value} {C : Int → Int → Prop} {g : Int → Int → Int}
    (rule : ∀ (i j : Int) (t u : Tok) (s : Shared) (Q : Value → Shared → Prop) (E : Value → Shared → Prop), C i j → Q (.int (g i j) s.toks) { s with toks := s.toks + 1 } → wpAny (model X.prog X.w) X.A (f (.int i t) (.int j u)) Q E s) :
    OpR X f (rI C fun i j => .int (g i j)) := by
  intro pins s σ H x y v u Q I rx ry h
  obtain ⟨i, j, rfl, rfl, hc, q⟩ := h
  obtain ⟨t, rfl⟩ := rx
  obtain ⟨t', rfl⟩ := ry
  exact rule i j t t' s _ _ hc ⟨.int (g i j), H, I.tok _, ⟨_, rfl⟩, q⟩
theorem opI0 {f : Value → Value → Sem Value} {g : Int → Int → Int}
    (rule : ∀ (i j : Int) (t u : Tok) (s : Shared) (Q : Value → Shared → Prop) (E : Value → Shared → Prop), Q (.int (g i j) s.toks) { s with toks := s.toks + 1 } → wpAny (model X.prog X.w) X.A (f (.int i t) (.int j u)) Q E s) :
    OpR X f (rI0 fun i j => .int (g i j)) := by
  intro pins s σ H x y v u Q I rx ry h
  obtain ⟨i, j, rfl, rfl, q⟩ := h
  obtain ⟨t, rfl⟩ := rx
  obtain ⟨t', rfl⟩ := ry
  exact rule i j t t' s _ _ ⟨.int (g i j), H, I.tok _, ⟨_, rfl⟩, q⟩
theorem opB0 {f : Value → Value → Sem Value} {g : Int → Int → Bool}
    (rule : ∀ (i j : Int) (t u : Tok) (s : Shared) (Q : Value → Shared → Prop) (E : Value → Shared → Prop), Q (.bool (g i j)) s → wpAny (model X.prog X.w) X.A (f (.int i t) (.int j u)) Q E s) :
    OpR X f (rI0 fun i j => .bl (g i j)) := by
  intro pins s σ H x y v u Q I rx ry h
  obtain ⟨i, j, rfl, rfl, q⟩ := h
  obtain ⟨t, rfl⟩ := rx
  obtain ⟨t', rfl⟩ := ry
  exact rule i j t t' s _ _ ⟨.bl (g i j), H, I, rfl, q⟩

def CDiv (i j : Int) : Prop := 0 < j ∧ j < 1073741824
def CDivN (i j : Int) : Prop := j ≠ 0 ∧ j.natAbs < 1073741824
def CPow (i j : Int) : Prop := 0 ≤ j ∧ j ≤ 1000000 ∧ i.natAbs < 2 ^ 64
def CMul (i j : Int) : Prop := (-(2 ^ 64) < i ∧ i < 2 ^ 64) ∨ (-(2 ^ 64) < j ∧ j < 2 ^ 64)
theorem op_add : OpR X (binaryOp .Add) (rI0 fun i j => .int (i + j)) := opI0 fun _ _ _ _ _ _ _ q => add_int q
theorem op_sub : OpR X (binaryOp .Sub) (rI0 fun i j => .int (i - j)) := opI0 fun _ _ _ _ _ _ _ q => sub_int q
/-- % by a positive divisor of any size -/
theorem op_mod : OpR X (binaryOp .Mod) (rI (fun _ j => 0 < j) fun i j => .int (i % j)) := opI fun i j _ _ _ _ _ hc q => by
  have h1 : (0 : Int) < j := hc
  exact mod_int' (by omega) (by rw [Int.fmod_eq_emod_of_nonneg i (by omega)]; exact q)
theorem op_pow : OpR X (binaryOp .Pow) (rI CPow fun i j => .int (i ^ j.toNat)) := opI fun _ _ _ _ _ _ _ hc q => pow_int_small hc.1 hc.2.1 hc.2.2 q
theorem unI {f : Value → Sem Value} {g : Int → Int}
    (rule : ∀ (i : Int) (t : Tok) (s : Shared) (Q : Value → Shared → Prop) (E : Value → Shared → Prop), Q (.int (g i) s.toks) { s with toks := s.toks + 1 } → wpAny (model X.prog X.w) X.A (f (.int i t)) Q E s) :
    UnR X f (rU fun i => .int (g i)) := by
  intro pins s σ H x v Q I rx h
  obtain ⟨i, rfl, q⟩ := h
  obtain ⟨t, rfl⟩ := rx
  exact rule i t s _ _ ⟨.int (g i), H, I.tok _, ⟨_, rfl⟩, q⟩
theorem un_neg : UnR X (unaryOp .USub) (rU fun i => .int (-i)) := unI fun _ _ _ _ _ q => neg_int q
/-! ### bools among ints: n += (a < b) -/
end

/-! ### comparisons -/
/-- the scalars that == tells apart as data does -/
def scal : V → V → Bool
  | .non, .non => true | .non, .int _ => true | .int _, .non => true | .non, .bl _ => true | .bl _, .non => true | .non, .str _ => true | .str _, .non => true
  | .int _, .int _ => true | .bl _, .bl _ => true | .str _, .str _ => true | .byt _, .byt _ => true
  | .int _, .str _ => true | .str _, .int _ => true | .bl _, .str _ => true | .str _, .bl _ => true
  | _, _ => false
def rEq : R2 := fun x y H Q => scal x y = true ∧ Q (.bl (decide (x = y))) H
def rNe : R2 := fun x y H Q => scal x y = true ∧ Q (.bl (!decide (x = y))) H

section
variable {X : Cx} {a b c : Expr} {ta tb tc : TE} {pos : Pos}
theorem fin_bl {pins : List (Addr × Obj)} {σ : St} {H : Hp} {s : Shared} {Q : VK} {k k' : Bool} (I : Inv X pins σ H s) (q : Q (.bl k) H) (e : k = k') : EP X pins σ Q (.bool k') s := by
  subst e
  exact ⟨.bl k, H, I, rfl, q⟩
theorem op_lt : OpR X (compareOp .Lt) (rI0 fun i j => .bl (decide (i < j))) := opB0 fun _ _ _ _ _ _ _ q => lt_int q
theorem op_le : OpR X (compareOp .LtE) (rI0 fun i j => .bl (decide (i ≤ j))) := opB0 fun _ _ _ _ _ _ _ q => le_int q
theorem op_gt : OpR X (compareOp .Gt) (rI0 fun i j => .bl (decide (j < i))) := opB0 fun _ _ _ _ _ _ _ q => gt_int q
theorem op_ge : OpR X (compareOp .GtE) (rI0 fun i j => .bl (decide (j ≤ i))) := opB0 fun _ _ _ _ _ _ _ q => ge_int q
/-- the one string within the other -/
theorem op_in_str : OpR X (compareOp .In) (fun x y H Q => ∃ i j, x = .str i ∧ y = .str j ∧ Q (.bl (!(Builtin.Str.occurrences j i 0 j.length 1).isEmpty)) H) := by
  intro pins s σ H x y v u Q I rx ry h
  obtain ⟨i, j, rfl, rfl, q⟩ := h
  obtain ⟨t, rfl⟩ := rx
  obtain ⟨t', rfl⟩ := ry
  exact in_str (fin_bl I q rfl)

/-- is None, is not None: the right side a value none -/
theorem op_isN : OpR X (compareOp .Is) (fun x y H Q => y = .non ∧ Q (.bl (decide (x = .non))) H) := by
  intro pins s σ H x y v u Q I rx ry h
  obtain ⟨rfl, q⟩ := h
  cases ry
  refine is_none_gen (fin_bl I q ?_)
  cases x <;> first
    | (cases rx; rfl)
    | (obtain ⟨t, rfl⟩ := rx; rfl)
theorem op_notN : OpR X (compareOp .IsNot) (fun x y H Q => y = .non ∧ Q (.bl (!decide (x = .non))) H) := by
  intro pins s σ H x y v u Q I rx ry h
  obtain ⟨rfl, q⟩ := h
  cases ry
  refine isnot_none_gen (fin_bl I q ?_)
  cases x <;> first
    | (cases rx; rfl)
    | (obtain ⟨t, rfl⟩ := rx; rfl)

/-- is, is not of two objects that are tracked lists or instances -/
def isObj : HO → Bool
  | .lst _ => true
  | .ins _ _ _ => true
  | _ => false
/-- two rules for one operation: by cases -/
theorem OpR.or {f : Value → Value → Sem Value} {r r' : R2} (h : OpR X f r) (h' : OpR X f r') : OpR X f (fun x y H Q => r x y H Q ∨ r' x y H Q) := by
  intro pins s σ H x y v u Q I rx ry q
  rcases q with q | q
  · exact h pins s σ H x y v u Q I rx ry q
  · exact h' pins s σ H x y v u Q I rx ry q

/-- a comparison as a value; hm: nomark b, or (for in, not in) by with_unfolding_all rfl -/
theorem pe_cmpR {op : CmpOp} {r : R2} (ho : OpR X (compareOp op) r) (ha : PE X a ta) (hb : PE X b tb) (hm : behindInMarks op b = false) : PE X (.Compare a [op] [b] pos) (tOp r ta tb) := by
  intro pins s σ H Q I h
  exact wpAny_Compare1 (binT ha hb I h fun v u s2 x y H2 I2 rx ry q => ho pins s2 σ H2 x y v u Q I2 rx ry q) hm
/-- a reading of a value as a test -/
def tTest (t : TE) : TT := fun σ H Q => t σ H fun x H' => ∃ k, x = .bl k ∧ Q k H'
theorem pt_cmpR {op : CmpOp} {r : R2} (ho : OpR X (compareOp op) r) (ha : PE X a ta) (hb : PE X b tb) (hm : behindInMarks op b = false) : PT X (.Compare a [op] [b] pos) (tTest (tOp r ta tb)) := by
  intro pins s σ H Q I h
  refine wpAny_isTrue_Compare1 (thn (ha pins s σ H _ I h) fun v s1 ⟨x, H1, I1, r1, q1⟩ => thn (hb pins s1 σ H1 _ I1 q1) fun u s2 ⟨y, H2, I2, r2, q2⟩ =>
    thn (ho pins s2 σ H2 x y v u _ I2 r1 r2 q2) fun c s3 ⟨z, H3, I3, r3, k, e, q3⟩ => ?_) hm
  subst e
  cases r3
  exact wpAny_truthy_bool ⟨H3, I3, q3⟩
/-- a op1 b op2 c -/
def tChain (r r' : R2) (ta tb tc : TE) : TE := fun σ H Q => ta σ H fun x H1 => tb σ H1 fun y H2 => r x y H2 fun z H3 => ∃ k, z = .bl k ∧
  (if k = true then tc σ H3 fun w' H4 => r' y w' H4 Q else Q (.bl false) H3)
theorem pe_chain {op op' : CmpOp} {r r' : R2} (ho : OpR X (compareOp op) r) (ho' : OpR X (compareOp op') r') (ha : PE X a ta) (hb : PE X b tb) (hc : PE X c tc)
    (hm : lastMarks [op, op'] [b, c] = false := by with_unfolding_all rfl) : PE X (.Compare a [op, op'] [b, c] pos) (tChain r r' ta tb tc) := by
  intro pins s σ H Q I h
  refine Compare_chain (thn (ha pins s σ H _ I h) fun v s1 ⟨x, H1, I1, r1, q1⟩ => chain_link (thn (hb pins s1 σ H1 _ I1 q1) fun u s2 ⟨y, H2, I2, r2, q2⟩ =>
    thn (ho pins s2 σ H2 x y v u _ I2 r1 r2 q2) fun d s3 ⟨z, H3, I3, r3, k, e, q3⟩ => ?_)) hm
  subst e
  cases r3
  refine wpAny_truthy_bool ?_
  cases k with
  | false => exact ite_ff ⟨.bl false, H3, I3, rfl, q3⟩
  | true => exact ite_tt (chain_last (thn (hc pins s3 σ H3 _ I3 q3) fun w' s4 ⟨z', H4, I4, r4, q4⟩ => ho' pins s4 σ H4 y z' u w' Q I4 r2 r4 q4))
theorem pt_chain {op op' : CmpOp} {r r' : R2} (ho : OpR X (compareOp op) r) (ho' : OpR X (compareOp op') r') (ha : PE X a ta) (hb : PE X b tb) (hc : PE X c tc)
    (hm : lastMarks [op, op'] [b, c] = false := by with_unfolding_all rfl) : PT X (.Compare a [op, op'] [b, c] pos) (tTest (tChain r r' ta tb tc)) := by
  intro pins s σ H Q I h
  refine isTrue_chain (thn (ha pins s σ H _ I h) fun v s1 ⟨x, H1, I1, r1, q1⟩ => test_link (thn (hb pins s1 σ H1 _ I1 q1) fun u s2 ⟨y, H2, I2, r2, q2⟩ =>
    thn (ho pins s2 σ H2 x y v u _ I2 r1 r2 q2) fun d s3 ⟨z, H3, I3, r3, k, e, q3⟩ => ?_)) hm
  subst e
  cases r3
  refine wpAny_truthy_bool ?_
  cases k with
  | false =>
    obtain ⟨k', e', q'⟩ := q3
    cases e'
    exact ite_ff ⟨H3, I3, q'⟩
  | true =>
    refine ite_tt (test_last (thn (hc pins s3 σ H3 _ I3 q3) fun w' s4 ⟨z', H4, I4, r4, q4⟩ => thn (ho' pins s4 σ H4 y z' u w' _ I4 r2 r4 q4) fun d' s5 ⟨z2, H5, I5, r5, k2, e2, q5⟩ => ?_))
    subst e2
    cases r5
    exact wpAny_truthy_bool ⟨H5, I5, q5⟩

/-! ### truth -/
/-- a value's truth by the abstract heap -/
def TruV (K : PySem.W.Frag) (x : V) (H : Hp) (k : Bool) : Prop :=
  match x with
  | .non => k = false
  | .bl b => k = b
  | .int i => k = (i != 0)
  | .str y => y.length ≤ sizeLine ∧ k = ((y.length : Int) != 0)
  | .byt y => y.size ≤ sizeLine ∧ k = ((y.size : Int) != 0)
  | .ref p => (∃ xs, SqL K H p xs ∧ k = !xs.isEmpty) ∨ (∃ xs, SqT K H p xs ∧ k = !xs.isEmpty) ∨ ∃ kvs, H p = some (.dK kvs) ∧ k = !kvs.isEmpty
  | _ => False
theorem isEmpty_kv {κ : Type} {kvs : List (κ × V)} {vs : List (κ × Value)} (r : KV kvs vs) : (!vs.isEmpty) = !kvs.isEmpty := by
  cases r <;> rfl
theorem isEmpty_of {xs : List V} {its : List Value} (r : Vals xs its) : (!its.toArray.isEmpty) = !xs.isEmpty := by
  cases r <;> simp
theorem line63 : (sizeLine : Nat) < 2 ^ 63 := by rw [sizeLine_eq]; decide
theorem tru_ok : TruR X (fun x H Q => ∃ k, TruV X.K x H k ∧ Q k H) := by
  intro pins s σ H x v Q I rx h
  obtain ⟨k, e, q⟩ := h
  have hl := line63
  have hs : sizeLine = 16777216 := sizeLine_eq
  cases x with
  | non =>
    cases rx
    have e' : k = false := e
    subst e'
    exact truthy_none ⟨H, I, q⟩
  | bl b =>
    cases rx
    have e' : k = b := e
    subst e'
    exact wpAny_truthy_bool ⟨H, I, q⟩
  | int i =>
    obtain ⟨t, rfl⟩ := rx
    have e' : k = (i != 0) := e
    subst e'
    exact PySem.P.truthy_int ⟨H, I, q⟩
  | str y =>
    obtain ⟨t, rfl⟩ := rx
    obtain ⟨hy, e'⟩ : y.length ≤ sizeLine ∧ k = ((y.length : Int) != 0) := e
    subst e'
    exact PySem.P.truthy_str (by omega) ⟨H, I.tok _, q⟩
  | byt y =>
    obtain ⟨t, rfl⟩ := rx
    obtain ⟨hy, e'⟩ : y.size ≤ sizeLine ∧ k = ((y.size : Int) != 0) := e
    subst e'
    exact PySem.W.truthy_bytes (by omega) ⟨H, I.tok _, q⟩
  | ref p =>
    cases rx
    have e' : (∃ xs, SqL X.K H p xs ∧ k = !xs.isEmpty) ∨ (∃ xs, SqT X.K H p xs ∧ k = !xs.isEmpty) ∨ ∃ kvs, H p = some (.dK kvs) ∧ k = !kvs.isEmpty := e
    rcases e' with ⟨xs, hx, e'⟩ | ⟨xs, hx, e'⟩ | ⟨kvs, hx, e'⟩
    · subst e'
      obtain ⟨its, r, pl, hz⟩ := I.list hx
      have hlen := r.length
      exact wpAny_truthy_list pl.isList (by simp only [List.size_toArray]; omega) ⟨H, I.tok _, by rw [isEmpty_of r]; exact q⟩
    · subst e'
      obtain ⟨its, r, pl, hz⟩ := I.tuple hx
      have hlen := r.length
      exact truthy_tuple pl (by simp only [List.size_toArray]; omega) ⟨H, I.tok _, by rw [isEmpty_of r]; exact q⟩
    · subst e'
      obtain ⟨hz, hS, vs, r, m⟩ : kvs.length ≤ sizeLine ∧ (p == sysModules) = false ∧ ∃ vs, KV kvs vs ∧ s.heap.DictOf (mixKind X.prog X.w) p vs := I.hok p _ hx
      have hlen : kvs.length = vs.length := Paired.length r
      exact wpAny_truthy_dict hS m (by omega) ⟨H, I.tok _, by rw [isEmpty_kv r]; exact q⟩
  | _ => exact (show False from e).elim
/-- any expression whose test is its value's truth (a name, a call, a subscript, a field ..: he by fun _ => rfl) -/
theorem pt_truth (ha : PE X a ta) (he : ∀ whole, isTrue a X.env whole = (do let v ← whole; standAt a.pos; holding [v] (truthy v))) :
    PT X a (fun σ H Q => ta σ H fun x H' => ∃ k, TruV X.K x H' k ∧ Q k H') := by
  intro pins s σ H Q I h
  exact isTrue_plain (thn (ha pins s σ H _ I h) fun v s1 ⟨x, H1, I1, r1, q1⟩ => tru_ok pins s1 σ H1 x v Q I1 r1 q1) (he _)

/-! ### strs and bytes -/
def PlainIxT (b : Expr) : Prop := ∀ o i, subscripted b false o i = operate [o, i] (getItem o i)
/-! ### scalar builtins, by CallR -/
theorem vals1 {x : V} {us : List Value} (r : Vals [x] us) : ∃ u, us = [u] ∧ RelV x u := by
  cases r with
  | cons r1 r2 => cases r2; exact ⟨_, rfl, r1⟩
theorem vals2 {x y : V} {us : List Value} (r : Vals [x, y] us) : ∃ u w', us = [u, w'] ∧ RelV x u ∧ RelV y w' := by
  cases r with
  | cons r1 r2 =>
    cases r2 with
    | cons r3 r4 => cases r4; exact ⟨_, _, rfl, r1, r3⟩
theorem call_max2 (hc : X.calm = true) : CallR X (.builtin "max") (fun xs H Q => ∃ i j, xs = [.int i, .int j] ∧ Q (.int (if j > i then j else i)) H) := by
  intro pins s σ H xs us Q I r h
  obtain ⟨i, j, rfl, q⟩ := h
  obtain ⟨u, w', rfl, ⟨t, rfl⟩, ⟨t', rfl⟩⟩ := vals2 r
  refine max_two_ints (I.ok.hd hc) fun h' tk k => ⟨_, H, I.kept k, ?_, q⟩
  by_cases hj : j > i
  · rw [if_pos hj, if_pos hj]; exact ⟨_, rfl⟩
  · rw [if_neg hj, if_neg hj]; exact ⟨_, rfl⟩
theorem call_min2 (hc : X.calm = true) : CallR X (.builtin "min") (fun xs H Q => ∃ i j, xs = [.int i, .int j] ∧ Q (.int (if j < i then j else i)) H) := by
  intro pins s σ H xs us Q I r h
  obtain ⟨i, j, rfl, q⟩ := h
  obtain ⟨u, w', rfl, ⟨t, rfl⟩, ⟨t', rfl⟩⟩ := vals2 r
  refine min_two_ints (I.ok.hd hc) fun h' tk k => ⟨_, H, I.kept k, ?_, q⟩
  by_cases hj : j < i
  · rw [if_pos hj, if_pos hj]; exact ⟨_, rfl⟩
  · rw [if_neg hj, if_neg hj]; exact ⟨_, rfl⟩
/-- len of a str, a bytes, a list, a tuple -/
def LenV (K : PySem.W.Frag) (x : V) (H : Hp) (n : Nat) : Prop :=
  match x with
  | .str y => y.length ≤ sizeLine ∧ n = y.length
  | .byt y => y.size ≤ sizeLine ∧ n = y.size
  | .ref p => (∃ xs, SqL K H p xs ∧ n = xs.length) ∨ ∃ xs, SqT K H p xs ∧ n = xs.length
  | _ => False
theorem call_len : CallR X (.builtin "len") (fun xs H Q => ∃ x n, xs = [x] ∧ LenV X.K x H n ∧ Q (.int n) H) := by
  intro pins s σ H xs us Q I r h
  obtain ⟨x, n, rfl, e, q⟩ := h
  obtain ⟨u, rfl, rx⟩ := vals1 r
  have hl := line63
  have hs : sizeLine = 16777216 := sizeLine_eq
  cases x with
  | str y =>
    obtain ⟨t, rfl⟩ := rx
    obtain ⟨hy, e'⟩ : y.length ≤ sizeLine ∧ n = y.length := e
    subst e'
    exact len_str (by omega) ⟨.int _, H, I.tok _, ⟨_, rfl⟩, q⟩
  | byt y =>
    obtain ⟨t, rfl⟩ := rx
    obtain ⟨hy, e'⟩ : y.size ≤ sizeLine ∧ n = y.size := e
    subst e'
    exact PySem.W.len_bytes (by omega) ⟨.int _, H, I.tok _, ⟨_, rfl⟩, q⟩
  | ref p =>
    cases rx
    have e' : (∃ xs, SqL X.K H p xs ∧ n = xs.length) ∨ ∃ xs, SqT X.K H p xs ∧ n = xs.length := e
    rcases e' with ⟨xs, hx, e'⟩ | ⟨xs, hx, e'⟩
    · subst e'
      obtain ⟨its, r', pl, hz⟩ := I.list hx
      have hlen := r'.length
      exact Calls.call_len_list pl.isList (by simp only [List.size_toArray]; omega) ⟨.int xs.length, H, I.tok _, ⟨_, by simp only [List.size_toArray]; rw [hlen]⟩, q⟩
    · subst e'
      obtain ⟨its, r', pl, hz⟩ := I.tuple hx
      have hlen := r'.length
      exact len_tuple pl (by simp only [List.size_toArray]; omega) ⟨.int xs.length, H, I.tok _, ⟨_, by simp only [List.size_toArray]; rw [hlen]⟩, q⟩
  | _ => exact (show False from e).elim
end
end L2

namespace L2
open PySem PySem.Spec PyProof.Rows

/-! ### an instance, its attributes a map -/
structure ObjM (h : Heap) (x dx C : Addr) (mA : Str → Option Value) : Prop where
  obj : h.get? x = some (PySem.W.instObj C dx)
  ns : h.Ns1 dx mA
  ne : dx ≠ x

theorem lookIn_ns {h : Heap} {dx : Addr} {mA : Str → Option Value} (n : h.Ns1 dx mA) : ∃ od, h.get? dx = some od ∧ ∀ name, PySem.W.lookIn name od = some (mA name) := by
  obtain ⟨o, es, ep, ho, hd, hk, _, hm⟩ := n
  refine ⟨o, ho, fun name => ?_⟩
  have e := hm name
  unfold nsFind findBy at e
  rw [← Array.find?_toList] at e
  unfold PySem.W.lookIn
  rw [hd]
  dsimp only
  split
  · rename_i y q
    rw [q] at e
    exact congrArg some e
  · rename_i q
    rw [q] at e
    have a : es.toList.any (·.refKey) = false := by
      rw [List.any_eq_false]
      intro y hy
      obtain ⟨z, t, hkey⟩ := hk y (Array.mem_toList_iff.mp hy)
      simp [DictEntry.refKey, hkey]
    have a' : ¬ es.toList.any (·.refKey) = true := by rw [a]; exact Bool.false_ne_true
    rw [if_neg a']
    exact congrArg some e

theorem ObjM.look {h : Heap} {x dx C : Addr} {mA : Str → Option Value} (I : ObjM h x dx C mA) : ∃ od, PySem.W.InstAt h x (PySem.W.instObj C dx) C (some od) ∧ ∀ name, PySem.W.lookIn name od = some (mA name) :=
  let ⟨od, ho, hl⟩ := lookIn_ns I.ns
  ⟨od, ⟨I.obj, rfl, rfl, ho⟩, hl⟩

section
variable {prog : Program} {w : World} {A : Around} {E : Value → Shared → Prop} {s : Shared} {K : PySem.W.Frag} {x dx C f : Addr} {mA : Str → Option Value} {name : Str} {v : Value}

theorem get_map {expr : Bool} {Q : Value → Shared → Prop} (X : K.In s.heap) (I : ObjM s.heap x dx C mA) (hg : PySem.W.plainGet K C name = true) (hh : PySem.W.hasDictIn K C = true)
    (ha : PySem.W.findIn K (.ref C) name = some none) (hv : mA name = some v) (hv' : PySem.W.handedIn v = true) (h : Q v { s with toks := s.toks + 1 }) :
    wpAny (model prog w) A (getAttr (.ref x) name expr) Q E s := by
  obtain ⟨od, J, hl⟩ := I.look
  exact PySem.W.get_value X J (PySem.W.plainGet_of hg).1 (PySem.W.findObj_own hh ha rfl (by rw [hl, hv])) hv' h

theorem get_meth {pl : Sem Bool} {Q : Value × List Value → Shared → Prop} (X : K.In s.heap) (I : ObjM s.heap x dx C mA) (hg : PySem.W.plainGet K C name = true)
    (hf : PySem.W.findIn K (.ref C) name = some (some (.ref f))) (ht : PySem.W.isFn K (.ref f) = true) (hv : mA name = none) (h : Q (.ref f, [.ref x]) s) :
    wpAny (model prog w) A (getMethod (.ref x) name pl) Q E s := by
  obtain ⟨od, J, hl⟩ := I.look
  exact PySem.W.method_fn X J (PySem.W.plainGet_of hg).1 (PySem.W.plainGet_of hg).2 hf (beq_iff_eq.mp ht) (by show (PySem.W.lookIn name od).map (·.isSome) = some false; rw [hl, hv]; rfl) h

theorem set_map {ns : List Str} {Q : Unit → Shared → Prop} (X : K.In s.heap) (I : ObjM s.heap x dx C mA)
    (hs : PySem.W.findIn K (.ref C) "__setattr__" = some (some (.builtin "object.__setattr__"))) (hp : PySem.W.plainOver K C = true) (ht : PySem.W.takerIn K C name = some none) (hh : PySem.W.hasDictIn K C = true)
    (hw : PySem.Within mA ns) (hsz : ns.length ≤ sizeLine)
    (h : ∀ h', ObjM h' x dx C (fun y => if y = name then some v else mA y) → Heap.SameBut dx s.heap h' → Q () { s with heap := h', toks := s.toks + 2 }) :
    wpAny (model prog w) A (setAttr (.ref x) name v) Q E s := by
  obtain ⟨od, J, hl⟩ := I.look
  refine PySem.W.set_plain X J hs (PySem.W.osa_open (s := { s with toks := s.toks + 1 }) (r := none) X J hp ht fun b => ?_)
  obtain ⟨cd, hc, hd'⟩ := PySem.W.any_some hh
  have hx : s.heap.get? x = some ⟨.ref C, some dx, .plain, #[]⟩ := I.obj
  refine wpAny_bind (wpAny_pure (wpAny_bind (wpAny_bind (wpAny_loadPart hx (wpAny_bind (PySem.W.Looks.here (s := { s with toks := s.toks + 1 }) (PySem.W.looks_clsIn X hc) ?_))))))
  rw [hd']
  refine wpAny_pure (a := some dx) (wpAny_bind (wpAny_pure (wpAny_bind ?_)))
  refine wpAny_nsSet1 (s := { s with toks := s.toks + 1 }) I.ns fun h' hn2 hs2 => ?_
  obtain ⟨oD, esD, epD, hoD, hdD, hcD⟩ := hn2.count (PySem.Within.cons name v hw)
  refine wpAny_bind (wpAny_lookBehind hoD (by rw [hdD]; exact pastItsLine_dict (Nat.le_trans hcD (by rw [List.length_cons]; omega))) ?_)
  exact wpAny_pure (h _ ⟨(hs2.2 _ (Ne.symm I.ne)).trans I.obj, hn2, I.ne⟩ hs2)

/-- C(..): the dict at the heap's end, the instance behind it; then its __init__ -/
theorem make_map {R : Result → Shared → Prop} {vs : List Value} {kw : List (Str × Value)} (X : K.In s.heap) (hm : PySem.W.makesIn K C = true)
    (hi : PySem.W.findIn K (.ref C) "__init__" = some (some (.ref f))) (hf : PySem.W.typeIn K (.ref f) = some (.type "function"))
    (h : codeAny (model prog w) (A.under (.builtin "type.__call__" ⟨.ref C :: vs, kw⟩)) (.call (.ref f) ⟨.ref (s.heap.objs.size + 1) :: vs, kw⟩) (PySem.W.InitBack (s.heap.objs.size + 1) R)
      { s with heap := (s.heap.push PySem.W.emptyDict).push (PySem.W.instObj C s.heap.objs.size) }) :
    codeAny (model prog w) A (.call (.ref C) ⟨vs, kw⟩) R s := by
  obtain ⟨hh, g, d, t, os⟩ := s
  exact PySem.W.make_core (PySem.W.makes_of X hm) (PySem.W.looks_findIn X hi) (fun self => PySem.W.bind_fn X self hf) (.inl rfl) h
end

/-! ### the attributes as a list of pairs -/
def putF (f : Str) (v : V) : List (Str × V) → List (Str × V)
  | [] => [(f, v)]
  | (g, x) :: r => if g = f then (g, v) :: r else (g, x) :: putF f v r
theorem lookup_putF (f g : Str) (v : V) : ∀ fs : List (Str × V), (putF f v fs).lookup g = if g = f then some v else fs.lookup g
  | [] => by
    show List.lookup g [(f, v)] = _
    by_cases h : g = f
    · have hb : (g == f) = true := beq_iff_eq.mpr h
      simp only [List.lookup, hb, if_pos h]
    · have hb : (g == f) = false := beq_eq_false_iff_ne.mpr h
      simp only [List.lookup, hb, if_neg h]
  | (k, x) :: r => by
    have ih := lookup_putF f g v r
    rw [show putF f v ((k, x) :: r) = (if k = f then (k, v) :: r else (k, x) :: putF f v r) from rfl]
    by_cases hk : k = f
    · rw [if_pos hk]
      by_cases h : g = k
      · have hb : (g == k) = true := beq_iff_eq.mpr h
        simp only [List.lookup, hb, if_pos (h.trans hk)]
      · have hb : (g == k) = false := beq_eq_false_iff_ne.mpr h
        simp only [List.lookup, hb, if_neg (fun e : g = f => h (e.trans hk.symm))]
    · rw [if_neg hk]
      by_cases h : g = k
      · have hb : (g == k) = true := beq_iff_eq.mpr h
        simp only [List.lookup, hb, if_neg (fun e : g = f => hk (h.symm.trans e))]
      · have hb : (g == k) = false := beq_eq_false_iff_ne.mpr h
        simp only [List.lookup, hb]
        exact ih
theorem keys_putF (f : Str) (v : V) : ∀ fs : List (Str × V), f ∈ (putF f v fs).map (·.1) ∧ ∀ g, g ∈ fs.map (·.1) → g ∈ (putF f v fs).map (·.1)
  | [] => ⟨by simp [putF], fun g h => by simp at h⟩
  | (k, x) :: r => by
    obtain ⟨i1, i2⟩ := keys_putF f v r
    rw [show putF f v ((k, x) :: r) = (if k = f then (k, v) :: r else (k, x) :: putF f v r) from rfl]
    by_cases hk : k = f
    · rw [if_pos hk]
      subst hk
      exact ⟨by simp, fun g h => by simpa using h⟩
    · rw [if_neg hk]
      refine ⟨?_, fun g h => ?_⟩
      · rw [List.map_cons]
        exact List.mem_cons_of_mem _ i1
      · rw [List.map_cons] at h ⊢
        rcases List.mem_cons.mp h with e | e
        · exact List.mem_cons.mpr (.inl e)
        · exact List.mem_cons_of_mem _ (i2 g e)
theorem length_putF (f : Str) (v : V) : ∀ fs : List (Str × V), (putF f v fs).length ≤ fs.length + 1
  | [] => by simp [putF]
  | (k, x) :: r => by
    have ih := length_putF f v r
    rw [show putF f v ((k, x) :: r) = (if k = f then (k, v) :: r else (k, x) :: putF f v r) from rfl]
    by_cases hk : k = f
    · rw [if_pos hk, List.length_cons, List.length_cons]; omega
    · rw [if_neg hk, List.length_cons, List.length_cons]; omega

theorem RelO.some_of {v : V} {o : Option Value} (r : RelO (some v) o) : ∃ u, o = some u ∧ RelV v u := by
  cases o with
  | none => exact (show False from r).elim
  | some u => exact ⟨u, rfl, r⟩
theorem RelO.none_of {o : Option Value} (r : RelO none o) : o = none := by
  cases o with
  | none => rfl
  | some u => exact (show False from r).elim
theorem handed_of {v : V} {u : Value} (r : RelV v u) : PySem.W.handedIn u = true := by
  cases v with
  | non => cases (show u = Value.none from r); rfl
  | bl b => cases (show u = Value.bool b from r); rfl
  | int i => obtain ⟨t, e⟩ := (show ∃ t, u = Value.int i t from r); cases e; rfl
  | str x => obtain ⟨t, e⟩ := (show ∃ t, u = Value.str x t from r); cases e; rfl
  | byt b => obtain ⟨t, e⟩ := (show ∃ t, u = Value.bytes b t from r); cases e; rfl
  | flt b => obtain ⟨t, e⟩ := (show ∃ t, u = Value.float b t from r); cases e; rfl
  | ref a => cases (show u = Value.ref a from r); rfl
  | ty n => cases (show u = Value.type n from r); rfl

section
variable {P : Program} {w : World} {H H' : Hp} {h h' : Heap} {a C dx : Addr} {fs fs' : List (Str × V)}
theorem ins_get (hok : HOk P w H h) (e : H a = some (.ins C dx fs)) : ∃ mA, ObjM h a dx C mA ∧ (∀ f, RelO (fs.lookup f) (mA f)) ∧ PySem.Within mA (fs.map (·.1)) ∧ fs.length ≤ 1000 ∧ H dx = some (.own a) := by
  obtain ⟨d, z, ne, ob, mA, n, r, q⟩ := (show ObjOk P w H h a (.ins C dx fs) from hok a _ e)
  exact ⟨mA, ⟨ob, n, ne⟩, r, q, z, d⟩
end

/-! ### what of the text a class must have -/
structure Cls (K : PySem.W.Frag) (C : Addr) : Prop where
  pg : PySem.W.plainGet K C Str.empty = true
  hd : PySem.W.hasDictIn K C = true
  po : PySem.W.plainOver K C = true
  sa : PySem.W.findIn K (.ref C) "__setattr__" = some (some (.builtin "object.__setattr__"))
theorem Cls.get {K : PySem.W.Frag} {C : Addr} (c : Cls K C) (f : Str) : PySem.W.plainGet K C f = true := c.pg
/-- no class of it has the name -/
def NoAttr (K : PySem.W.Frag) (C : Addr) (f : Str) : Prop := PySem.W.findIn K (.ref C) f = some none
theorem NoAttr.taker {K : PySem.W.Frag} {C : Addr} {f : Str} (n : NoAttr K C f) : PySem.W.takerIn K C f = some none := by
  unfold PySem.W.takerIn
  rw [show PySem.W.findIn K (.ref C) f = some none from n]
  rfl
/-- a constant of the class -/
structure Con (K : PySem.W.Frag) (C : Addr) (f : Str) (v : V) (u : Value) : Prop where
  at_ : PySem.W.findIn K (.ref C) f = some (some u)
  rel : RelV v u
  get : PySem.W.specialIn K u "__get__" = some none
  cp : PySem.W.copiedNames.contains f = false
/-- a method: a plain def of the class or of one above it -/
structure Meth (K : PySem.W.Frag) (C : Addr) (m : Str) (f : Addr) : Prop where
  at_ : PySem.W.findIn K (.ref C) m = some (some (.ref f))
  fn : PySem.W.isFn K (.ref f) = true
  kp : PySem.W.keepIn K (.ref f) = true

section
variable {X : Cx} {pins : List (Addr × Obj)} {σ : St} {H : Hp} {s : Shared} {a C dx : Addr} {fs : List (Str × V)} {f : Str} {v : V} {A : Around} {E : Value → Shared → Prop}

theorem getattr_ok {b : Bool} {Q : Value → Shared → Prop} (I : Inv X pins σ H s) (e : H a = some (.ins C dx fs)) (c : Cls X.K C) (n : NoAttr X.K C f) (l : fs.lookup f = some v)
    (h : ∀ u s', Inv X pins σ H s' → RelV v u → Q u s') : wpAny (model X.prog X.w) A (getAttr (.ref a) f b) Q E s := by
  obtain ⟨mA, O, r, _, _, _⟩ := ins_get I.hok e
  obtain ⟨u, hu, ru⟩ := RelO.some_of (v := v) (o := mA f) (by rw [← l]; exact r f)
  exact get_map I.kIn O (c.get f) c.hd n hu (handed_of ru) (h u _ (I.tok _) ru)

theorem getmeth_ok {m : Str} {g : Addr} {pl : Sem Bool} {Q : Value × List Value → Shared → Prop} (I : Inv X pins σ H s) (e : H a = some (.ins C dx fs)) (c : Cls X.K C) (k : Meth X.K C m g) (l : fs.lookup m = none)
    (h : Q (.ref g, [.ref a]) s) : wpAny (model X.prog X.w) A (getMethod (.ref a) m pl) Q E s := by
  obtain ⟨mA, O, r, _, _, _⟩ := ins_get I.hok e
  have hn : mA m = none := RelO.none_of (by rw [← l]; exact r m)
  exact get_meth I.kIn O (c.get m) k.at_ k.fn hn h

theorem setattr_ok {y : V} {u : Value} {Q : Unit → Shared → Prop} (I : Inv X pins σ H s) (e : H a = some (.ins C dx fs)) (c : Cls X.K C) (n : NoAttr X.K C f) (hl : fs.length < 1000) (ry : RelV y u)
    (h : ∀ s', Inv X pins σ (upd H a (.ins C dx (putF f y fs))) s' → Q () s') : wpAny (model X.prog X.w) A (setAttr (.ref a) f u) Q E s := by
  obtain ⟨mA, O, r, wi, _, ho⟩ := ins_get I.hok e
  have hz : (fs.map (·.1)).length ≤ sizeLine := by rw [List.length_map, sizeLine_eq]; omega
  refine set_map I.kIn O c.sa c.po n.taker c.hd wi hz fun h' O' sb => h _ ?_
  have hd : ∃ o, h'.get? dx = some o := let ⟨o, _, _, e', _⟩ := O'.ns; ⟨o, e'⟩
  refine I.write (x := a) (e := dx) (by rw [e]; exact True.intro) (.inr ho) (fun b q hb z => (sb.2 b hb).trans z) hd ?_
  refine ⟨by rw [upd_ne O.ne]; exact ho, ?_, O.ne, O'.obj, _, O'.ns, fun g => ?_, fun g hg => ?_⟩
  · have := length_putF f y fs; omega
  · show RelO ((putF f y fs).lookup g) (if g = f then some u else mA g)
    rw [lookup_putF]
    by_cases q : g = f
    · rw [if_pos q, if_pos q]; exact ry
    · rw [if_neg q, if_neg q]; exact r g
  · by_cases q : g = f
    · rw [q]; exact (keys_putF f y fs).1
    · refine (keys_putF f y fs).2 g (wi g fun z => hg ?_)
      show (if g = f then some u else mA g) = none
      rw [if_neg q]; exact z

/-- a new instance, tracked, without attributes -/
theorem Inv.made (I : Inv X pins σ H s) : Inv X pins σ (upd (upd H s.heap.objs.size (.own (s.heap.objs.size + 1))) (s.heap.objs.size + 1) (.ins C s.heap.objs.size []))
    { s with heap := (s.heap.push PySem.W.emptyDict).push (PySem.W.instObj C s.heap.objs.size) } := by
  have e1 : (s.heap.push PySem.W.emptyDict).get? s.heap.objs.size = some PySem.W.emptyDict := Heap.get?_push_size s.heap rfl
  have e2 : ((s.heap.push PySem.W.emptyDict).push (PySem.W.instObj C s.heap.objs.size)).get? (s.heap.objs.size + 1) = some (PySem.W.instObj C s.heap.objs.size) := by
    have := Heap.get?_push_size (s.heap.push PySem.W.emptyDict) (o := PySem.W.instObj C s.heap.objs.size) rfl
    rwa [Heap.size_push] at this
  have e3 : (s.heap.push PySem.W.emptyDict).Ns s.heap.objs.size (fun _ => none) := ⟨PySem.W.emptyDict, #[], _, e1, rfl, (fun e he => absurd he (by simp)), fun _ => rfl⟩
  have I1 := I.laid (a := s.heap.objs.size) (o := .own (s.heap.objs.size + 1)) (h' := s.heap.push PySem.W.emptyDict) (t' := s.toks) (fun b u q => Heap.get?_push_of_some _ q) (Nat.le_refl _) ⟨_, e1⟩
  refine I1.laid (a := s.heap.objs.size + 1) (o := .ins C s.heap.objs.size []) (t' := s.toks) (fun b u q => Heap.get?_push_of_some _ q) (Nat.le_of_eq (Heap.size_push _ _)) ?_
  have ne : s.heap.objs.size ≠ s.heap.objs.size + 1 := Nat.ne_of_lt (Nat.lt_succ_self _)
  refine ⟨by rw [upd_ne ne, upd_same], Nat.zero_le _, ne, e2, fun _ => none, (Heap.Ns1.of_empty e3).at fun o q => Heap.get?_push_of_some _ q, fun _ => True.intro, fun y hy => absurd rfl hy⟩

/-- e.f where nothing but the object is asked: through attributeBase (super) and the last hold -/
theorem attr_of {prog : Program} {w : World} {env : Env} {e : Expr} {f : Str} {pos : Pos} {s : Shared} {Q : Value → Shared → Prop} (hb : attributeBase e f env (eval e env) = eval e env)
    (h : wpAny (model prog w) A (eval e env) (fun o s₁ => wpAny (model prog w) A (getAttr o f true) Q E s₁) E s) : wpAny (model prog w) A (eval (.Attribute e f pos) env) Q E s :=
  Attribute_any_ h (by rw [arm_eval_Attribute, hb])
end

/-! ### readings and rules -/
/-- e.f, a field of the instance -/
def tFld (K : PySem.W.Frag) (ta : TE) (f : Str) : TE := fun σ H Q => ta σ H fun x H1 => ∃ a C dx fs v, x = .ref a ∧ H1 a = some (.ins C dx fs) ∧ Cls K C ∧ NoAttr K C f ∧ fs.lookup f = some v ∧ Q v H1
/-- e.f, a constant of the class -/
def tCon (K : PySem.W.Frag) (ta : TE) (f : Str) : TE := fun σ H Q => ta σ H fun x H1 => ∃ a C dx fs v u, x = .ref a ∧ H1 a = some (.ins C dx fs) ∧ Cls K C ∧ Con K C f v u ∧ fs.lookup f = none ∧ Q v H1
/-- e.f = value -/
def sFld (K : PySem.W.Frag) (ta tv : TE) (f : Str) : TS := fun D σ H => tv σ H fun y H1 => ta σ H1 fun x H2 => ∃ a C dx fs, x = .ref a ∧ H2 a = some (.ins C dx fs) ∧ Cls K C ∧ NoAttr K C f ∧ fs.length < 1000 ∧
  D.nx σ (upd H2 a (.ins C dx (putF f y fs)))
/-- an augmented operator on two values -/
def InOp (X : Cx) (op : Operator) (rd : V → V → Hp → VK → Prop) : Prop :=
  ∀ (pins : List (Addr × Obj)) (s : Shared) (σ : St) (H : Hp) (x y : V) (u v : Value) (Q : VK), Inv X pins σ H s → RelV x u → RelV y v → rd x y H Q → wpAny (model X.prog X.w) X.A (inplaceOp op u v) (EP X pins σ Q) X.xe s
/-- e.f op= value -/
def sFldAug (K : PySem.W.Frag) (ta tv : TE) (rd : V → V → Hp → VK → Prop) (f : Str) : TS := fun D σ H => ta σ H fun x H1 => ∃ a C dx fs v, x = .ref a ∧ H1 a = some (.ins C dx fs) ∧ Cls K C ∧ NoAttr K C f ∧ fs.lookup f = some v ∧
  tv σ H1 fun y H2 => rd v y H2 fun z H3 => ∃ dx' fs', H3 a = some (.ins C dx' fs') ∧ fs'.length < 1000 ∧ D.nx σ (upd H3 a (.ins C dx' (putF f z fs')))

section
variable {X : Cx} {o e value : Expr} {f : Str} {pos pos' tpos : Pos} {ta tv : TE}
theorem pe_fld (he : PE X e ta) (hb : attributeBase e f X.env (eval e X.env) = eval e X.env) : PE X (.Attribute e f pos) (tFld X.K ta f) := by
  intro pins s σ H Q I h
  refine attr_of hb (thn (he pins s σ H _ I h) fun u s1 ⟨x, H1, I1, rx, a, C, dx, fs, v, ex, ea, c, n, l, q⟩ => ?_)
  subst ex
  obtain rfl : u = Value.ref a := rx
  exact getattr_ok I1 ea c n l fun u' s2 I2 ru => ⟨v, H1, I2, ru, q⟩
theorem ps_fld (ha : PE X o ta) (hv : PE X value tv) (hs : swapsWith value (some (.Attribute o f pos')) pos.line X.env = pure false) : PS X (.Assign [.Attribute o f pos'] value pos) (sFld X.K ta tv f) := by
  intro pins s σ H D I h
  refine plainObj_wpAny_Assign_Attribute (thn (hv pins s σ H _ I h) fun u s1 ⟨y, H1, I1, ry, q⟩ => thn (ha pins s1 σ H1 _ I1 q) fun ov s2 ⟨x, H2, I2, rx, a, C, dx, fs, ex, ea, c, n, l, q2⟩ => ?_) hs
  subst ex
  obtain rfl : ov = Value.ref a := rx
  exact setattr_ok I2 ea c n l ry fun s3 I3 => ⟨σ, _, I3, q2⟩
def rAdd : V → V → Hp → VK → Prop := fun x y H Q => ∃ i j, x = .int i ∧ y = .int j ∧ Q (.int (i + j)) H
def rSub : V → V → Hp → VK → Prop := fun x y H Q => ∃ i j, x = .int i ∧ y = .int j ∧ Q (.int (i - j)) H
end

/-! ### isinstance -/
section
variable {X : Cx} {pins : List (Addr × Obj)} {σ : St} {H : Hp} {s : Shared} {A : Around} {E : Value → Shared → Prop} {Q : Value → Shared → Prop} {c : Value} {b : Bool}
/-- the type of a value, as the fragment's deciders take it; for an instance its class -/
inductive TyOf (K : PySem.W.Frag) (H : Hp) : V → Value → Prop where
  | non : TyOf K H .non (.type "NoneType")
  | bl (x : Bool) : TyOf K H (.bl x) (.type "bool")
  | int (i : Int) : TyOf K H (.int i) (.type "int")
  | str (x : Str) : TyOf K H (.str x) (.type "str")
  | flt (x : UInt64) : TyOf K H (.flt x) (.type "float")
  | lst {a : Addr} {xs : List V} (e : H a = some (.lst xs)) : TyOf K H (.ref a) (.type "list")
  | frz {a : Addr} {o : Obj} {xs : List V} (e : H a = some (.frz o (.lst xs))) : TyOf K H (.ref a) (.type "list")
  | tup {a : Addr} {xs : List V} (e : H a = some (.tup xs)) : TyOf K H (.ref a) (.type "tuple")
  | dK {a : Addr} {kvs : List (Key × V)} (e : H a = some (.dK kvs)) : TyOf K H (.ref a) (.type "dict")
  | dT {a : Addr} {kvs : List (List Key × V)} (e : H a = some (.dT kvs)) : TyOf K H (.ref a) (.type "dict")
  | ins {a C dx : Addr} {fs : List (Str × V)} (e : H a = some (.ins C dx fs)) (cl : Cls K C) (ha : PySem.W.findIn K (.ref C) "__class__" = some (some (.builtin "object.__class__")))
      (hn : PySem.W.specialIn K (.builtin "object.__class__") "__get__" = some (some (.builtin "getset_descriptor.__get__"))) (htk : PySem.W.takesIn K (.builtin "object.__class__") = some true)
      (hm : PySem.W.mroIn K C (.type "object") = some true) : TyOf K H (.ref a) (.ref C)
/-- isinstance(x, c) for one class c, a built-in or an own one: kitOne's answer -/
theorem isinst_ok {x : V} {u t : Value} (I : Inv X pins σ H s) (rx : RelV x u) (ty : TyOf X.K H x t) (e : PySem.W.kitOne X.K t c = some b) (h : ∀ tk, Q (.bool b) { s with toks := tk }) :
    wpAny (model X.prog X.w) A (call (.builtin "isinstance") [u, c]) Q E s := by
  cases ty with
  | non => cases (show u = Value.none from rx); exact PySem.W.kia_one PySem.W.kitx_none I.kIn True.intro e (fun z => nomatch z) h
  | bl y => cases (show u = Value.bool y from rx); exact PySem.W.kia_one PySem.W.kitx_bool I.kIn True.intro e (fun z => nomatch z) h
  | int i => obtain ⟨t, q⟩ := (show ∃ t, u = Value.int i t from rx); cases q; exact PySem.W.kia_one PySem.W.kitx_int I.kIn True.intro e (fun z => nomatch z) h
  | str y => obtain ⟨t, q⟩ := (show ∃ t, u = Value.str y t from rx); cases q; exact PySem.W.kia_one PySem.W.kitx_str I.kIn True.intro e (fun z => nomatch z) h
  | flt y => obtain ⟨t, q⟩ := (show ∃ t, u = Value.float y t from rx); cases q; exact PySem.W.kia_one PySem.W.kitx_float I.kIn True.intro e (fun z => nomatch z) h
  | @lst a xs ea =>
    cases (show u = Value.ref a from rx)
    obtain ⟨_, _, n, _, h1⟩ := (show ObjOk X.prog X.w H s.heap a (.lst xs) from I.hok a _ ea)
    exact PySem.W.kia_one PySem.W.kitx_list I.kIn ⟨_, h1, rfl⟩ e (fun z => nomatch z) h
  | @frz a ob xs ea =>
    cases (show u = Value.ref a from rx)
    obtain ⟨_, _, _, n, _, h1⟩ := (show ObjOk X.prog X.w H s.heap a (.frz ob (.lst xs)) from I.hok a _ ea)
    exact PySem.W.kia_one PySem.W.kitx_list I.kIn ⟨_, h1, rfl⟩ e (fun z => nomatch z) h
  | @tup a xs ea =>
    cases (show u = Value.ref a from rx)
    obtain ⟨_, _, _, p⟩ := (show ObjOk X.prog X.w H s.heap a (.tup xs) from I.hok a _ ea)
    obtain ⟨o, h1, h2, _⟩ := p
    exact PySem.W.kia_one PySem.W.kitx_tuple I.kIn ⟨o, h1, h2⟩ e (fun z => nomatch z) h
  | @dK a kvs ea =>
    cases (show u = Value.ref a from rx)
    obtain ⟨_, _, vs, _, p⟩ := (show ObjOk X.prog X.w H s.heap a (.dK kvs) from I.hok a _ ea)
    obtain ⟨o, es, ep, h1, h2, _⟩ := p
    exact PySem.W.kia_one PySem.W.kitx_dict I.kIn ⟨o, h1, h2.1⟩ e (fun z => nomatch z) h
  | @dT a kvs ea =>
    cases (show u = Value.ref a from rx)
    obtain ⟨_, _, xs, _, o, es, ep, h1, h2, _⟩ := (show ObjOk X.prog X.w H s.heap a (.dT kvs) from I.hok a _ ea)
    exact PySem.W.kia_one PySem.W.kitx_dict I.kIn ⟨o, h1, h2.1⟩ e (fun z => nomatch z) h
  | @ins a C dx fs ea cl ha hn htk hm =>
    cases (show u = Value.ref a from rx)
    obtain ⟨mA, O, _⟩ := ins_get I.hok ea
    obtain ⟨od, J, _⟩ := O.look
    exact PySem.W.kia_one (PySem.W.kitx_own (cl.get _) cl.hd ha hn htk hm) I.kIn J e (fun z => nomatch z) h
end
end L2

namespace L2
open PySem PySem.Spec PyProof.Rows

/-! ### room -/
structure Room (k : Nat) (A : Around) : Prop where
  hd : A.handled = none
  dp : A.depth + 3 * k + 5 < recursionLimit
  un : A.units + 16 * k + 200 < cLine
theorem Room.mono {j k : Nat} {A : Around} (r : Room k A) (h : j ≤ k) : Room j A := ⟨r.hd, by have := r.dp; omega, by have := r.un; omega⟩
theorem Room.deeper {k : Nat} {A : Around} (r : Room (k + 1) A) (env : Env) : Room k (A.deeper env) :=
  ⟨r.hd, by have := r.dp; show A.depth + 1 + 3 * k + 5 < _; omega, by have := r.un; show A.units + 3 + 16 * k + 200 < _; omega⟩
theorem Room.in1 {k : Nat} {A : Around} (r : Room (k + 1) A) : Room k A.in1 :=
  ⟨r.hd, by have := r.dp; show A.depth + 3 * k + 5 < _; omega, by have := r.un; show A.units + 1 + 16 * k + 200 < _; omega⟩
theorem make_depth {A : Around} {C : Addr} {us : List Value} {kw : List (Str × Value)} : (A.under (.builtin "type.__call__" ⟨.ref C :: us, kw⟩)).depth = A.depth + 1 := by
  first | rfl | simp [Around.under, Code.weight, Code.isCreation, Code.isGuard, Code.isCaller, Code.frames, Code.isFrame, guardIds]
theorem make_units {A : Around} {C : Addr} {us : List Value} {kw : List (Str × Value)} : (A.under (.builtin "type.__call__" ⟨.ref C :: us, kw⟩)).units = A.units + 1 := by
  first | rfl | simp [Around.under, Code.cUnits, Code.frames, Code.isFrame]
theorem Room.make {k : Nat} {A : Around} (r : Room (k + 1) A) (C : Addr) (us : List Value) (kw : List (Str × Value)) : Room k (A.under (.builtin "type.__call__" ⟨.ref C :: us, kw⟩)) :=
  ⟨r.hd, by have := r.dp; rw [make_depth]; omega, by have := r.un; rw [make_units]; omega⟩
theorem Room.depth {k : Nat} {A : Around} (r : Room k A) : A.depth < recursionLimit := by have := r.dp; omega
theorem Room.units {k : Nat} {A : Around} (r : Room k A) : A.units + 64 < cLine := by have := r.un; omega
/-! ### argument lists and displays -/
def tNil : TA := fun _ H Q => Q [] H
def tCons (ta : TE) (tr : TA) : TA := fun σ H Q => ta σ H fun x H1 => tr σ H1 fun xs H2 => Q (x :: xs) H2
section
variable {X : Cx} {e : Expr} {es : List Expr} {te : TE} {t : TA} {pos : Pos}
theorem pa_nil : PA X [] tNil := fun _ _ _ _ H Q I h => Calls.spliced_nil ⟨[], H, I, .nil, h⟩
theorem pa_cons (ha : PE X e te) (hr : PA X es t) (hs : starEach (e :: es) X.env = (false, eval e X.env) :: starEach es X.env := by rfl) : PA X (e :: es) (tCons te t) := by
  intro pos pins s σ H Q I h
  rw [hs]
  show wpAny _ _ (spliced ((false, eval e X.env) :: backTo pos (starEach es X.env))) _ _ s
  refine Calls.spliced_cons (thn (ha pins s σ H _ I h) fun u s1 ⟨x, H1, I1, r1, q1⟩ => ?_)
  exact thn (hr pos pins s1 σ H1 _ I1 q1) fun us s2 ⟨xs, H2, I2, r2, q2⟩ => ⟨x :: xs, H2, I2, .cons r1 r2, q2⟩

/-- a tuple, a list of written items -/
def tTup (t : TA) : TE := fun σ H Q => t σ H fun xs H1 => xs.length ≤ sizeLine ∧ ∀ p, H1 p = none → Q (.ref p) (upd H1 p (.tup xs))
def tLst (t : TA) : TE := fun σ H Q => t σ H fun xs H1 => xs.length ≤ sizeLine ∧ ∀ p, H1 p = none → Q (.ref p) (upd H1 p (.lst xs))
theorem pe_tup {x1} (h : PA X es t) : PE X (.Tuple es x1 pos) (tTup t) := by
  intro pins s σ H Q I hq
  refine wpAny_Tuple_spliced (thn (h pos pins s σ H _ I hq) fun us s1 ⟨xs, H1, I1, r, z, q⟩ => ⟨by rw [← r.length]; exact z, ?_⟩)
  have hf : H1 s1.heap.objs.size = none := I1.hok.fresh (Nat.le_refl _)
  refine ⟨.ref s1.heap.objs.size, upd H1 s1.heap.objs.size (.tup xs), I1.laid (t' := s1.toks) (fun b u e => Heap.get?_push_of_some _ e) (Nat.le_refl _) ?_, rfl, q _ hf⟩
  exact ⟨z, us, r, ⟨_, Heap.get?_push_size _ rfl, rfl, _, rfl⟩⟩
theorem pe_lst (h : PA X es t) : PE X (.List es pos) (tLst t) := by
  intro pins s σ H Q I hq
  refine wpAny_List_spliced (thn (h pos pins s σ H _ I hq) fun us s1 ⟨xs, H1, I1, r, z, q⟩ => ⟨by rw [← r.length]; exact z, ?_⟩)
  have hf : H1 s1.heap.objs.size = none := I1.hok.fresh (Nat.le_refl _)
  refine ⟨.ref s1.heap.objs.size, upd H1 s1.heap.objs.size (.lst xs), I1.laid (t' := s1.toks) (fun b u e => Heap.get?_push_of_some _ e) (Nat.le_refl _) ?_, rfl, q _ hf⟩
  exact ⟨z, us, 0, r, Heap.get?_push_size _ rfl⟩
end

/-! ### what a def promises -/
/-- a def's promise: the bound arguments in the parameters' order, the heap, the wanted end, the wanted exception -/
abbrev Sp := List V → Hp → VK → XK → Prop
/-- how an exception lies behind a call (file 08 gives it): the callers' frames, abstract heap and state ahead of the call, the wish, the exception, the state -/
abbrev CXT := List Env → Hp → Shared → XK → Value → Shared → Prop

/-- the state at a call -/
structure Env0 (P : Program) (w : World) (K : PySem.W.Frag) (mg : Str → Option Value) (base : Heap) (A : Around) (outer : List Env) (s : Shared) (H : Hp) : Prop where
  frames : A.frames = some outer
  mod : Mod K mg base
  bs : ∀ b o, base.get? b = some o → s.heap.get? b = some o ∧ H b = none
  bsz : base.objs.size ≤ s.heap.objs.size
  funs : s.heap.FunFrames base outer
  frf : ∀ b ∈ frs outer, H b = none
  hok : HOk P w H s.heap
  bare : AllBare s.gens
/-- a call's end -/
def CE (outer : List Env) (P : Program) (w : World) (H : Hp) (s : Shared) (Q : VK) (u : Value) (s' : Shared) : Prop :=
  ∃ v H', s'.os = s.os ∧ AllBare s'.gens ∧ Un (frs outer) [] H H' s.heap s'.heap ∧ HOk P w H' s'.heap ∧ RelV v u ∧ Q v H'
def CR (CX : CXT) (outer : List Env) (P : Program) (w : World) (H : Hp) (s : Shared) (Q : VK) (E : XK) (r : Result) (s' : Shared) : Prop :=
  match r with
  | .ok (.ret u) => CE outer P w H s Q u s'
  | .ok _ => False
  | .error e => CX outer H s E e s'
structure FnOk (P : Program) (w : World) (K : PySem.W.Frag) (mg : Str → Option Value) (base : Heap) (CX : CXT) (k : Nat) (f : Addr) (fd : FuncData) (ps : List Str) (sp : Sp) : Prop where
  len : ∀ vs H Q E, sp vs H Q E → vs.length = ps.length
  run : ∀ (A : Around) (outer : List Env) (s : Shared) (H : Hp) (args : Args) (us : List Value) (vs : List V) (Q : VK) (E : XK), Room k A → Env0 P w K mg base A outer s H → BindsTo s fd args (ps.zip us) → Vals vs us → sp vs H Q E →
    codeAny (model P w) A (.call (.ref f) args) (CR CX outer P w H s Q E) s
/-- a weaker promise -/
theorem FnOk.imp {P : Program} {w : World} {K : PySem.W.Frag} {mg : Str → Option Value} {base : Heap} {CX : CXT} {k : Nat} {f : Addr} {fd : FuncData} {ps : List Str} {sp sp' : Sp} (F : FnOk P w K mg base CX k f fd ps sp)
    (h : ∀ vs H Q E, sp' vs H Q E → sp vs H Q E) : FnOk P w K mg base CX k f fd ps sp' :=
  ⟨fun vs H Q E q => F.len vs H Q E (h _ _ _ _ q), fun A outer s H args us vs Q E hr he hb hv hs => F.run A outer s H args us vs Q E hr he hb hv (h _ _ _ _ hs)⟩

theorem Env0.make {P : Program} {w : World} {K : PySem.W.Frag} {mg : Str → Option Value} {base : Heap} {A : Around} {outer : List Env} {s : Shared} {H : Hp} (e : Env0 P w K mg base A outer s H) (C : Addr) (us : List Value) (kw : List (Str × Value)) :
    Env0 P w K mg base (A.under (.builtin "type.__call__" ⟨.ref C :: us, kw⟩)) outer s H := ⟨by first | exact e.frames | (simpa [Around.under, Code.envs, Code.isFrame, pushEnvs] using e.frames), e.mod, e.bs, e.bsz, e.funs, e.frf, e.hok, e.bare⟩
theorem Env0.in1 {P : Program} {w : World} {K : PySem.W.Frag} {mg : Str → Option Value} {base : Heap} {A : Around} {outer : List Env} {s : Shared} {H : Hp} (e : Env0 P w K mg base A outer s H) :
    Env0 P w K mg base A.in1 outer s H := ⟨e.frames, e.mod, e.bs, e.bsz, e.funs, e.frf, e.hok, e.bare⟩

section
variable {X : Cx} {pins : List (Addr × Obj)} {σ : St} {H : Hp} {s s' : Shared}
/-- from a body: what a callee wants -/
theorem Inv.env0 (I : Inv X pins σ H s) : Env0 X.prog X.w X.K X.mg X.base X.A X.stack s H :=
  ⟨I.ok.frames, I.ok.mod, I.bs, Nat.le_trans I.ok.bsz I.sz, I.stack, I.stkFree, I.hok, I.bare⟩
/-- behind a call -/
theorem Inv.after {Q : VK} {u : Value} (I : Inv X pins σ H s) (h : CE X.stack X.prog X.w H s Q u s') : EP X pins σ Q u s' := by
  obtain ⟨v, H', os, bare, un, hok, r, q⟩ := h
  obtain ⟨hh, g, d, t, os'⟩ := s'
  obtain rfl : os' = s.os := os
  exact ⟨v, H', I.call (h' := hh) (g' := g) (d' := d) (t' := t) (ch := []) un hok bare (fun b z => absurd z (by simp)), r, q⟩
end

/-! ### calls -/
/-- f(..): the written arguments, then the defaults dvs; E: what is wanted of an exception -/
def tCall (sp : Sp) (dvs : List V) (E : XK) (t : TA) : TE := fun σ H Q => t σ H fun vs H1 => sp (vs ++ dvs) H1 Q E
/-- o.m(..) of an instance of the class at C -/
def tMeth (C : Addr) (m : Str) (sp : Sp) (dvs : List V) (E : XK) (ta : TE) (t : TA) : TE := fun σ H Q => ta σ H fun x H1 => ∃ a dx fs, x = .ref a ∧ H1 a = some (.ins C dx fs) ∧ fs.lookup m = none ∧
  t σ H1 fun vs H2 => sp (x :: (vs ++ dvs)) H2 Q E
/-- C(..): a new instance and its dict, then __init__ -/
def tMake (C : Addr) (sp : Sp) (dvs : List V) (E : XK) (t : TA) : TE := fun σ H Q => t σ H fun vs H1 => ∀ x dx, H1 x = none → H1 dx = none → dx ≠ x →
  sp (.ref x :: (vs ++ dvs)) (upd (upd H1 dx (.own x)) x (.ins C dx [])) (fun v H2 => v = .non ∧ Q (.ref x) H2) E

/-- how the parameters are bound: us the positional arguments, kw the keywords' values by name, ds the defaults that fill up -/
def Binds (K : PySem.W.Frag) (fd : FuncData) (ps : List Str) (ds : List Value) : Prop :=
  ∀ (s : Shared) (us : List Value), K.In s.heap → (us ++ ds).length = ps.length → BindsTo s fd ⟨us, []⟩ (ps.zip (us ++ ds))
/-- every parameter is given -/
theorem Binds.all {K : PySem.W.Frag} {fd : FuncData} {ps : List Str} (h : ∀ us : List Value, us.length = ps.length → bindArgs fd ⟨us, []⟩ = pure (ps.zip us)) : Binds K fd ps [] := fun s us _ hl => by
  rw [List.append_nil] at hl ⊢
  exact .of_eq (h us hl)

/-- an exception of a callee reaches what this body wants of exceptions -/
def Passes (CX : CXT) (X : Cx) (E : XK) : Prop := ∀ (pins : List (Addr × Obj)) (σ : St) (H : Hp) (s : Shared) (e : Value) (s' : Shared), Inv X pins σ H s → CX X.stack H s E e s' → X.xe e s'

section
variable {X : Cx} {CX : CXT} {k : Nat} {f C : Addr} {fd : FuncData} {ps : List Str} {sp : Sp} {dvs : List V} {ds : List Value} {E : XK} {x m : Str} {p pos apos : Pos} {e o : Expr} {es : List Expr} {ta : TE} {t : TA}

/-- the callee runs -/
theorem run_fn {pins : List (Addr × Obj)} {σ : St} {H : Hp} {s : Shared} {Q : VK} {us : List Value} {vs : List V} (F : FnOk X.prog X.w X.K X.mg X.base CX k f fd ps sp) (hr : Room k X.A) (hb : Binds X.K fd ps ds) (hd : Vals dvs ds) (hx : Passes CX X E)
    (I : Inv X pins σ H s) (r : Vals vs us) (h : sp (vs ++ dvs) H Q E) : wpAny (model X.prog X.w) X.A (call (.ref f) us) (EP X pins σ Q) X.xe s := by
  have r2 : Vals (vs ++ dvs) (us ++ ds) := r.append hd
  have hl : (us ++ ds).length = ps.length := by rw [← r2.length]; exact F.len _ _ _ _ h
  refine wpAny_call (codeAny_mono (F.run X.A X.stack s H ⟨us, []⟩ (us ++ ds) (vs ++ dvs) Q E hr I.env0 (hb s us I.kIn hl) r2 h) fun r s' hq => ?_)
  cases r with
  | error e => exact hx pins σ H s e s' I hq
  | ok fl =>
    cases fl with
    | ret u => exact I.after hq
    | next => exact False.elim hq
    | brk => exact False.elim hq
    | cont => exact False.elim hq

theorem pe_call (F : FnOk X.prog X.w X.K X.mg X.base CX k f fd ps sp) (hr : Room k X.A) (hg : Gl X x) (hm : X.mg x = some (.ref f)) (hk : PySem.W.keepIn X.K (.ref f) = true) (hb : Binds X.K fd ps ds) (hd : Vals dvs ds) (hx : Passes CX X E)
    (ha : PA X (e :: es) t) (hdb : (x == ("__debug__" : Str)) = false := by decide) (he : starEach (e :: es) X.env = (false, eval e X.env) :: starEach es X.env := by rfl) (hpl : (backTo pos (starEach es X.env)).any (·.1) = false := by rfl) :
    PE X (.Call (.Name x p) (e :: es) [] pos) (tCall sp dvs E t) := by
  intro pins s σ H Q I h
  refine wpAny_Call_Name_kw (ld_glob I hg hm ?_ hdb)
  refine PySem.W.callWith_K (h₀ := X.base) I.ok.mod.kin hk (thn (ha pos pins s σ H _ I h) fun us s1 ⟨vs, H1, I1, r, q⟩ => ⟨I1.kIn, ?_⟩) he hpl
  exact run_fn F hr hb hd hx I1 r q
/-- o.m(e, ..) -/
theorem pe_meth {pl : Sem Bool} (he : PE X o ta) (c : Cls X.K C) (hm : Meth X.K C m f) (F : FnOk X.prog X.w X.K X.mg X.base CX k f fd ps sp) (hr : Room k X.A) (hb : Binds X.K fd ps ds) (hd : Vals dvs ds) (hx : Passes CX X E) (ha : PA X (e :: es) t)
    (hst : starEach (e :: es) X.env = (false, eval e X.env) :: starEach es X.env := by rfl) (hpl : (backTo pos (starEach es X.env)).any (·.1) = false := by rfl)
    (ht : eval (.Call (.Attribute o m apos) (e :: es) [] pos) X.env = (do
      let ov ← eval o X.env
      standAt apos.atName
      let (f, first) ← holding [ov] (getMethod ov m pl)
      callWith pos f first (backTo pos (starEach (e :: es) X.env)) (backToKw pos (keywordEach [] X.env))) := by rfl) :
    PE X (.Call (.Attribute o m apos) (e :: es) [] pos) (tMeth C m sp dvs E ta t) := by
  intro pins s σ H Q I h
  refine PySem.W.methodCall_KW (pl := pl) (thn (he pins s σ H _ I h) fun u s1 ⟨x, H1, I1, rx, a, dx, fs, ex, ea, l, q⟩ => ?_) ht
  subst ex
  obtain rfl : u = Value.ref a := rx
  refine getmeth_ok I1 ea c hm l ?_
  refine PySem.W.callWith_K (first := [.ref a]) (h₀ := X.base) I.ok.mod.kin hm.kp (thn (ha pos pins s1 σ H1 _ I1 q) fun us s2 ⟨vs, H2, I2, r, q2⟩ => ⟨I2.kIn, ?_⟩) hst hpl
  exact run_fn (us := .ref a :: us) (vs := .ref a :: vs) F hr hb hd hx I2 (.cons rfl r) q2
/-- o.m() -/
theorem pe_meth0 {pl : Sem Bool} (he : PE X o ta) (c : Cls X.K C) (hm : Meth X.K C m f) (F : FnOk X.prog X.w X.K X.mg X.base CX k f fd ps sp) (hr : Room k X.A) (hb : Binds X.K fd ps ds) (hd : Vals dvs ds) (hx : Passes CX X E)
    (ht : eval (.Call (.Attribute o m apos) [] [] pos) X.env = (do
      let ov ← eval o X.env
      standAt apos.atName
      let (f, first) ← holding [ov] (getMethod ov m pl)
      callWith pos f first (backTo pos (starEach [] X.env)) (backToKw pos (keywordEach [] X.env))) := by rfl) :
    PE X (.Call (.Attribute o m apos) [] [] pos) (tMeth C m sp dvs E ta tNil) := by
  intro pins s σ H Q I h
  refine PySem.W.methodCall_KW (pl := pl) (thn (he pins s σ H _ I h) fun u s1 ⟨x, H1, I1, rx, a, dx, fs, ex, ea, l, q⟩ => ?_) ht
  subst ex
  obtain rfl : u = Value.ref a := rx
  refine getmeth_ok I1 ea c hm l ?_
  exact PySem.W.callWith_K0 (first := [.ref a]) I1.kIn hm.kp (run_fn (us := [.ref a]) (vs := [.ref a]) F hr hb hd hx I1 (.cons rfl .nil) q)

/-- what a class must have to be made -/
structure Mk (K : PySem.W.Frag) (C f : Addr) : Prop where
  makes : PySem.W.makesIn K C = true
  init : PySem.W.findIn K (.ref C) "__init__" = some (some (.ref f))
  fn : PySem.W.isFn K (.ref f) = true
  kp : PySem.W.keepIn K (.ref C) = true

theorem run_make {pins : List (Addr × Obj)} {σ : St} {H : Hp} {s : Shared} {Q : VK} {us : List Value} {vs : List V} (M : Mk X.K C f) (F : FnOk X.prog X.w X.K X.mg X.base CX k f fd ps sp) (hr : Room (k + 1) X.A) (hb : Binds X.K fd ps ds) (hd : Vals dvs ds)
    (hx : Passes CX X E) (I : Inv X pins σ H s) (r : Vals vs us)
    (h : ∀ x dx, H x = none → H dx = none → dx ≠ x → sp (.ref x :: (vs ++ dvs)) (upd (upd H dx (.own x)) x (.ins C dx [])) (fun v H2 => v = .non ∧ Q (.ref x) H2) E) :
    wpAny (model X.prog X.w) X.A (call (.ref C) us) (EP X pins σ Q) X.xe s := by
  have hq := h (s.heap.objs.size + 1) s.heap.objs.size (I.hok.fresh (Nat.le_succ _)) (I.hok.fresh (Nat.le_refl _)) (Nat.ne_of_lt (Nat.lt_succ_self _))
  have I2 := Inv.made (C := C) I
  have r2 : Vals (V.ref (s.heap.objs.size + 1) :: (vs ++ dvs)) (Value.ref (s.heap.objs.size + 1) :: (us ++ ds)) := .cons rfl (r.append hd)
  have hl : (Value.ref (s.heap.objs.size + 1) :: us ++ ds).length = ps.length := by
    have e := r2.length
    rw [F.len _ _ _ _ hq] at e
    exact e.symm
  refine wpAny_call (make_map (f := f) I.kIn M.makes M.init (beq_iff_eq.mp M.fn) (codeAny_mono (F.run _ X.stack _ _ ⟨Value.ref (s.heap.objs.size + 1) :: us, []⟩ (Value.ref (s.heap.objs.size + 1) :: (us ++ ds)) _ _ E (hr.make C us [])
    (I2.env0.make C us []) (hb _ (Value.ref (s.heap.objs.size + 1) :: us) I2.kIn hl) r2 hq) fun r s' hq' => ?_))
  cases r with
  | error e => exact hx pins σ _ _ e s' I2 hq'
  | ok fl =>
    cases fl with
    | ret u =>
      obtain ⟨v, H', I3, rv, ev, q3⟩ := I2.after hq'
      subst ev
      exact ⟨rv, ⟨V.ref (s.heap.objs.size + 1), H', I3, rfl, q3⟩⟩
    | next => exact False.elim hq'
    | brk => exact False.elim hq'
    | cont => exact False.elim hq'
theorem pe_make (M : Mk X.K C f) (F : FnOk X.prog X.w X.K X.mg X.base CX k f fd ps sp) (hr : Room (k + 1) X.A) (hg : Gl X x) (hm : X.mg x = some (.ref C)) (hb : Binds X.K fd ps ds) (hd : Vals dvs ds) (hx : Passes CX X E)
    (ha : PA X (e :: es) t) (hdb : (x == ("__debug__" : Str)) = false := by decide) (he : starEach (e :: es) X.env = (false, eval e X.env) :: starEach es X.env := by rfl) (hpl : (backTo pos (starEach es X.env)).any (·.1) = false := by rfl) :
    PE X (.Call (.Name x p) (e :: es) [] pos) (tMake C sp dvs E t) := by
  intro pins s σ H Q I h
  refine wpAny_Call_Name_kw (ld_glob I hg hm ?_ hdb)
  refine PySem.W.callWith_K (h₀ := X.base) I.ok.mod.kin M.kp (thn (ha pos pins s σ H _ I h) fun us s1 ⟨vs, H1, I1, r, q⟩ => ⟨I1.kIn, ?_⟩) he hpl
  exact run_make M F hr hb hd hx I1 r q
theorem pe_make0 (M : Mk X.K C f) (F : FnOk X.prog X.w X.K X.mg X.base CX k f fd ps sp) (hr : Room (k + 1) X.A) (hg : Gl X x) (hm : X.mg x = some (.ref C)) (hb : Binds X.K fd ps ds) (hd : Vals dvs ds) (hx : Passes CX X E)
    (hdb : (x == ("__debug__" : Str)) = false := by decide) : PE X (.Call (.Name x p) [] [] pos) (tMake C sp dvs E tNil) := by
  intro pins s σ H Q I h
  refine wpAny_Call_Name_kw (ld_glob I hg hm ?_ hdb)
  exact PySem.W.callWith_K0 I.kIn M.kp (run_make (us := []) M F hr hb hd hx I .nil h)
end

/-! ### keywords -/
/-- the values of the keywords, from the left -/
def PK (X : Cx) (kws : List Keyword) (t : TA) : Prop :=
  ∀ (pos : Pos) (pins : List (Addr × Obj)) (s : Shared) (σ : St) (H : Hp) (Q : List V → Hp → Prop), Inv X pins σ H s → t σ H Q → wpAny (model X.prog X.w) X.A (evalAll ((backToKw pos (keywordEach kws X.env)).map (·.2))) (AP X pins σ Q) X.xe s
section
variable {X : Cx} {CX : CXT} {k : Nat} {f C : Addr} {fd : FuncData} {ps ks : List Str} {sp : Sp} {E : XK} {x m : Str} {p pos apos kpos : Pos} {e o : Expr} {es : List Expr} {kws : List Keyword} {te ta : TE} {t tk : TA} {nm : Option Str}
/-- how a call with keywords binds: g puts the positional values us and the keywords' values ws (names ks) in the parameters' order, defaults among them -/
structure KBinds (K : PySem.W.Frag) (fd : FuncData) (ps ks : List Str) (g : List Value → List Value → List Value) (gV : List V → List V → List V) : Prop where
  to : ∀ (s : Shared) (us ws : List Value), K.In s.heap → (g us ws).length = ps.length → BindsTo s fd ⟨us, ks.zip ws⟩ (ps.zip (g us ws))
  rel : ∀ {vs : List V} {us : List Value} {zs : List V} {ws : List Value}, Vals vs us → Vals zs ws → Vals (gV vs zs) (g us ws)
def tCallK (sp : Sp) (gV : List V → List V → List V) (E : XK) (t tk : TA) : TE := fun σ H Q => t σ H fun vs H1 => tk σ H1 fun zs H2 => sp (gV vs zs) H2 Q E
variable {g : List Value → List Value → List Value} {gV : List V → List V → List V}
end

/-! ### a def's body keeps its promise -/
/-- names: the parameters first -/
structure FnScope (N P : List Str) (sc : Scope) : Prop where
  kind : sc.kind = .function
  co : sc.isCoroutine = false
  gen : sc.isGenerator = false
  nd : N.Nodup
  pre : N.take P.length = P
  par : ∀ x ∈ P, sc.names.lookup x = some .local ∨ sc.names.lookup x = some .cell
  nofree : ∀ y ∈ sc.names, y.2 ≠ .free

theorem bindL_out {kindOf : Str → Option NameKind} {x : Str} : ∀ {binds : List (Str × Value)} {m : Str → Option Value}, (∀ v, (x, v) ∉ binds) → bindL kindOf binds m x = m x
  | [], _, _ => rfl
  | (n, v) :: r, m, h => by
    unfold bindL
    rw [bindL_out fun w hw => h w (List.mem_cons_of_mem _ hw)]
    split
    · have : x ≠ n := by rintro rfl; exact h v List.mem_cons_self
      simp [this]
    · rfl
theorem bindC_out {kindOf : Str → Option NameKind} {x : Str} : ∀ {binds : List (Str × Value)} {m : Str → Option Value}, (∀ v, (x, v) ∉ binds) → bindC kindOf binds m x = m x
  | [], _, _ => rfl
  | (n, v) :: r, m, h => by
    unfold bindC
    rw [bindC_out fun w hw => h w (List.mem_cons_of_mem _ hw)]
    split
    · rfl
    · have : x ≠ n := by rintro rfl; exact h v List.mem_cons_self
      simp [this]
theorem bindL_get {kindOf : Str → Option NameKind} {x : Str} {v : Value} : ∀ {P : List Str} {vs : List Value} {i : Nat} {m : Str → Option Value}, P.Nodup → P[i]? = some x → vs[i]? = some v → kindOf x = some .local →
    bindL kindOf (P.zip vs) m x = some v
  | [], _, _, _, _, h, _, _ => by simp at h
  | _ :: _, [], _, _, _, _, h, _ => by simp at h
  | p :: P, w :: vs, 0, m, nd, h1, h2, hk => by
    simp at h1 h2; subst h1; subst h2
    show bindL kindOf ((p, w) :: P.zip vs) m p = _
    unfold bindL
    rw [bindL_out fun v hv => (List.nodup_cons.mp nd).1 (List.of_mem_zip hv).1, if_pos hk]
    simp
  | p :: P, w :: vs, i + 1, m, nd, h1, h2, hk => by
    show bindL kindOf ((p, w) :: P.zip vs) m x = _
    unfold bindL
    exact bindL_get (i := i) (List.nodup_cons.mp nd).2 (by simpa using h1) (by simpa using h2) hk
theorem bindC_get {kindOf : Str → Option NameKind} {x : Str} {v : Value} : ∀ {P : List Str} {vs : List Value} {i : Nat} {m : Str → Option Value}, P.Nodup → P[i]? = some x → vs[i]? = some v → kindOf x ≠ some .local →
    bindC kindOf (P.zip vs) m x = some v
  | [], _, _, _, _, h, _, _ => by simp at h
  | _ :: _, [], _, _, _, _, h, _ => by simp at h
  | p :: P, w :: vs, 0, m, nd, h1, h2, hk => by
    simp at h1 h2; subst h1; subst h2
    show bindC kindOf ((p, w) :: P.zip vs) m p = _
    unfold bindC
    rw [bindC_out fun v hv => (List.nodup_cons.mp nd).1 (List.of_mem_zip hv).1, if_neg hk]
    simp
  | p :: P, w :: vs, i + 1, m, nd, h1, h2, hk => by
    show bindC kindOf ((p, w) :: P.zip vs) m x = _
    unfold bindC
    exact bindC_get (i := i) (List.nodup_cons.mp nd).2 (by simpa using h1) (by simpa using h2) hk

/-- the names' values at the entry -/
def start (N : List Str) (vs : List V) : St := vs.map some ++ List.replicate (N.length - vs.length) none

/-- the context of a def's body, at its entry; an exception leaves the frame, then lies as CX says -/
def cxOf (CX : CXT) (P : Program) (w : World) (K : PySem.W.Frag) (mg : Str → Option Value) (base : Heap) (N : List Str) (qual : Str) (scope : Scope) (f : Addr) (cd : Value) (A : Around) (outer : List Env) (s : Shared) (H : Hp) (E : XK) : Cx where
  prog := P
  w := w
  K := K
  mg := mg
  base := base
  A := A.deeper (envOfC qual scope s.heap.objs.size f cd)
  N := N
  s₀ := s
  H₀ := H
  env := envOfC qual scope s.heap.objs.size f cd
  outer := outer
  stack := envOfC qual scope s.heap.objs.size f cd :: outer
  ex := []
  calm := true
  fn := fun _ => true
  pn := []
  xe := fun e s' => wpAny (model P w) (A.deeper (envOfC qual scope s.heap.objs.size f cd)) (leaving (envOfC qual scope s.heap.objs.size f cd) e) (fun _ s'' => CX outer H s E e s'') (fun e' s'' => CX outer H s E e' s'') s'

theorem cell_has {sc : Scope} {n : Nat} {x : Str} (h : sc.names.lookup x = some .cell) : ∃ c, (cellsFrom n sc.names []).lookup x = some c := by
  have q := PySem.W.cellsFrom_some sc.names n [] (.inl h)
  exact Option.isSome_iff_exists.mp q

theorem inv_start {CX : CXT} {P : Program} {w : World} {K : PySem.W.Frag} {mg : Str → Option Value} {base : Heap} {N ps : List Str} {qual : Str} {scope : Scope} {f : Addr} {cd : Value} {A : Around} {outer : List Env} {s s1 : Shared} {H : Hp} {E : XK} {us : List Value} {vs : List V}
    (S : FnScope N ps scope) (hd : A.handled = none) (e0 : Env0 P w K mg base A outer s H) (hl : vs.length = ps.length) (r : Vals vs us)
    (x : InCallC s s.heap.objs.size (bindL (envOfC qual scope s.heap.objs.size f cd).kindOf (ps.zip us) fun _ => none) (cellsFrom (s.heap.objs.size + 1) scope.names []) (bindC (envOfC qual scope s.heap.objs.size f cd).kindOf (ps.zip us) fun _ => none) s1) :
    Inv (cxOf CX P w K mg base N qual scope f cd A outer s H E) [] (start N vs) H s1 := by
  have hpl : ps.length ≤ N.length := by have := congrArg List.length S.pre; rw [List.length_take] at this; omega
  obtain ⟨h1, tk, rfl, hk⟩ := x.done
  have noA : ∀ b : Addr, b ∉ (cxOf CX P w K mg base N qual scope f cd A outer s H E).ex := fun b z => absurd (show b ∈ ([] : List Addr) from z) (by simp)
  refine ⟨⟨e0.mod, S.kind, rfl, rfl, Nat.le_refl _, fun y z c h1 h2 => ?_, fun y hy => ?_, fun y c _ h => ?_, fun _ => hd, Around.frames_deeper e0.frames, .inr ⟨rfl, rfl⟩, fun b z => absurd z (noA b), e0.bs, e0.bsz, fun b _ _ => noA b, fun b z => absurd z (noA b), e0.funs, e0.frf⟩,
    rfl, e0.bare, Un.kept hk, ⟨_, x.toInCall.ns, fun i y v h1 h2 h3 => ?_⟩, fun y c h => ⟨_, x.cell y c h⟩, e0.hok.fresh (Nat.le_refl _), fun y c h => ?_, fun p hp => absurd (show p ∈ ([] : List (Addr × Obj)) from hp) (by simp), e0.hok.kept hk, ?_⟩
  · exact name_of_addr x.apart (PySem.mem_of_lookup h1) (PySem.mem_of_lookup h2)
  · have hy : scope.names.lookup y = some .cell ∨ scope.names.lookup y = some .free := hy
    rcases hy with hy | hy
    · exact cell_has hy
    · exact absurd rfl (S.nofree _ (PySem.mem_of_lookup hy))
  · exact Nat.le_of_lt (x.above y c (PySem.mem_of_lookup h))
  · have hi : i < vs.length := by
      unfold start at h2
      by_cases hi : i < vs.length
      · exact hi
      · rw [List.getElem?_append_right (by simpa using hi)] at h2
        rw [List.getElem?_replicate] at h2
        split at h2 <;> cases h2
    have ha : vs[i]? = some v := by
      unfold start at h2
      rw [List.getElem?_append_left (by simpa using hi), List.getElem?_map] at h2
      cases e : vs[i]? with
      | none => rw [e] at h2; cases h2
      | some a => rw [e] at h2; cases h2; rfl
    obtain ⟨u, hu, rv⟩ := r.get ha
    have hp : ps[i]? = some y := by
      rw [← S.pre, List.getElem?_take_of_lt (by omega)]; exact h1
    have ndP : ps.Nodup := by rw [← S.pre]; exact S.nd.sublist (List.take_sublist _ _)
    refine ⟨u, rv, ?_⟩
    rcases S.par y (List.mem_of_getElem? hp) with k | k
    · exact .inl ⟨k, bindL_get ndP hp hu k⟩
    · obtain ⟨c, e⟩ := cell_has (n := s.heap.objs.size + 1) k
      refine .inr ⟨.inl k, c, e, ?_⟩
      have q := x.cell y c e
      rw [bindC_get ndP hp hu (by show scope.names.lookup y ≠ _; rw [k]; decide)] at q
      exact q
  · exact e0.hok.fresh (Nat.le_of_lt (x.above y c (PySem.mem_of_lookup h)))
  · unfold start
    show _ = N.length
    rw [List.length_append, List.length_map, List.length_replicate]
    omega

/-- THE RULE: a def (or a method) of the text, by its body. The body's reading t is chosen for each entry; it is run at the parameters' values -/
theorem fn_of {CX : CXT} {P : Program} {w : World} {K : PySem.W.Frag} {mg : Str → Option Value} {base : Heap} {k : Nat} {f : Addr} {name qual : Str} {params : Arguments} {body : List Stmt} {scope : Scope} {dV kV doc pm cdv ct oc : Value} {an od : Option Addr}
    {osl : Array (Option Value)} {N ps : List Str} {sp : Sp} (lk : K.lookup f = some ⟨oc, od, .func (PySem.W.fnOf name qual params body scope dV kV doc pm an cdv ct), osl⟩) (hcd : PySem.W.codeIn K cdv qual = true) (S : FnScope N ps scope)
    (len : ∀ vs H Q E, sp vs H Q E → vs.length = ps.length)
    (hbody : ∀ (A : Around) (outer : List Env) (s : Shared) (H : Hp) (vs : List V) (Q : VK) (E : XK), Room k (A.deeper (envOfC qual scope s.heap.objs.size f cdv)) → sp vs H Q E →
      ∃ t, PSs (cxOf CX P w K mg base N qual scope f cdv A outer s H E) body t ∧ t { nx := fun _ H' => Q .non H', rt := Q } (start N vs) H) :
    FnOk P w K mg base CX (k + 1) f (PySem.W.fnOf name qual params body scope dV kV doc pm an cdv ct) ps sp := by
  refine ⟨len, fun A outer s H args us vs Q E hr e0 hb r hsp => ?_⟩
  have hl := len _ _ _ _ hsp
  have KX : K.In s.heap := e0.mod.kin.keeps fun b o e => (e0.bs b o e).1
  have lim : s.heap.NoLimit := e0.mod.nolimit.keeps fun b o e => (e0.bs b o e).1
  have hkind : ∀ y ∈ ps.zip us, scope.names.lookup y.1 = some .local ∨ (scope.names.lookup y.1 = some .cell ∧ ((cellsFrom (s.heap.objs.size + 1) scope.names []).lookup y.1).isSome = true) := fun ⟨n, v⟩ hy => by
    rcases S.par n (List.of_mem_zip hy).1 with q | q
    · exact .inl q
    · exact .inr ⟨q, PySem.W.cellsFrom_some _ _ _ (.inl q)⟩
  refine codeAny_call_function hr.depth (KX _ _ lk) rfl S.co S.gen rfl (PySem.W.codeRec_of KX hcd) (hb _ _ _ _ ?_)
  refine wpAny_newFunctionEnv_cells S.kind hkind fun env he s1 x => ?_
  subst he
  refine ⟨lim.keeps x.toInCall.keep, codeAny_func ?_⟩
  obtain ⟨t, ht, hq⟩ := hbody A outer s H vs Q E (hr.deeper _) hsp
  have I : Inv (cxOf CX P w K mg base N qual scope f cdv A outer s H E) [] (start N vs) H s1 := inv_start S hr.hd e0 hl r x
  refine wpAny_mono (ht [] s1 (start N vs) H _ I hq) (fun fl s' hs => ?_) fun e s' hs => hs
  have fin : ∀ {σ' : St} {H' : Hp} {v : V} {u : Value}, Inv (cxOf CX P w K mg base N qual scope f cdv A outer s H E) [] σ' H' s' → RelV v u → Q v H' → CE outer P w H s Q u s' :=
    fun {σ' H' v u} J rv q => ⟨v, H', J.os, J.bare, J.base, J.hok, rv, q⟩
  cases fl with
  | ret u =>
    obtain ⟨v, σ', H', J, rv, q⟩ := hs
    exact fin J rv q
  | next =>
    obtain ⟨σ', H', J, q⟩ := hs
    exact fin (v := V.non) (u := Value.none) J rfl q
  | brk =>
    obtain ⟨_, _, _, q⟩ := hs
    exact False.elim q
  | cont =>
    obtain ⟨_, _, _, q⟩ := hs
    exact False.elim q
end L2

namespace L2
open PySem PySem.Spec PyProof.Rows
section
variable {X : Cx} {x : Str} {p pos : Pos} {e : Expr} {es : List Expr} {t : TA} {id T : String} {r : List V → Hp → VK → Prop}

def tCB (r : List V → Hp → VK → Prop) (t : TA) : TE := fun σ H Q => t σ H fun vs H1 => r vs H1 Q
/-- f(e, ..), f a built-in function -/
theorem pe_callB (hc : CallR X (.builtin id) r) (hg : Gl X x) (hm : X.mg x = none) (hv : bootBuiltins x = some (.builtin id)) (ha : PA X (e :: es) t) (hn : x ≠ "__name__" := by decide) (hdb : (x == ("__debug__" : Str)) = false := by decide)
    (he : starEach (e :: es) X.env = (false, eval e X.env) :: starEach es X.env := by rfl) (hpl : (backTo pos (starEach es X.env)).any (·.1) = false := by rfl) : PE X (.Call (.Name x p) (e :: es) [] pos) (tCB r t) := by
  intro pins s σ H Q I h
  refine wpAny_Call_Name_kw (ld_blt I hg hm hv ?_ hn hdb)
  exact PyProof.Rows.callWith_builtin1 (thn (ha pos pins s σ H _ I h) fun us s1 ⟨vs, H1, I1, r1, q1⟩ => hc pins s1 σ H1 vs us Q I1 r1 q1) he hpl
/-- T(e, ..), T a built-in type -/
theorem pe_callTy (hc : CallR X (.type T) r) (hg : Gl X x) (hm : X.mg x = none) (hv : bootBuiltins x = some (.type T)) (ha : PA X (e :: es) t) (hn : x ≠ "__name__" := by decide) (hdb : (x == ("__debug__" : Str)) = false := by decide)
    (he : starEach (e :: es) X.env = (false, eval e X.env) :: starEach es X.env := by rfl) (hpl : (backTo pos (starEach es X.env)).any (·.1) = false := by rfl) : PE X (.Call (.Name x p) (e :: es) [] pos) (tCB r t) := by
  intro pins s σ H Q I h
  refine wpAny_Call_Name_kw (ld_blt I hg hm hv ?_ hn hdb)
  exact PyProof.Rows.callWith_type1 (thn (ha pos pins s σ H _ I h) fun us s1 ⟨vs, H1, I1, r1, q1⟩ => hc pins s1 σ H1 vs us Q I1 r1 q1) he hpl
end
end L2


namespace HT
open PySem PyProof.Rows

/-- t < u of tuples of ints -/
def lexLt : List Int → List Int → Bool
  | [], [] => false
  | [], _ :: _ => true
  | _ :: _, [] => false
  | x :: xs, y :: ys => if x = y then lexLt xs ys else decide (x < y)
section
open PySem.SeqAt
open PySem.AutoSeq1 (wpAny_loadPart')
open PySem.MeetsSeq PySem.MeetsSeq2 PySem.MeetsSeq3

end

section
variable {prog : Program} {w : World} {A : Around} {E : Value → Shared → Prop} {s : Shared}

/-- t + u, t not empty -/
theorem cat_tup {t b : Addr} {vs ws : List Value} {Q : Value → Shared → Prop} (ht : IsTup s.heap t vs.toArray) (hb : IsTup s.heap b ws.toArray) (hv : vs ≠ [])
    (h1 : ws = [] → Q (.ref t) s) (h2 : ws ≠ [] → Q (.ref s.heap.objs.size) { s with heap := s.heap.push { cls := .type "tuple", data := .seq (vs ++ ws).toArray } })
    (hsz : vs.length + ws.length ≤ sizeLine) : wpAny (model prog w) A (binaryOp .Add (.ref t) (.ref b)) Q E s := by
  obtain ⟨⟨cls, dd, data, sl⟩, ho, hc, n, hd⟩ := id ht
  obtain ⟨⟨cls2, dd2, data2, sl2⟩, ho2, hc2, n2, hd2⟩ := id hb
  simp only at hc hd hc2 hd2
  subst hc hd hc2 hd2
  have e : vs.toArray ++ ws.toArray = (vs ++ ws).toArray := by simp
  by_cases hw : ws = []
  · exact concat_meets ⟨_, ho, rfl⟩ ⟨_, ho2, rfl⟩ noFill_tuple_add seq_tuple_add PySem.F.slot_tuple_add PySem.F.entry_tuple_add (PySem.F.args_tuple_add_2 _ _)
      (tuple_addW1 t b vs.toArray ws.toArray n n2 dd dd2 sl sl2 (by simpa using hv) (by simp [hw])) ⟨ho, ho2, h1 hw⟩
  · refine concat_meets ⟨_, ho, rfl⟩ ⟨_, ho2, rfl⟩ noFill_tuple_add seq_tuple_add PySem.F.slot_tuple_add PySem.F.entry_tuple_add (PySem.F.args_tuple_add_2 _ _)
      (tuple_addW2 t b vs.toArray ws.toArray n n2 dd dd2 sl sl2 (by simpa using hv) (by simpa using hw) (by rw [List.size_toArray, List.size_toArray]; exact hsz)) ⟨ho, ho2, ?_⟩
    rw [e]
    exact h2 hw

/-! ### t[a:b], not the whole -/
/-- a slice's bound as a place among n (d where it is left out) -/
def sIx (n d : Nat) : Option Int → Nat
  | none => d
  | some v => if v < 0 then (v + (n : Int)).toNat else min v.toNat n
theorem sIx_le (n d : Nat) (hd : d ≤ n) (o : Option Int) : sIx n d o ≤ n := by
  cases o with
  | none => exact hd
  | some v =>
    show (if v < 0 then (v + (n : Int)).toNat else min v.toNat n) ≤ n
    by_cases hv : v < 0
    · rw [if_pos hv]; omega
    · rw [if_neg hv]; exact Nat.min_le_right _ _
theorem clip_eq (v : Int) (n d : Nat) : (if v < 0 then max (v + (n : Int)) 0 else min v (n : Int)) = ((sIx n d (some v) : Nat) : Int) := by
  show (if v < 0 then max (v + (n : Int)) 0 else min v (n : Int)) = (((if v < 0 then (v + (n : Int)).toNat else min v.toNat n) : Nat) : Int)
  by_cases hv : v < 0
  · simp only [if_pos hv]; omega
  · simp only [if_neg hv]; omega
theorem adjust_gen (lo hi : Option Int) (n : Nat) : Builtin.Slice.sliceAdjust lo hi 1 (n : Int) = (((sIx n 0 lo : Nat) : Int), ((sIx n n hi : Nat) : Int)) := by
  have h1 : ¬ ((1 : Int) < 0) := by omega
  unfold Builtin.Slice.sliceAdjust
  simp only [h1, if_false]
  refine Prod.ext ?_ ?_
  · cases lo with
    | none => rfl
    | some v => exact clip_eq v n 0
  · cases hi with
    | none => rfl
    | some v => exact clip_eq v n n
theorem places_gen (i j : Nat) : Builtin.Slice.slicePlaces (i : Int) (j : Int) 1 = j - i := by
  unfold Builtin.Slice.slicePlaces
  have h1 : (1 : Int) > 0 := by omega
  simp only [h1, if_true, Int.ediv_one]
  split <;> omega
theorem slicePart_ {v : Value} {o : Option Int} {Q : Option Int → Shared → Prop} (p : IsPart v o) (h : Q o s) : wpAny (model prog w) A (Builtin.Slice.slicePartIndex v) Q E s := by
  cases p with
  | none => exact slicePart_none h
  | int i t => exact slicePart_int h
theorem sliceApplied_gen {sl : Addr} {vl vu : Value} {lo hi : Option Int} {n : Nat} {Q : Int × Int × Nat → Shared → Prop} (hs : s.heap.IsSliceOf sl vl vu .none) (pl : IsPart vl lo) (pu : IsPart vu hi)
    (h : Q (((sIx n 0 lo : Nat) : Int), 1, sIx n n hi - sIx n 0 lo) s) : wpAny (model prog w) A (Builtin.Slice.sliceApplied (.ref sl) (pure (n : Int))) Q E s := by
  obtain ⟨os, hos, hcs, hds⟩ := id hs
  unfold Builtin.Slice.sliceApplied Builtin.Slice.sliceFields
  refine wpAny_bind (wpAny_bind (wpAny_field hos hds (x := vl) rfl (wpAny_bind (wpAny_field hos hds (x := vu) rfl (wpAny_bind (wpAny_field hos hds (x := .none) rfl (wpAny_pure ?_)))))))
  refine wpAny_bind (slicePart_none ?_)
  show wpAny _ _ (if ((1 : Int) == 0) = true then _ else _) _ _ s
  rw [if_neg (by decide)]
  refine wpAny_bind (slicePart_ pl (wpAny_bind (slicePart_ pu (wpAny_bind (wpAny_pure ?_)))))
  show wpAny _ _ (match Builtin.Slice.sliceAdjust lo hi 1 (n : Int) with | (lo, hi) => pure (lo, (1 : Int), Builtin.Slice.slicePlaces lo hi 1)) _ _ s
  rw [adjust_gen lo hi n]
  show wpAny _ _ (pure (((sIx n 0 lo : Nat) : Int), (1 : Int), Builtin.Slice.slicePlaces ((sIx n 0 lo : Nat) : Int) ((sIx n n hi : Nat) : Int) 1)) _ _ s
  rw [places_gen]
  exact wpAny_pure h
theorem pick_gen (xs : Array Value) (i k : Nat) : ((List.range k).filterMap fun (m : Nat) => xs[((i : Int) + (m : Int) * 1).toNat]?).toArray = ((xs.toList.drop i).take k).toArray := by
  have e : (fun (m : Nat) => xs[((i : Int) + (m : Int) * 1).toNat]?) = fun m => xs[i + m]? := by
    funext m
    have : ((i : Int) + (m : Int) * 1).toNat = i + m := by omega
    rw [this]
  rw [e]
  have := pick_run xs i k
  rw [List.filterMap_map] at this
  have e2 : ((fun x => xs[x]?) ∘ fun x => i + x) = fun m => xs[i + m]? := rfl
  rw [e2] at this
  rw [this]

theorem getItem_tuple_cut {t sl : Addr} {items : Array Value} {vl vu : Value} {lo hi : Option Int} {Q : Value → Shared → Prop} (ht : IsTup s.heap t items) (hs : s.heap.IsSliceOf sl vl vu .none) (pl : IsPart vl lo) (pu : IsPart vu hi)
    (hw : ¬ (sIx items.size 0 lo = 0 ∧ sIx items.size items.size hi = items.size))
    (h : Q (.ref s.heap.objs.size) { s with heap := s.heap.push { cls := .type "tuple", data := .seq ((items.toList.drop (sIx items.size 0 lo)).take (sIx items.size items.size hi - sIx items.size 0 lo)).toArray } })
    (hsz : items.size ≤ sizeLine) : wpAny (model prog w) A (getItem (.ref t) (.ref sl)) Q E s := by
  have htake : sizeOk (.seq ((items.toList.drop (sIx items.size 0 lo)).take (sIx items.size items.size hi - sIx items.size 0 lo)).toArray) := by
    show ((items.toList.drop (sIx items.size 0 lo)).take (sIx items.size items.size hi - sIx items.size 0 lo)).toArray.size ≤ sizeLine
    rw [List.size_toArray, List.length_take, List.length_drop, Array.length_toList]
    omega
  have hj : sIx items.size items.size hi ≤ items.size := sIx_le _ _ (Nat.le_refl _) hi
  obtain ⟨os, hos, hcs, hds⟩ := id hs
  have hTs : s.TypeIs (.ref sl) "slice" := ⟨os, hos, hcs⟩
  unfold getItem
  try with_reducible refine wpAny_holding ?_
  first | refine wpAny_bind (wpAny_pure ?_) | skip
  refine wpAny_bind (wpAny_sequenceKey ht.typeIs (by decide) ?_)
  refine wpAny_bind (wpAny_callSpecial?_slot (name := Str.ofString "__getitem__") ht.typeIs PyProof.Rows.slot_tuple_getitem
    (wpAny_call_entry PyProof.Rows.slot_tuple_getitem ht.typeIs entry_tuple_getitem ?_ (args_tuple_getitem _ _)))
  show wpAny _ _ (Builtin.Tuple.tupleItemsOf (.ref t) >>= _) _ _ s
  refine wpAny_bind (tupleItemsOf_ ht ?_)
  refine wpAny_bind (wpAny_typeOf hTs ?_)
  rw [if_pos (by decide)]
  refine wpAny_bind (sliceApplied_gen hs pl pu ?_)
  have hno : ¬ ((((sIx items.size 0 lo : Nat) : Int) == 0 && (1 : Int) == 1 && (sIx items.size items.size hi - sIx items.size 0 lo) == items.size) = true) := by
    intro q
    rw [Bool.and_eq_true, Bool.and_eq_true] at q
    have q1 : ((sIx items.size 0 lo : Nat) : Int) = 0 := eq_of_beq q.1.1
    have q2 : sIx items.size items.size hi - sIx items.size 0 lo = items.size := eq_of_beq q.2
    exact hw ⟨by omega, by omega⟩
  show wpAny _ _ (if (((sIx items.size 0 lo : Nat) : Int) == 0 && (1 : Int) == 1 && (sIx items.size items.size hi - sIx items.size 0 lo) == items.size) = true then _ else _) _ _ s
  rw [if_neg hno, pick_gen]
  first
    | exact wpAny_bind (m := Builtin.Tuple.tupleExact _) (wpAny_newObj_type (wpAny_pure ⟨_, rfl, wpAny_pure h⟩) htake)
    | exact wpAny_bind (m := Builtin.Tuple.tupleExact _) (wpAny_newObj_type (wpAny_bind (wpAny_pure (wpAny_pure ⟨_, rfl, wpAny_pure h⟩))) htake)
    | exact wpAny_bind (wpAny_bind (m := Builtin.Tuple.tupleExact _) (wpAny_newObj_type (wpAny_pure (wpAny_pure ⟨_, rfl, wpAny_pure h⟩)) htake))
    | exact wpAny_bind (wpAny_bind (m := Builtin.Tuple.tupleExact _) (wpAny_newObj_type (wpAny_pure ⟨_, rfl, wpAny_pure h⟩) htake))
end
end HT

namespace L2
open PySem PySem.Spec PyProof.Rows

/-! ### the parts of a slice -/
abbrev TO := St → Hp → (Option Int → Hp → Prop) → Prop
/-- a slice's part (left out, or an int) -/
def PO (X : Cx) (e : Option Expr) (t : TO) : Prop :=
  ∀ (pins : List (Addr × Obj)) (s : Shared) (σ : St) (H : Hp) (Q : Option Int → Hp → Prop), Inv X pins σ H s → t σ H Q →
    wpAny (model X.prog X.w) X.A (evalPart e X.env) (fun u s' => ∃ o H', Inv X pins σ H' s' ∧ IsPart u o ∧ Q o H') X.xe s
def tNoPart : TO := fun _ H Q => Q none H
def tPart (t : TE) : TO := fun σ H Q => t σ H fun x H1 => ∃ i, x = .int i ∧ Q (some i) H1

section
variable {X : Cx} {e : Expr} {te : TE} {lo hi : Option Expr} {tl th : TO} {pos p2 : Pos}

theorem po_none : PO X none tNoPart := by
  intro pins s σ H Q I h
  rw [evalPart_none]
  exact wpAny_pure ⟨none, H, I, .none, h⟩
theorem po_some (h : PE X e te) : PO X (some e) (tPart te) := by
  intro pins s σ H Q I hw
  rw [evalPart_some]
  refine thn (h pins s σ H _ I hw) fun u s1 ⟨x, H1, I1, r1, q1⟩ => ?_
  obtain ⟨i, rfl, q⟩ := q1
  obtain ⟨t, rfl⟩ := r1
  exact ⟨some i, H1, I1, .int i t, q⟩

/-- what a slice of a value is, by values: the slice object stands at sl -/
def SlR (X : Cx) (r : V → Option Int → Option Int → Hp → VK → Prop) : Prop :=
  ∀ (pins : List (Addr × Obj)) (s : Shared) (σ : St) (H : Hp) (x : V) (v vl vu : Value) (lo hi : Option Int) (sl : Addr) (Q : VK), Inv X pins σ H s → RelV x v → s.heap.IsSliceOf sl vl vu .none → IsPart vl lo → IsPart vu hi → r x lo hi H Q →
    ∃ T id, typeLookup (.type T) "__getitem__" = pure (some (.builtin id)) ∧ s.TypeIs v T ∧ wpAny (model X.prog X.w) X.A (getItem v (.ref sl)) (EP X pins σ Q) X.xe s
theorem SlR.or {r r' : V → Option Int → Option Int → Hp → VK → Prop} (h : SlR X r) (h' : SlR X r') : SlR X (fun x lo hi H Q => r x lo hi H Q ∨ r' x lo hi H Q) := by
  intro pins s σ H x v vl vu lo hi sl Q I rx hs pl pu q
  rcases q with q | q
  · exact h pins s σ H x v vl vu lo hi sl Q I rx hs pl pu q
  · exact h' pins s σ H x v vl vu lo hi sl Q I rx hs pl pu q
def tSl (r : V → Option Int → Option Int → Hp → VK → Prop) (te : TE) (tl th : TO) : TE := fun σ H Q => te σ H fun x H1 => tl σ H1 fun l H2 => th σ H2 fun u H3 => r x l u H3 Q
/-- a[lo:hi], any a -/
theorem pe_slice {r : V → Option Int → Option Int → Hp → VK → Prop} (hr : SlR X r) (he : PE X e te) (hl : PO X lo tl) (hu : PO X hi th) : PE X (.Subscript e (.Slice lo hi none p2) pos) (tSl r te tl th) := by
  intro pins s σ H Q I h
  refine Subscript_ (thn (he pins s σ H _ I h) fun v s1 ⟨x, H1, I1, r1, q1⟩ => ?_)
  refine wpAny_Slice (thn (hl pins s1 σ H1 _ I1 q1) fun vl s2 ⟨l, H2, I2, pl, q2⟩ => thn (hu pins s2 σ H2 _ I2 q2) fun vu s3 ⟨u, H3, I3, pu, q3⟩ => ?_)
  rw [evalPart_none]
  refine wpAny_pure ?_
  have I4 : Inv X pins σ H3 { s3 with heap := s3.heap.push { cls := .type "slice", data := .fields #[vl, vu, .none] } } := I3.kept (t' := s3.toks) fun b ob q => Heap.get?_push_of_some _ q
  obtain ⟨T, id, hT, ht, hg⟩ := hr pins { s3 with heap := s3.heap.push { cls := .type "slice", data := .fields #[vl, vu, .none] } } σ H3 x v vl vu l u s3.heap.objs.size Q I4 r1 (Heap.IsSliceOf.new ..) pl pu q3
  show wpAny (model X.prog X.w) X.A (subscriptTail e (.Slice lo hi none p2) v (.ref s3.heap.objs.size)) (EP X pins σ Q) X.xe { s3 with heap := s3.heap.push { cls := .type "slice", data := .fields #[vl, vu, .none] } }
  exact tail_any (ops := [.ref s3.heap.objs.size, v]) ht hT hg (by with_unfolding_all rfl)

/-- the items of xs[lo:hi] -/
def cutV (xs : List V) (lo hi : Option Int) : List V := (xs.drop (HT.sIx xs.length 0 lo)).take (HT.sIx xs.length xs.length hi - HT.sIx xs.length 0 lo)
theorem cutV_length (xs : List V) (lo hi : Option Int) : (cutV xs lo hi).length ≤ xs.length := by
  unfold cutV
  rw [List.length_take, List.length_drop]
  omega
/-- t[lo:hi], not the whole of it (the whole would be t itself) -/
def rSlT (K : PySem.W.Frag) : V → Option Int → Option Int → Hp → VK → Prop := fun x lo hi H Q => ∃ a xs, x = .ref a ∧ SqT K H a xs ∧
  ¬ (HT.sIx xs.length 0 lo = 0 ∧ HT.sIx xs.length xs.length hi = xs.length) ∧ ∀ p, H p = none → Q (.ref p) (upd H p (.tup (cutV xs lo hi)))
theorem sl_tup : SlR X (rSlT X.K) := by
  intro pins s σ H x v vl vu lo hi sl Q I rx hs pl pu h
  obtain ⟨a, xs, rfl, hx, hw, q⟩ := h
  cases rx
  obtain ⟨its, r, ht, hz⟩ := I.tuple hx
  have hlen : its.toArray.size = xs.length := by rw [List.size_toArray]; exact r.length.symm
  refine ⟨"tuple", _, PyProof.Rows.slot_tuple_getitem.lookup, ht.typeIs, ?_⟩
  refine HT.getItem_tuple_cut ht hs pl pu (by rw [hlen]; exact hw) ?_ (by rw [hlen]; exact hz)
  rw [hlen]
  refine ⟨.ref s.heap.objs.size, _, I.laid (t' := s.toks) (o := .tup (cutV xs lo hi)) (fun b ob q => Heap.get?_push_of_some _ q) (Nat.le_refl _) ?_, rfl, q _ (I.hok.fresh (Nat.le_refl _))⟩
  exact ⟨Nat.le_trans (cutV_length xs lo hi) hz, _, (r.drop (HT.sIx xs.length 0 lo)).take (HT.sIx xs.length xs.length hi - HT.sIx xs.length 0 lo), IsTup.new _ _⟩

/-! ### t < u, t + u -/
def rLtT (K : PySem.W.Frag) : R2 := fun x y H Q => ∃ a b ns ms, x = .ref a ∧ y = .ref b ∧ SqT K H a (ns.map V.int) ∧ SqT K H b (ms.map V.int) ∧ Q (.bl (HT.lexLt ns ms)) H
/-- t + u, t not empty: u empty gives t itself -/
def rCatT (K : PySem.W.Frag) : R2 := fun x y H Q => ∃ a b xs ys, x = .ref a ∧ y = .ref b ∧ SqT K H a xs ∧ SqT K H b ys ∧ xs ≠ [] ∧ xs.length + ys.length ≤ sizeLine ∧
  (ys = [] → Q (.ref a) H) ∧ (ys ≠ [] → ∀ p, H p = none → Q (.ref p) (upd H p (.tup (xs ++ ys))))
theorem Vals.nil_iff {xs : List V} {us : List Value} (r : Vals xs us) : us = [] ↔ xs = [] := by
  cases r with
  | nil => simp
  | cons _ _ => simp
end
end L2

namespace L2
open PySem PySem.Spec PyProof.Rows

/-! ### places -/
/-- the place that an index of any sign means -/
def ixN (n : Nat) (i : Int) : Option Nat := if 0 ≤ i then (if i < n then some i.toNat else none) else if -(n : Int) ≤ i then some (i + n).toNat else none
def atI {α : Type} (xs : List α) (i : Int) : Option α := (ixN xs.length i).bind fun j => xs[j]?
theorem ixN_seq {n : Nat} {i : Int} {j : Nat} (h : ixN n i = some j) : seqIndex? i n = some j ∧ j < n ∧ -(n : Int) ≤ i ∧ i < n := by
  unfold ixN at h
  by_cases h0 : 0 ≤ i
  · rw [if_pos h0] at h
    by_cases h1 : i < n
    · rw [if_pos h1] at h
      have e : i.toNat = j := Option.some.inj h
      exact ⟨by rw [seqIndex_of h0 h1, e], by omega, by omega, h1⟩
    · rw [if_neg h1] at h; cases h
  · rw [if_neg h0] at h
    by_cases h1 : -(n : Int) ≤ i
    · rw [if_pos h1] at h
      have e : (i + n).toNat = j := Option.some.inj h
      exact ⟨by rw [seqIndex_neg (by omega) h1, e], by omega, h1, by omega⟩
    · rw [if_neg h1] at h; cases h
theorem atI_get {α : Type} {xs : List α} {i : Int} {v : α} (h : atI xs i = some v) : ∃ j, seqIndex? i xs.length = some j ∧ xs[j]? = some v ∧ j < xs.length ∧ -(xs.length : Int) ≤ i ∧ i < xs.length := by
  unfold atI at h
  cases e : ixN xs.length i with
  | none => rw [e] at h; cases h
  | some j =>
    rw [e] at h
    obtain ⟨h1, h2, h3, h4⟩ := ixN_seq e
    exact ⟨j, h1, h, h2, h3, h4⟩
/-! ### what may be subscripted -/
/-- what stands as an index of a plain subscript -/
def PlainIx (b : Expr) : Prop := ∀ o i, subscripted b false o i = operate [o, i] (getItem o i)
/-- a subscript by values -/
def IxR (X : Cx) (r : R2) : Prop :=
  ∀ (value slice : Expr) (pins : List (Addr × Obj)) (s : Shared) (σ : St) (H : Hp) (x y : V) (v u : Value) (Q : VK), Inv X pins σ H s → RelV x v → RelV y u → r x y H Q →
    subscripted slice false v u = operate [v, u] (getItem v u) → wpAny (model X.prog X.w) X.A (subscriptTail value slice v u) (EP X pins σ Q) X.xe s
/-- a call of a builtin's method by values: the receiver, the arguments -/
def MtR (X : Cx) (id : String) (r : V → List V → Hp → VK → Prop) : Prop :=
  ∀ (pins : List (Addr × Obj)) (s : Shared) (σ : St) (H : Hp) (x : V) (xs : List V) (v : Value) (us : List Value) (Q : VK), Inv X pins σ H s → RelV x v → Vals xs us → r x xs H Q →
    wpAny (model X.prog X.w) X.A (call (.builtin id) (v :: us)) (EP X pins σ Q) X.xe s
section
variable {X : Cx} {a b : Expr} {ta tb : TE} {pos : Pos}
theorem IxR.or {r r' : R2} (h : IxR X r) (h' : IxR X r') : IxR X (fun x y H Q => r x y H Q ∨ r' x y H Q) := by
  intro value slice pins s σ H x y v u Q I rx ry q hs
  rcases q with q | q
  · exact h value slice pins s σ H x y v u Q I rx ry q hs
  · exact h' value slice pins s σ H x y v u Q I rx ry q hs
/-- a[b] -/
theorem pe_ix {r : R2} (hr : IxR X r) (ha : PE X a ta) (hb : PE X b tb) (hs : PlainIx b) : PE X (.Subscript a b pos) (tOp r ta tb) := by
  intro pins s σ H Q I h
  exact Subscript_ (binT ha hb I h fun v u s2 x y H2 I2 rx ry q => hr a b pins s2 σ H2 x y v u Q I2 rx ry q (hs _ _))

def rIxL (K : PySem.W.Frag) : R2 := fun x y H Q => ∃ p xs i v, x = .ref p ∧ y = .int i ∧ SqL K H p xs ∧ atI xs i = some v ∧ Q v H
def rIxT (K : PySem.W.Frag) : R2 := fun x y H Q => ∃ p xs i v, x = .ref p ∧ y = .int i ∧ SqT K H p xs ∧ atI xs i = some v ∧ Q v H
def rIxS : R2 := fun x y H Q => ∃ z i c, x = .str z ∧ y = .int i ∧ z.length ≤ sizeLine ∧ atI z.cps.toList i = some c ∧ Q (.str ⟨#[c]⟩) H
theorem ix_list : IxR X (rIxL X.K) := by
  intro value slice pins s σ H x y v u Q I rx ry h hs
  obtain ⟨p, xs, i, z, rfl, rfl, hq, he, q⟩ := h
  cases rx
  obtain ⟨t, rfl⟩ := ry
  obtain ⟨its, r, pl, hz⟩ := I.list hq
  obtain ⟨j, h1, h2, h3, h4, h5⟩ := atI_get he
  obtain ⟨w, ew, rw'⟩ := r.get h2
  have hl := r.length
  have hn := line63
  have fin : EP X pins σ Q w s := ⟨z, H, I, rw', q⟩
  by_cases h0 : 0 ≤ i
  · have hj : i.toNat = j := by
      rw [seqIndex_of h0 h5] at h1
      exact Option.some.inj h1
    exact item_listR pl.isList h0 (by omega) (by rw [hj]; simpa using ew) fin hs
  · have hj : (i + (its.toArray.size : Int)).toNat = j := by
      rw [seqIndex_neg (by omega) h4] at h1
      rw [List.size_toArray, ← hl]
      exact Option.some.inj h1
    exact subscriptTail_builtinR (x := w) pl.isList.typeIs slot_list_getitem.lookup
      (wpAny_getItem_list_neg (Q := fun r s' => r = w ∧ EP X pins σ Q r s') pl.isList (by omega) (by rw [List.size_toArray] <;> omega) (by omega) (by rw [hj]; simpa using ew) ⟨rfl, fin⟩) hs
theorem ix_tup : IxR X (rIxT X.K) := by
  intro value slice pins s σ H x y v u Q I rx ry h hs
  obtain ⟨p, xs, i, z, rfl, rfl, hq, he, q⟩ := h
  cases rx
  obtain ⟨t, rfl⟩ := ry
  obtain ⟨its, r, pl, hz⟩ := I.tuple hq
  obtain ⟨j, h1, h2, h3, h4, h5⟩ := atI_get he
  obtain ⟨w, ew, rw'⟩ := r.get h2
  have hl := r.length
  have hn := line63
  have fin : EP X pins σ Q w s := ⟨z, H, I, rw', q⟩
  exact subscriptTail_builtinR (x := w) pl.typeIs slot_tuple_getitem.lookup
    (getItem_tuple (j := j) (Q := fun r s' => r = w ∧ EP X pins σ Q r s') pl (by omega) (by omega) (by rw [List.size_toArray, ← hl]; exact h1) (by simpa using ew) ⟨rfl, fin⟩) hs
/-- list, tuple or str -/
def rIx (K : PySem.W.Frag) : R2 := fun x y H Q => rIxL K x y H Q ∨ rIxT K x y H Q ∨ rIxS x y H Q
/-! ### xs[i] = v, any sign -/
/-- the list's object behind a store -/
theorem mapSeq_set (its : List Value) (n j : Nat) (u : Value) : Obj.mapSeq (·.setIfInBounds j u) { cls := .type "list", data := .seq its.toArray n } = { cls := .type "list", data := .seq (its.set j u).toArray n } := by
  simp [Obj.mapSeq]
theorem Inv.lst {pins : List (Addr × Obj)} {σ : St} {H : Hp} {s : Shared} {p : Addr} {xs : List V} (I : Inv X pins σ H s) (h : H p = some (.lst xs)) :
    ∃ (its : List Value) (n : Nat), Vals xs its ∧ s.heap.get? p = some { cls := .type "list", data := .seq its.toArray n } ∧ xs.length ≤ sizeLine := by
  obtain ⟨z, its, n, r, e⟩ := I.hok p _ h
  exact ⟨its, n, r, e, z⟩
/-- the list at p is written by an update of its object -/
theorem Inv.lstUpd {pins : List (Addr × Obj)} {σ : St} {H : Hp} {s : Shared} {p : Addr} {xs ys : List V} {its its' : List Value} {n n' : Nat} {f : Obj → Obj} (I : Inv X pins σ H s) (h : H p = some (.lst xs))
    (ho : s.heap.get? p = some { cls := .type "list", data := .seq its.toArray n }) (hf : f { cls := .type "list", data := .seq its.toArray n } = { cls := .type "list", data := .seq its'.toArray n' }) (r : Vals ys its') (hz : ys.length ≤ sizeLine) (t : Nat) :
    Inv X pins σ (upd H p (.lst ys)) { s with heap := s.heap.update p f, toks := t } := by
  have e : (s.heap.update p f).get? p = some { cls := .type "list", data := .seq its'.toArray n' } := by
    rw [Heap.get?_update_self f ho (by rw [hf] <;> rfl), hf]
  refine I.write (x := p) (e := p) (by rw [h]; trivial) (.inl rfl) (fun b u hb q => (Heap.get?_update_other _ _ (Ne.symm hb)).trans q) ⟨_, e⟩ ?_
  exact ⟨hz, its', n', r, e⟩
def rSetL : V → V → V → Hp → (Hp → Prop) → Prop := fun o i v H Q => ∃ p xs k j, o = .ref p ∧ i = .int k ∧ H p = some (.lst xs) ∧ ixN xs.length k = some j ∧ Q (upd H p (.lst (xs.set j v)))
theorem set_list : PSet X rSetL := by
  intro pins s σ H o i v ov iv u Q I ro ri rv h
  obtain ⟨p, xs, k, j, rfl, rfl, hp, hj, q⟩ := h
  cases ro
  obtain ⟨t, rfl⟩ := ri
  obtain ⟨its, n, r, ho, hz⟩ := I.lst hp
  obtain ⟨h1, h2, h3, h4⟩ := ixN_seq hj
  have hl := r.length
  have hn := line63
  have I' : Inv X pins σ (upd H p (.lst (xs.set j v))) { s with heap := s.heap.update p (Obj.mapSeq (·.setIfInBounds j u)) } :=
    I.lstUpd hp ho (mapSeq_set its n j u) (r.set rv j) (by rw [List.length_set]; exact hz) s.toks
  by_cases h0 : 0 ≤ k
  · have hk : k.toNat = j := by
      rw [seqIndex_of h0 h4] at h1
      exact Option.some.inj h1
    exact PySem.W.ki_setAt ho h0 (by omega) (by rw [List.size_toArray, ← hl]; exact h4) (by rw [hk]; exact ⟨_, I', q⟩)
  · have hk : (k + (its.toArray.size : Int)).toNat = j := by
      rw [seqIndex_neg (by omega) h3] at h1
      rw [List.size_toArray, ← hl]
      exact Option.some.inj h1
    exact PySem.W.ki_setBack ho (by omega) (by rw [List.size_toArray, ← hl]; exact h3) (by omega) (by rw [hk]; exact ⟨_, I', q⟩)

/-! ### slices -/
theorem slice_bounds (lo hi : Option Int) (n : Nat) : (sliceBounds lo hi none n).1 = ((HT.sIx n 0 lo : Nat) : Int) ∧ (sliceBounds lo hi none n).2.1 = ((HT.sIx n n hi : Nat) : Int) ∧ (sliceBounds lo hi none n).2.2 = 1 := by
  refine ⟨?_, ?_, rfl⟩
  · cases lo with
    | none => simp [sliceBounds, HT.sIx]
    | some i =>
      simp only [sliceBounds, HT.sIx, Option.getD_none, show (1 : Int) > 0 by decide, if_true]
      by_cases h : i < 0
      · simp only [h, if_true] <;> omega
      · simp only [h, if_false] <;> omega
  · cases hi with
    | none => simp [sliceBounds, HT.sIx]
    | some i =>
      simp only [sliceBounds, HT.sIx, Option.getD_none, show (1 : Int) > 0 by decide, if_true]
      by_cases h : i < 0
      · simp only [h, if_true] <;> omega
      · simp only [h, if_false] <;> omega
theorem slicePick_cut (its : List Value) (lo hi : Option Int) : slicePick its.toArray lo hi none = ((its.drop (HT.sIx its.length 0 lo)).take (HT.sIx its.length its.length hi - HT.sIx its.length 0 lo)).toArray := by
  obtain ⟨h1, h2, h3⟩ := slice_bounds lo hi its.toArray.size
  unfold slicePick
  rw [h1, h2, h3]
  simp only [sliceRange_one, pick_run, List.size_toArray] <;> rfl
/-- xs[lo:hi] of a list: a new list -/
def rSlL (K : PySem.W.Frag) : V → Option Int → Option Int → Hp → VK → Prop := fun x lo hi H Q => ∃ a xs, x = .ref a ∧ SqL K H a xs ∧ ∀ p, H p = none → Q (.ref p) (upd H p (.lst (cutV xs lo hi)))
theorem sl_list : SlR X (rSlL X.K) := by
  intro pins s σ H x v vl vu lo hi sl Q I rx hs pl pu h
  obtain ⟨a, xs, rfl, hx, q⟩ := h
  cases rx
  obtain ⟨its, r, ht, hz⟩ := I.list hx
  have hlen := r.length
  refine ⟨"list", _, slot_list_getitem.lookup, ht.isList.typeIs, ?_⟩
  refine wpAny_getItem_list_slice ht.isList hs pl pu .none (by simp) ?_ (by rw [List.size_toArray] <;> omega)
  rw [slicePick_cut, ← hlen]
  refine ⟨.ref s.heap.objs.size, _, I.laid (t' := s.toks) (o := .lst (cutV xs lo hi)) (fun b ob q => Heap.get?_push_of_some _ q) (Nat.le_refl _) ?_, rfl, q _ (I.hok.fresh (Nat.le_refl _))⟩
  exact ⟨Nat.le_trans (cutV_length xs lo hi) hz, _, 0, (r.drop (HT.sIx xs.length 0 lo)).take (HT.sIx xs.length xs.length hi - HT.sIx xs.length 0 lo), Heap.get?_push_size _ rfl⟩

/-! ### in, not in: flat items -/
def flatV : V → Bool
  | .non => true
  | .bl _ => true
  | .int _ => true
  | .str _ => true
  | _ => false
/-- == of flat values -/
def eqV : V → V → Bool
  | .non, .non => true
  | .bl a, .bl b => a == b
  | .bl a, .int b => (if a then 1 else 0) == b
  | .int a, .bl b => a == (if b then 1 else 0)
  | .int a, .int b => a == b
  | .str a, .str b => a == b
  | _, _ => false
theorem eqAt_V {A : Around} {s : Shared} {y x : V} {u v : Value} (ry : RelV y u) (rx : RelV x v) (fy : flatV y = true) (fx : flatV x = true) : SeqAt.EqAt A s u v (eqV y x) := by
  cases y with
  | non =>
    cases ry
    cases x with
    | non => cases rx; exact SeqAt.EqAt.same _
    | bl b => cases rx; exact SeqAt.EqAt.none_bool b
    | int b => obtain ⟨t, rfl⟩ := rx; exact SeqAt.EqAt.none_int b t
    | str b => obtain ⟨t, rfl⟩ := rx; exact SeqAt.EqAt.none_str b t
    | _ => exact absurd (show false = true from fx) Bool.false_ne_true
  | bl a =>
    cases ry
    cases x with
    | non => cases rx; exact SeqAt.EqAt.bool_none a
    | bl b => cases rx; exact SeqAt.EqAt.bool_bool a b
    | int b => obtain ⟨t, rfl⟩ := rx; exact SeqAt.EqAt.bool_int a b t
    | str b => obtain ⟨t, rfl⟩ := rx; exact SeqAt.EqAt.bool_str a b t
    | _ => exact absurd (show false = true from fx) Bool.false_ne_true
  | int a =>
    obtain ⟨t', rfl⟩ := ry
    cases x with
    | non => cases rx; exact SeqAt.EqAt.int_none a t'
    | bl b => cases rx; exact SeqAt.EqAt.int_bool a t' b
    | int b => obtain ⟨t, rfl⟩ := rx; exact SeqAt.EqAt.int_int a t' b t
    | str b => obtain ⟨t, rfl⟩ := rx; exact SeqAt.EqAt.int_str a t' b t
    | _ => exact absurd (show false = true from fx) Bool.false_ne_true
  | str a =>
    obtain ⟨t', rfl⟩ := ry
    cases x with
    | non => cases rx; exact SeqAt.EqAt.str_none a t'
    | bl b => cases rx; exact SeqAt.EqAt.str_bool a t' b
    | int b => obtain ⟨t, rfl⟩ := rx; exact SeqAt.EqAt.str_int a t' b t
    | str b => obtain ⟨t, rfl⟩ := rx; exact SeqAt.EqAt.str_str a t' b t
    | _ => exact absurd (show false = true from fx) Bool.false_ne_true
  | _ => exact absurd (show false = true from fy) Bool.false_ne_true
/-- the items' answers, read off the values (a value's own answer does not lean on its token) -/
def eqU (x : V) (u : Value) : Bool := match u with
  | .none => eqV .non x
  | .bool b => eqV (.bl b) x
  | .int i _ => eqV (.int i) x
  | .str z _ => eqV (.str z) x
  | _ => false
theorem eqU_of {x y : V} {u : Value} (r : RelV y u) (f : flatV y = true) : eqU x u = eqV y x := by
  cases y with
  | non => cases r; rfl
  | bl b => cases r; rfl
  | int i => obtain ⟨t, rfl⟩ := r; rfl
  | str z => obtain ⟨t, rfl⟩ := r; rfl
  | _ => exact absurd (show false = true from f) Bool.false_ne_true
theorem any_eqU {x : V} : ∀ {xs : List V} {us : List Value}, Vals xs us → xs.all flatV = true → us.any (eqU x) = xs.any fun y => eqV y x
  | _, _, .nil, _ => rfl
  | y :: xs, u :: us, .cons r t, f => by
    rw [List.all_cons, Bool.and_eq_true] at f
    rw [List.any_cons, List.any_cons, eqU_of r f.1, any_eqU t f.2]
theorem mem_eqAt {A : Around} {s : Shared} {x : V} {v : Value} (rx : RelV x v) (fx : flatV x = true) : ∀ {xs : List V} {us : List Value}, Vals xs us → xs.all flatV = true → ∀ u ∈ us, SeqAt.EqAt A s u v (eqU x u)
  | _, _, .nil, _ => fun u hu => by cases hu
  | y :: xs, u :: us, .cons r t, f => fun u' hu => by
    rw [List.all_cons, Bool.and_eq_true] at f
    rcases List.mem_cons.mp hu with rfl | hu
    · rw [eqU_of r f.1]; exact eqAt_V r rx f.1 fx
    · exact mem_eqAt rx fx t f.2 u' hu
def inV (x : V) (xs : List V) : Bool := xs.any fun y => eqV y x
/-- x in a list or tuple of flat items -/
def rIn (K : PySem.W.Frag) (neg : Bool) : R2 := fun x y H Q => ∃ p xs, y = .ref p ∧ (SqL K H p xs ∨ SqT K H p xs) ∧ flatV x = true ∧ xs.all flatV = true ∧ Q (.bl (if neg then !inV x xs else inV x xs)) H
theorem op_in_seq : OpR X (compareOp .In) (rIn X.K false) := by
  intro pins s σ H x y v u Q I rx ry h
  obtain ⟨p, xs, rfl, hq, fx, fs, q⟩ := h
  cases ry
  rcases hq with hq | hq
  · obtain ⟨its, r, pl, hz⟩ := I.list hq
    refine SeqAt.in_listAt (eqU x) pl.isList (fun w hw => mem_eqAt rx fx r fs w (by simpa using hw)) ⟨.bl _, H, I, rfl, ?_⟩
    rw [show its.toArray.any (eqU x) = its.any (eqU x) by simp, any_eqU r fs]
    exact q
  · obtain ⟨its, r, pl, hz⟩ := I.tuple hq
    refine SeqAt.in_tupleAt (eqU x) pl (fun w hw => mem_eqAt rx fx r fs w (by simpa using hw)) ⟨.bl _, H, I, rfl, ?_⟩
    rw [show its.toArray.any (eqU x) = its.any (eqU x) by simp, any_eqU r fs]
    exact q
theorem op_notIn_seq : OpR X (compareOp .NotIn) (rIn X.K true) := by
  intro pins s σ H x y v u Q I rx ry h
  obtain ⟨p, xs, rfl, hq, fx, fs, q⟩ := h
  cases ry
  rcases hq with hq | hq
  · obtain ⟨its, r, pl, hz⟩ := I.list hq
    refine SeqAt.notIn_listAt (eqU x) pl.isList (fun w hw => mem_eqAt rx fx r fs w (by simpa using hw)) ⟨.bl _, H, I, rfl, ?_⟩
    rw [show its.toArray.any (eqU x) = its.any (eqU x) by simp, any_eqU r fs]
    exact q
  · obtain ⟨its, r, pl, hz⟩ := I.tuple hq
    refine SeqAt.notIn_tupleAt (eqU x) pl (fun w hw => mem_eqAt rx fx r fs w (by simpa using hw)) ⟨.bl _, H, I, rfl, ?_⟩
    rw [show its.toArray.any (eqU x) = its.any (eqU x) by simp, any_eqU r fs]
    exact q
theorem op_notIn_str : OpR X (compareOp .NotIn) (fun x y H Q => ∃ i j, x = .str i ∧ y = .str j ∧ Q (.bl (!(!(Builtin.Str.occurrences j i 0 j.length 1).isEmpty))) H) := by
  intro pins s σ H x y v u Q I rx ry h
  obtain ⟨i, j, rfl, rfl, q⟩ := h
  obtain ⟨t, rfl⟩ := rx
  obtain ⟨t', rfl⟩ := ry
  exact notIn_str ⟨.bl _, H, I, rfl, q⟩

/-! ### len, list(x), tuple(x) of any list or tuple that is read -/
theorem CallR.or {f : Value} {r r' : List V → Hp → VK → Prop} (h : CallR X f r) (h' : CallR X f r') : CallR X f (fun xs H Q => r xs H Q ∨ r' xs H Q) := by
  intro pins s σ H xs us Q I rs q
  rcases q with q | q
  · exact h pins s σ H xs us Q I rs q
  · exact h' pins s σ H xs us Q I rs q
theorem call_list_of : CallR X (.type "list") (fun xs H Q => ∃ p ys, xs = [.ref p] ∧ (SqL X.K H p ys ∨ SqT X.K H p ys) ∧ ∀ l, H l = none → Q (.ref l) (upd H l (.lst ys))) := by
  intro pins s σ H xs us Q I r h
  obtain ⟨p, ys, rfl, hq, q⟩ := h
  obtain ⟨u, rfl, rx⟩ := vals1 r
  cases rx
  have fin : ∀ (its : List Value), Vals ys its → ys.length ≤ sizeLine → ∀ (h' : Heap) (c' : Nat), (∀ b o', s.heap.get? b = some o' → h'.get? b = some o') →
      h'.get? s.heap.objs.size = some { cls := .type "list", dict := none, data := .seq its.toArray c', slots := #[] } → EP X pins σ Q (.ref s.heap.objs.size) { s with heap := h' } := fun its r' hz h' c' kp e =>
    ⟨.ref s.heap.objs.size, _, I.laid (t' := s.toks) kp (Nat.le_refl _) (show ObjOk X.prog X.w _ h' _ (.lst ys) from ⟨hz, its, c', r', e⟩), rfl, q _ (I.hok.fresh (Nat.le_refl _))⟩
  rcases hq with hq | hq
  · obtain ⟨its, r', pl, hz⟩ := I.list hq
    have hlen := r'.length
    obtain ⟨o, ho, hc, n, hd⟩ := pl.isList
    exact call_list_seq p (.inl rfl) ho hc hd (fun h' c' kp e => fin its r' hz h' c' kp e) (by simp only [List.size_toArray] <;> omega)
  · obtain ⟨its, r', pl, hz⟩ := I.tuple hq
    have hlen := r'.length
    obtain ⟨o, ho, hc, n, hd⟩ := pl
    exact call_list_seq p (.inr rfl) ho hc hd (fun h' c' kp e => fin its r' hz h' c' kp e) (by simp only [List.size_toArray] <;> omega)
theorem call_tuple_of : CallR X (.type "tuple") (fun xs H Q => ∃ p ys, xs = [.ref p] ∧ ((SqL X.K H p ys ∧ ∀ l, H l = none → Q (.ref l) (upd H l (.tup ys))) ∨ (SqT X.K H p ys ∧ Q (.ref p) H))) := by
  intro pins s σ H xs us Q I r h
  obtain ⟨p, ys, rfl, h⟩ := h
  obtain ⟨u, rfl, rx⟩ := vals1 r
  cases rx
  rcases h with ⟨hq, q⟩ | ⟨hq, q⟩
  · obtain ⟨its, r', pl, hz⟩ := I.list hq
    have hlen := r'.length
    refine call_tuple_list pl.isList (fun h' kp => ?_) (by simp only [List.size_toArray] <;> omega)
    have I1 : Inv X pins σ H { s with heap := h' } := I.kept (t' := s.toks) kp
    have I2 : Inv X pins σ (upd H h'.objs.size (.tup ys)) { s with heap := h'.push { cls := .type "tuple", data := .seq its.toArray } } :=
      I1.laid (t' := s.toks) (fun b o e => Heap.get?_push_of_some _ e) (Nat.le_refl _) (show ObjOk X.prog X.w _ _ _ (.tup ys) from ⟨hz, its, r', IsTup.new _ _⟩)
    exact ⟨.ref h'.objs.size, _, I2, rfl, q _ (I1.hok.fresh (Nat.le_refl _))⟩
  · obtain ⟨its, r', pl, hz⟩ := I.tuple hq
    exact call_tuple_same pl ⟨.ref p, H, I, rfl, q⟩

/-! ### the call of a builtin's method: o.m(..) -/
/-- the value is of that builtin type -/
def tyV (K : PySem.W.Frag) (T : String) (x : V) (H : Hp) : Prop := match x with
  | .str _ => T = "str"
  | .int _ => T = "int"
  | .ref p => (T = "list" ∧ ∃ xs, SqL K H p xs) ∨ (T = "tuple" ∧ ∃ o, K.lookup p = some o ∧ o.cls = .type "tuple" ∧ o.dict = none) ∨
      (T = "dict" ∧ ((∃ kvs, H p = some (.dK kvs)) ∨ ∃ kvs, H p = some (.dT kvs))) ∨ (T = "set" ∧ ∃ S n, H p = some (.set S n))
  | _ => False
theorem tyV_is {pins : List (Addr × Obj)} {σ : St} {H : Hp} {s : Shared} {T : String} {x : V} {v : Value} (I : Inv X pins σ H s) (r : RelV x v) (ty : tyV X.K T x H) :
    s.TypeIs v T ∧ ∀ a, v = .ref a → ∃ ob, s.heap.get? a = some ob ∧ ob.dict = none := by
  cases x with
  | str z =>
    obtain ⟨t, rfl⟩ := r
    cases (show T = "str" from ty)
    exact ⟨typeIs_str s z t, fun _ e => nomatch e⟩
  | int i =>
    obtain ⟨t, rfl⟩ := r
    cases (show T = "int" from ty)
    exact ⟨typeIs_int s i t, fun _ e => nomatch e⟩
  | ref p =>
    cases r
    rcases ty with ⟨rfl, xs, hq⟩ | ⟨rfl, o, hk, hc, hd⟩ | ⟨rfl, hk⟩ | ⟨rfl, S, n, hk⟩
    · obtain ⟨its, _, pl, _⟩ := I.list hq
      refine ⟨pl.isList.typeIs, fun a e => ?_⟩
      cases e
      obtain ⟨o, n, e, c, hd, _⟩ := pl
      exact ⟨o, e, hd⟩
    · refine ⟨⟨o, I.kIn p o hk, hc⟩, fun a e => ?_⟩
      cases e
      exact ⟨o, I.kIn _ o hk, hd⟩
    · have z : ∃ o, s.heap.get? p = some o ∧ o.ExactDict := by
        rcases hk with ⟨kvs, hk⟩ | ⟨kvs, hk⟩
        · obtain ⟨_, _, _, _, o, _, _, e, ex, _⟩ := I.hok p _ hk
          exact ⟨o, e, ex⟩
        · obtain ⟨_, _, _, _, o, _, _, e, ex, _⟩ := I.hok p _ hk
          exact ⟨o, e, ex⟩
      obtain ⟨o, e, ex⟩ := z
      refine ⟨⟨o, e, ex.1⟩, fun a e2 => ?_⟩
      cases e2
      exact ⟨o, e, ex.2.1⟩
    · obtain ⟨o, _, _, _, e, ex, _⟩ := I.hok p _ hk
      refine ⟨⟨o, e, ex.1⟩, fun a e2 => ?_⟩
      cases e2
      exact ⟨o, e, ex.2.1⟩
  | _ => exact False.elim ty
def tBM0 (K : PySem.W.Frag) (T : String) (r : V → List V → Hp → VK → Prop) (to : TE) : TE := fun σ H Q => to σ H fun x H1 => tyV K T x H1 ∧ r x [] H1 Q
def tBM (K : PySem.W.Frag) (T : String) (r : V → List V → Hp → VK → Prop) (to : TE) (t : TA) : TE := fun σ H Q => to σ H fun x H1 => tyV K T x H1 ∧ t σ H1 fun xs H2 => r x xs H2 Q
variable {o e : Expr} {es : List Expr} {to : TE} {t : TA} {name : Str} {apos cpos : Pos} {T id : String} {r : V → List V → Hp → VK → Prop}
theorem pe_bm (pa : PlainAttrs T) (slot : Slot T name id) (hty : typeOf (.builtin id) = pure (.type "method_descriptor")) (hm : MtR X id r) (ho : PE X o to) (ha : PA X (e :: es) t)
    (hbase : attributeBase o name X.env (eval o X.env) = eval o X.env := by rfl)
    (hfew : ((backTo cpos (starEach (e :: es) X.env)).all (fun x => !x.1) && (backToKw cpos (keywordEach [] X.env)).all (fun x => x.1.isSome)
      && decide ((e :: es).length + ([] : List Keyword).length + (if ([] : List Keyword).isEmpty then 0 else 1) < 30)) = true := by rfl)
    (hline : (apos.endLine == cpos.line) = true := by rfl) (hs : starEach (e :: es) X.env = (false, eval e X.env) :: starEach es X.env := by rfl) (hplain : (backTo cpos (starEach es X.env)).any (·.1) = false := by rfl) :
    PE X (.Call (.Attribute o name apos) (e :: es) [] cpos) (tBM X.K T r to t) := by
  intro pins s σ H Q I h
  refine wpAny_Call_method_late hbase hfew hline rfl (thn (ho pins s σ H _ I h) fun v s1 ⟨x, H1, I1, r1, ty, q1⟩ => ?_)
  obtain ⟨h1, h2⟩ := tyV_is I1 r1 ty
  refine ⟨T, id, pa, slot, hty, h1, h2, ?_⟩
  have hA := ha cpos pins s1 σ H1 _ I1 q1
  rw [hs] at hA ⊢
  refine Calls.callWith_builtin (by show (false || (backTo cpos (starEach es X.env)).any (·.1)) = false; rw [hplain] <;> rfl) (Calls.evalArgs_plain ?_)
  exact thn hA fun us s2 ⟨vs, H2, I2, r2, q2⟩ => hm pins s2 σ H2 x vs v us Q I2 r1 r2 q2
/- xs.append(e), list.index on a module's tuple .. are MtR facts of 06m -/
end
end L2

namespace L2
open PySem PySem.Spec PyProof.Rows

def MtM (X : Cx) (id : String) (r : V → List V → Hp → VK → Prop) : Prop :=
  ∀ (pins : List (Addr × Obj)) (s : Shared) (σ : St) (H : Hp) (x : V) (xs : List V) (v : Value) (us : List Value) (Q : VK), Inv X pins σ H s → RelV x v → Vals xs us → r x xs H Q →
    wpAny (model X.prog X.w) X.A (call (.builtin id) (v :: us)) (EP X pins σ Q) X.xe s

/-! ### lists of values -/
theorem Vals.one : ∀ {x : V} {us : List Value}, Vals [x] us → ∃ u, us = [u] ∧ RelV x u
  | _, _, .cons r .nil => ⟨_, rfl, r⟩
section
variable {X : Cx} {pins : List (Addr × Obj)} {σ : St} {H : Hp} {s : Shared} {l b : Addr} {xs ys zs : List V}

/-! ### the two steps: a tracked list is rewritten, a new list is laid -/
theorem Inv.lset {its its' : List Value} {n : Nat} {f : Array Value → Array Value} {t' : Nat} (I : Inv X pins σ H s) (hH : H l = some (.lst xs))
    (e : s.heap.get? l = some { cls := .type "list", data := .seq its.toArray n }) (hf : f its.toArray = its'.toArray) (hv : Vals ys its') (hz : ys.length ≤ sizeLine) :
    Inv X pins σ (upd H l (.lst ys)) { s with heap := s.heap.update l (Obj.mapSeq f), toks := t' } := by
  have q := PySem.IsL.update e f
  rw [hf] at q
  refine I.write (x := l) (e := l) (by rw [hH]; exact trivial) (.inl rfl) (fun b' u hb hu => (Heap.get?_update_other s.heap (Obj.mapSeq f) (Ne.symm hb)).trans hu) ⟨_, q⟩ ?_
  exact ⟨hz, its', _, hv, q⟩
theorem Inv.lnew {its : List Value} {t' : Nat} (I : Inv X pins σ H s) (hv : Vals ys its) (hz : ys.length ≤ sizeLine) :
    Inv X pins σ (upd H s.heap.objs.size (.lst ys)) { s with heap := s.heap.push { cls := .type "list", data := .seq its.toArray }, toks := t' } :=
  I.laid (fun _ _ q => Heap.get?_push_of_some _ q) (Nat.le_refl _) ⟨hz, its, 0, hv, Heap.get?_push_size _ rfl⟩
theorem Inv.fresh (I : Inv X pins σ H s) : H s.heap.objs.size = none := I.hok.fresh (Nat.le_refl _)
theorem Inv.lstM (I : Inv X pins σ H s) (hH : H l = some (.lst xs)) : xs.length ≤ sizeLine ∧ ∃ (its : List Value) (n : Nat), Vals xs its ∧ xs.length = its.length ∧ s.heap.get? l = some { cls := .type "list", data := .seq its.toArray n } := by
  obtain ⟨z, its, n, r, e⟩ := I.hok l _ hH
  exact ⟨z, its, n, r, r.length, e⟩

end

section
variable {X : Cx}

/-! ### methods -/
def rAppend : V → List V → Hp → VK → Prop := fun x vs H Q => ∃ l xs y, x = .ref l ∧ vs = [y] ∧ H l = some (.lst xs) ∧ xs.length < sizeLine ∧ Q .non (upd H l (.lst (xs ++ [y])))
theorem mt_append : MtM X "list.append" rAppend := by
  intro pins s σ H x vs v us Q I rx rv h
  obtain ⟨l, xs, y, rfl, rfl, hH, hz, q⟩ := h
  cases rx
  obtain ⟨u, rfl, ru⟩ := rv.one
  obtain ⟨z, its, n, r, hl, e⟩ := I.lstM hH
  refine call_meets F.slot_list_append ⟨_, e, rfl⟩ F.entry_list_append (F.args_list_append_2 _ _) (PySem.list_append l its.toArray n u (by rw [List.size_toArray]; omega)) ⟨e, ?_⟩
  refine ⟨.non, _, I.lset (its' := its ++ [u]) hH e (by simp) (r.append (.cons ru .nil)) ?_, rfl, q⟩
  rw [List.length_append, List.length_singleton]
  omega

def rExtend : V → List V → Hp → VK → Prop := fun x vs H Q => ∃ l b xs zs, x = .ref l ∧ vs = [.ref b] ∧ H l = some (.lst xs) ∧ H b = some (.lst zs) ∧ xs.length + zs.length ≤ sizeLine ∧ Q .non (upd H l (.lst (xs ++ zs)))
def rPop : V → List V → Hp → VK → Prop := fun x vs H Q => ∃ l xs y, x = .ref l ∧ vs = [] ∧ H l = some (.lst xs) ∧ xs[xs.length - 1]? = some y ∧ Q y (upd H l (.lst xs.dropLast))
def rPopAt : V → List V → Hp → VK → Prop := fun x vs H Q => ∃ l xs i k y, x = .ref l ∧ vs = [.int i] ∧ H l = some (.lst xs) ∧ -(2 ^ 63) ≤ i ∧ i < 2 ^ 63 ∧ seqIndex? i xs.length = some k ∧ xs[k]? = some y ∧ Q y (upd H l (.lst (xs.eraseIdx k)))
def rReverse : V → List V → Hp → VK → Prop := fun x vs H Q => ∃ l xs, x = .ref l ∧ vs = [] ∧ H l = some (.lst xs) ∧ Q .non (upd H l (.lst xs.reverse))
def rClear : V → List V → Hp → VK → Prop := fun x vs H Q => ∃ l xs, x = .ref l ∧ vs = [] ∧ H l = some (.lst xs) ∧ Q .non (upd H l (.lst []))
/-! ### list + list, list += list, list * int -/
def rCat : R2 := fun x y H Q => ∃ l b xs zs, x = .ref l ∧ y = .ref b ∧ H l = some (.lst xs) ∧ H b = some (.lst zs) ∧ xs.length + zs.length ≤ sizeLine ∧ ∀ p, H p = none → Q (.ref p) (upd H p (.lst (xs ++ zs)))
theorem op_cat : OpR X (binaryOp .Add) rCat := by
  intro pins s σ H x y v u Q I rx ry h
  obtain ⟨l, b, xs, zs, rfl, rfl, hH, hB, hz, q⟩ := h
  cases rx
  cases ry
  obtain ⟨z, its, n, r, hl, e⟩ := I.lstM hH
  obtain ⟨z2, its2, n2, r2, hl2, e2⟩ := I.lstM hB
  refine PySem.P.add_list e e2 ?_ (by rw [List.size_toArray, List.size_toArray]; omega)
  have ea : its.toArray ++ its2.toArray = (its ++ its2).toArray := by simp
  rw [ea]
  exact ⟨.ref _, _, I.lnew (t' := s.toks) (r.append r2) (by rw [List.length_append]; omega), rfl, q _ I.fresh⟩
/-- a list times an int (a negative one is nothing) -/
def rRep : R2 := fun x y H Q => ∃ l k xs, x = .ref l ∧ y = .int k ∧ H l = some (.lst xs) ∧ -(2 ^ 63) ≤ k ∧ k < 2 ^ 63 ∧ xs.length * k.toNat ≤ sizeLine ∧
  ∀ p, H p = none → Q (.ref p) (upd H p (.lst (List.replicate k.toNat xs).flatten))
/-! ### del xs[i] -/
end

/-! ### xs[a:b] = ys -/
section
variable {prog : Program} {w : World} {A : Around} {E : Value → Shared → Prop} {s : Shared}
set_option maxRecDepth 100000 in
end

section
variable {X : Cx}
end
end L2


namespace L2
open PySem PySem.Spec PyProof.Rows

/-! ### lists of pairs as tables -/
section
variable {κ : Type} [DecidableEq κ]
def valV (kvs : List (κ × V)) (k : κ) : Option V := (kvs.find? fun kv => decide (kv.1 = k)).map (·.2)
/-- in its place, or at the end -/
def putK (kvs : List (κ × V)) (k : κ) (v : V) : List (κ × V) :=
  if (kvs.any fun kv => decide (kv.1 = k)) = true then kvs.map (fun kv => if kv.1 = k then (kv.1, v) else kv) else kvs ++ [(k, v)]
def dropK (kvs : List (κ × V)) (k : κ) : List (κ × V) := kvs.filter fun kv => decide (kv.1 ≠ k)

theorem valV_pos {p : κ × V} {r : List (κ × V)} {k : κ} (e : p.1 = k) : valV (p :: r) k = some p.2 := by simp [valV, List.find?_cons, e]
theorem valV_neg {p : κ × V} {r : List (κ × V)} {k : κ} (e : ¬ p.1 = k) : valV (p :: r) k = valV r k := by simp [valV, List.find?_cons, e]
theorem valV_any (k : κ) : ∀ kvs : List (κ × V), (kvs.any fun kv => decide (kv.1 = k)) = (valV kvs k).isSome
  | [] => rfl
  | p :: r => by
    rw [List.any_cons]
    by_cases e : p.1 = k
    · simp only [valV_pos e, decide_eq_true e, Bool.true_or, Option.isSome_some]
    · rw [valV_neg e, decide_eq_false e, Bool.false_or]; exact valV_any k r
theorem length_putK (kvs : List (κ × V)) (k : κ) (v : V) : (putK kvs k v).length ≤ kvs.length + 1 := by
  unfold putK
  split
  · rw [List.length_map]; omega
  · rw [List.length_append, List.length_cons, List.length_nil]; omega
theorem RelO.isSome_eq {o : Option V} {u : Option Value} (r : RelO o u) : o.isSome = u.isSome := by
  cases o with
  | none => cases u with
    | none => rfl
    | some _ => exact (show False from r).elim
  | some _ => cases u with
    | none => exact (show False from r).elim
    | some _ => rfl
/-- raw tables of the same keys -/
theorem KV.val {kvs : List (κ × V)} {vs : List (κ × Value)} (r : KV kvs vs) (k : κ) : RelO (valV kvs k) (valueAt vs k) := by
  unfold KV at r
  induction r with
  | nil => exact True.intro
  | @cons p q ps qs h t ih =>
    obtain ⟨h1, h2⟩ := h
    by_cases e : p.1 = k
    · have e' : q.1 = k := h1.symm.trans e
      have b : valueAt (q :: qs) k = some q.2 := by simp [valueAt, List.find?_cons, e']
      rw [valV_pos e, b]; exact h2
    · have e' : ¬ q.1 = k := fun z => e (h1.trans z)
      have b : valueAt (q :: qs) k = valueAt qs k := by simp [valueAt, List.find?_cons, e']
      rw [valV_neg e, b]; exact ih
theorem KV.any {kvs : List (κ × V)} {vs : List (κ × Value)} (r : KV kvs vs) (k : κ) : (kvs.any fun kv => decide (kv.1 = k)) = vs.any fun kv => decide (kv.1 = k) := by
  unfold KV at r
  induction r with
  | nil => rfl
  | cons h t ih => rw [List.any_cons, List.any_cons, ih, h.1]
theorem KV.repl {kvs : List (κ × V)} {vs : List (κ × Value)} (r : KV kvs vs) (k : κ) {y : V} {u : Value} (ry : RelV y u) :
    KV (kvs.map fun kv => if kv.1 = k then (kv.1, y) else kv) (vs.map fun kv => if kv.1 = k then (kv.1, u) else kv) := by
  unfold KV at r ⊢
  induction r with
  | nil => exact .nil
  | @cons p q ps qs h t ih =>
    rw [List.map_cons, List.map_cons]
    refine .cons ?_ ih
    obtain ⟨h1, h2⟩ := h
    by_cases e : p.1 = k
    · rw [if_pos e, if_pos (h1.symm.trans e)]; exact ⟨h1, ry⟩
    · rw [if_neg e, if_neg (fun z => e (h1.trans z))]; exact ⟨h1, h2⟩
theorem KV.put {kvs : List (κ × V)} {vs : List (κ × Value)} (r : KV kvs vs) (k : κ) {y : V} {u : Value} (ry : RelV y u) : KV (putK kvs k y) (stored vs k u) := by
  unfold putK stored
  rw [r.any k]
  by_cases e : (vs.any fun kv => decide (kv.1 = k)) = true
  · rw [if_pos e, if_pos e]; exact r.repl k ry
  · rw [if_neg e, if_neg e]; exact Paired.snoc r ⟨rfl, ry⟩
theorem KV.drop {kvs : List (κ × V)} {vs : List (κ × Value)} (r : KV kvs vs) (k : κ) : KV (dropK kvs k) (without vs k) := by
  unfold KV at r ⊢
  unfold dropK without
  induction r with
  | nil => exact .nil
  | @cons p q ps qs h t ih =>
    obtain ⟨h1, h2⟩ := h
    rw [List.filter_cons, List.filter_cons]
    by_cases e : p.1 = k
    · have a : ¬ decide (p.1 ≠ k) = true := by simp [e]
      have b : ¬ decide (q.1 ≠ k) = true := by simp [h1.symm.trans e]
      rw [if_neg a, if_neg b]; exact ih
    · have e' : ¬ q.1 = k := fun z => e (h1.trans z)
      have a : decide (p.1 ≠ k) = true := by simp [e]
      have b : decide (q.1 ≠ k) = true := by simp [e']
      rw [if_pos a, if_pos b]; exact .cons ⟨h1, h2⟩ ih
theorem KV.length {kvs : List (κ × V)} {vs : List (κ × Value)} (r : KV kvs vs) : kvs.length = vs.length := Paired.length r
theorem dropK_le (kvs : List (κ × V)) (k : κ) : (dropK kvs k).length ≤ kvs.length := List.length_filter_le _ _
end


/-! ### a tracked dict, its keys ints and texts or tuples of these -/
theorem kV_is {P : Program} {w : World} {k : Key} {u : Value} (r : RelV (kV k) u) : (mixKind P w).is k u = true := by
  cases k with
  | inl i => obtain ⟨t, e⟩ := (show ∃ t, u = Value.int i t from r); subst e; exact mixKind_int P w i t
  | inr x => obtain ⟨t, e⟩ := (show ∃ t, u = Value.str x t from r); subst e; exact mixKind_str P w x t
theorem items_are {P : Program} {w : World} : ∀ {ks : List Key} {us : List Value}, Vals (ks.map kV) us → ItemsAre (mixKind P w) ks us
  | [], _, r => by rw [List.map_nil] at r; cases r; exact .nil
  | k :: ks, _, r => by
    rw [List.map_cons] at r
    cases r with
    | cons h t => exact .cons (kV_is h) (items_are t)

/-- raw entries of a dict with tuple keys -/
abbrev KT (H : Hp) : List (List Key × V) → List (List Key × Addr × Value) → Prop := Paired fun p q => p.1 = q.1 ∧ H q.2.1 = some (.tup (p.1.map kV)) ∧ RelV p.2 q.2.2
theorem KT.val {H : Hp} {kvs : List (List Key × V)} {xs : List (List Key × Addr × Value)} (r : KT H kvs xs) (k : List Key) : RelO (valV kvs k) ((atKey xs k).map (·.2)) := by
  induction r with
  | nil => exact True.intro
  | @cons p q ps qs h t ih =>
    obtain ⟨h1, _, h2⟩ := h
    by_cases e : p.1 = k
    · have e' : q.1 = k := h1.symm.trans e
      have b : atKey (q :: qs) k = some q.2 := by simp [atKey, List.find?_cons, e']
      rw [valV_pos e, b]; exact h2
    · have e' : ¬ q.1 = k := fun z => e (h1.trans z)
      have b : atKey (q :: qs) k = atKey qs k := by simp [atKey, List.find?_cons, e']
      rw [valV_neg e, b]; exact ih
theorem KT.repl {H : Hp} {kvs : List (List Key × V)} {xs : List (List Key × Addr × Value)} (r : KT H kvs xs) (k : List Key) {y : V} {u : Value} (ry : RelV y u) :
    KT H (kvs.map fun kv => if kv.1 = k then (kv.1, y) else kv) (xs.map (putAt k u)) := by
  induction r with
  | nil => exact .nil
  | @cons p q ps qs h t ih =>
    rw [List.map_cons, List.map_cons]
    refine .cons ?_ ih
    obtain ⟨h1, h2, h3⟩ := h
    unfold putAt
    by_cases e : p.1 = k
    · rw [if_pos e, if_pos (h1.symm.trans e)]; exact ⟨h1, h2, ry⟩
    · rw [if_neg e, if_neg (fun z => e (h1.trans z))]; exact ⟨h1, h2, h3⟩
theorem KT.put {H : Hp} {kvs : List (List Key × V)} {xs : List (List Key × Addr × Value)} (r : KT H kvs xs) (k : List Key) {b : Addr} {y : V} {u : Value} (hb : H b = some (.tup (k.map kV))) (ry : RelV y u) :
    KT H (putK kvs k y) (storedH xs k b u) := by
  have e : (kvs.any fun kv => decide (kv.1 = k)) = (atKey xs k).isSome := by
    rw [valV_any, (r.val k).isSome_eq, Option.isSome_map]
  unfold putK storedH
  rw [e]
  by_cases q : (atKey xs k).isSome = true
  · rw [if_pos q, if_pos q]; exact r.repl k ry
  · rw [if_neg q, if_neg q]; exact Paired.snoc r ⟨rfl, hb, ry⟩
theorem KT.keeps {H H' : Hp} {kvs : List (List Key × V)} {xs : List (List Key × Addr × Value)} (r : KT H kvs xs) (ht : ∀ b ys, H b = some (.tup ys) → H' b = some (.tup ys)) : KT H' kvs xs :=
  Paired.mapP r fun _ _ z => ⟨z.1, ht _ _ z.2.1, z.2.2⟩

section
variable {P : Program} {w : World} {H : Hp} {h : Heap} {a : Addr}
theorem rd_of {u : HO} (ok : HOk P w H h) (e : Rd H a u) : ObjOk P w H h a u := e.ok ok
theorem dk_rd {kvs : List (Key × V)} (ok : HOk P w H h) (e : Rd H a (.dK kvs)) : kvs.length ≤ sizeLine ∧ (a == sysModules) = false ∧ ∃ vs, KV kvs vs ∧ h.DictOf (mixKind P w) a vs :=
  show ObjOk P w H h a (.dK kvs) from rd_of ok e
theorem dk_of {kvs : List (Key × V)} (ok : HOk P w H h) (e : H a = some (.dK kvs)) : kvs.length ≤ sizeLine ∧ (a == sysModules) = false ∧ ∃ vs, KV kvs vs ∧ h.DictOf (mixKind P w) a vs := dk_rd ok (.inl e)
/-- a tracked tuple of ints and texts is a key -/
theorem key_of {ks : List Key} (ok : HOk P w H h) (e : H a = some (.tup (ks.map kV))) : (tupleKind (mixKind P w)).is h ks a := by
  obtain ⟨_, its, r, o, h1, h2, n, h3⟩ := (show ObjOk P w H h a (.tup (ks.map kV)) from ok a _ e)
  exact ⟨o, its.toArray, n, h1, h2, h3, by simpa using items_are r⟩
theorem dt_rd {kvs : List (List Key × V)} (ok : HOk P w H h) (e : Rd H a (.dT kvs)) : kvs.length ≤ sizeLine ∧ (a == sysModules) = false ∧
    ∃ xs, KT H kvs xs ∧ h.DictOfH (tupleKind (mixKind P w)) a xs := by
  obtain ⟨z, y, xs, r, o, es, ep, h1, h2, h3, h4, h5⟩ := (show ObjOk P w H h a (.dT kvs) from rd_of ok e)
  refine ⟨z, y, xs, r, o, es, ep, h1, h2, h3, h4, fun x hx => ?_, h5⟩
  have all : ∀ {l : List (List Key × V)} {m : List (List Key × Addr × Value)}, KT H l m → ∀ x ∈ m, (tupleKind (mixKind P w)).is h x.1 x.2.1 := by
    intro l m q
    induction q with
    | nil => intro x hx; exact nomatch hx
    | @cons p q ps qs hq t ih =>
      intro x hx
      rcases List.mem_cons.mp hx with e | hx
      · subst e
        exact key_of ok (by rw [← hq.1]; exact hq.2.1)
      · exact ih x hx
  exact all r x hx
theorem dt_of {kvs : List (List Key × V)} (ok : HOk P w H h) (e : H a = some (.dT kvs)) : kvs.length ≤ sizeLine ∧ (a == sysModules) = false ∧
    ∃ xs, KT H kvs xs ∧ h.DictOfH (tupleKind (mixKind P w)) a xs := dt_rd ok (.inl e)
end

/-- what the dict at a holds at the key y -/
def DGet (H : Hp) (a : Addr) (y : V) (r : Option V) : Prop :=
  (∃ kvs k, Rd H a (.dK kvs) ∧ y = kV k ∧ r = valV kvs k) ∨ ∃ kvs k b, Rd H a (.dT kvs) ∧ y = .ref b ∧ H b = some (.tup (k.map kV)) ∧ r = valV kvs k
/-- the heap behind a[y] = v -/
def DPut (H : Hp) (a : Addr) (y v : V) (H' : Hp) : Prop :=
  (∃ kvs k, H a = some (.dK kvs) ∧ y = kV k ∧ kvs.length < sizeLine ∧ H' = upd H a (.dK (putK kvs k v))) ∨
  ∃ kvs k b, H a = some (.dT kvs) ∧ y = .ref b ∧ H b = some (.tup (k.map kV)) ∧ kvs.length < sizeLine ∧ H' = upd H a (.dT (putK kvs k v))
theorem DGet.k {H : Hp} {a : Addr} {kvs : List (Key × V)} {k : Key} (e : H a = some (.dK kvs)) : DGet H a (kV k) (valV kvs k) := .inl ⟨kvs, k, .inl e, rfl, rfl⟩
theorem DGet.t {H : Hp} {a b : Addr} {kvs : List (List Key × V)} {k : List Key} (e : H a = some (.dT kvs)) (eb : H b = some (.tup (k.map kV))) : DGet H a (.ref b) (valV kvs k) := .inr ⟨kvs, k, b, .inl e, rfl, eb, rfl⟩
theorem DPut.k {H : Hp} {a : Addr} {kvs : List (Key × V)} {k : Key} {v : V} (e : H a = some (.dK kvs)) (hl : kvs.length < sizeLine) : DPut H a (kV k) v (upd H a (.dK (putK kvs k v))) := .inl ⟨kvs, k, e, rfl, hl, rfl⟩
theorem DPut.t {H : Hp} {a b : Addr} {kvs : List (List Key × V)} {k : List Key} {v : V} (e : H a = some (.dT kvs)) (eb : H b = some (.tup (k.map kV))) (hl : kvs.length < sizeLine) :
    DPut H a (.ref b) v (upd H a (.dT (putK kvs k v))) := .inr ⟨kvs, k, b, e, rfl, eb, hl, rfl⟩


section
variable {X : Cx} {pins : List (Addr × Obj)} {σ : St} {H : Hp} {s : Shared} {a : Addr} {y v : V} {u r : Value} {o : Option V} {A : Around} {E : Value → Shared → Prop}

theorem Inv.big (I : Inv X pins σ H s) : sysModules < s.heap.objs.size := by
  have h : mainGlobals < s.heap.objs.size := (I.mod.glob.keeps I.bk).lt
  exact Nat.lt_trans (by decide) h

/-- d[y], there -/
theorem d_getItem {Q : Value → Shared → Prop} (hu : A.units + 1 < cLine) (I : Inv X pins σ H s) (g : DGet H a y (some v)) (ry : RelV y u) (h : ∀ w' s', Inv X pins σ H s' → RelV v w' → Q w' s') :
    wpAny (model X.prog X.w) A (getItem (.ref a) u) Q E s := by
  rcases g with ⟨kvs, k, e, ey, l⟩ | ⟨kvs, k, b, e, ey, eb, l⟩
  · subst ey
    obtain ⟨z, hd, vs, rel, dd⟩ := dk_rd I.hok e
    obtain ⟨w', hw, rw'⟩ := RelO.some_of (v := v) (o := valueAt vs k) (by rw [l]; exact rel.val k)
    exact wpAny_getItem_of (kV_is ry) dd.mapOf hw (h w' _ (I.tok _) rw')
  · subst ey
    cases (show u = Value.ref b from ry)
    obtain ⟨z, hd, xs, rel, dd⟩ := dt_rd I.hok e
    obtain ⟨w', hw, rw'⟩ := RelO.some_of (v := v) (o := (atKey xs k).map (·.2)) (by rw [l]; exact rel.val k)
    obtain ⟨p, hp, hp2⟩ := Option.map_eq_some_iff.mp hw
    refine wpAny_getItem_heap (tupleKind_room_in1 hu) (key_of I.hok eb) dd hp ?_
    rw [hp2]
    exact h w' _ (I.tok _) rw'
/-- y in d -/
theorem d_in {Q : Value → Shared → Prop} (hu : A.units + 1 < cLine) (I : Inv X pins σ H s) (g : DGet H a y o) (ry : RelV y u) (h : ∀ s', Inv X pins σ H s' → Q (.bool o.isSome) s') :
    wpAny (model X.prog X.w) A (compareOp .In u (.ref a)) Q E s := by
  rcases g with ⟨kvs, k, e, ey, l⟩ | ⟨kvs, k, b, e, ey, eb, l⟩
  · subst ey
    obtain ⟨z, hd, vs, rel, dd⟩ := dk_rd I.hok e
    refine wpAny_in_of (kV_is ry) hd dd.mapOf ?_
    rw [← (rel.val k).isSome_eq, ← l]
    exact h _ (I.tok _)
  · subst ey
    cases (show u = Value.ref b from ry)
    obtain ⟨z, hd, xs, rel, dd⟩ := dt_rd I.hok e
    refine wpAny_in_heap (tupleKind_room_in1 hu) (key_of I.hok eb) hd dd ?_
    have q := (rel.val k).isSome_eq
    rw [Option.isSome_map] at q
    rw [← q, ← l]
    exact h _ (I.tok _)
theorem d_notIn {Q : Value → Shared → Prop} (hu : A.units + 1 < cLine) (I : Inv X pins σ H s) (g : DGet H a y o) (ry : RelV y u) (h : ∀ s', Inv X pins σ H s' → Q (.bool (!o.isSome)) s') :
    wpAny (model X.prog X.w) A (compareOp .NotIn u (.ref a)) Q E s := by
  rcases g with ⟨kvs, k, e, ey, l⟩ | ⟨kvs, k, b, e, ey, eb, l⟩
  · subst ey
    obtain ⟨z, hd, vs, rel, dd⟩ := dk_rd I.hok e
    refine wpAny_notIn_of (kV_is ry) hd dd.mapOf ?_
    rw [← (rel.val k).isSome_eq, ← l]
    exact h _ (I.tok _)
  · subst ey
    cases (show u = Value.ref b from ry)
    obtain ⟨z, hd, xs, rel, dd⟩ := dt_rd I.hok e
    refine wpAny_notIn_heap (tupleKind_room_in1 hu) (key_of I.hok eb) hd dd ?_
    have q := (rel.val k).isSome_eq
    rw [Option.isSome_map] at q
    rw [← q, ← l]
    exact h _ (I.tok _)
/-- a dict's object is replaced -/
theorem d_write {h' : Heap} {t' : Nat} {ob : HO} (I : Inv X pins σ H s) (mu : Mut (H a)) (hs : Heap.SameBut a s.heap h') (he : ∃ q, h'.get? a = some q) (new : ObjOk X.prog X.w (upd H a ob) h' a ob) :
    Inv X pins σ (upd H a ob) { s with heap := h', toks := t' } :=
  I.write (x := a) (e := a) mu (.inl rfl) (fun b q hb z => (hs.2 b hb).trans z) he new
theorem dk_new {P : Program} {w : World} {H' : Hp} {h' : Heap} {kvs : List (Key × V)} {vs : List (Key × Value)} (z : kvs.length ≤ sizeLine) (hd : (a == sysModules) = false) (rel : KV kvs vs) (dd : h'.DictOf (mixKind P w) a vs) :
    ObjOk P w H' h' a (.dK kvs) := ⟨z, hd, vs, rel, dd⟩
/-- d[y] = v -/
theorem d_setItem {H' : Hp} {Q : Unit → Shared → Prop} (hu : A.units + 1 < cLine) (I : Inv X pins σ H s) (g : DPut H a y v H') (ry : RelV y u) (rv : RelV v r) (h : ∀ s', Inv X pins σ H' s' → Q () s') :
    wpAny (model X.prog X.w) A (setItem (.ref a) u r) Q E s := by
  rcases g with ⟨kvs, k, e, ey, l, eH⟩ | ⟨kvs, k, b, e, ey, eb, l, eH⟩
  · subst ey eH
    obtain ⟨z, hd, vs, rel, dd⟩ := dk_of I.hok e
    have hz : vs.length ≤ sizeLine := by rw [← rel.length]; exact z
    have hl : (putK kvs k v).length ≤ sizeLine := by have := length_putK kvs k v; omega
    refine wpAny_setItem_pairs (hsz := hz) (kV_is ry) dd fun h' dd' hs => h _ ?_
    have he : ∃ q, h'.get? a = some q := let ⟨q, _, _, hq, _⟩ := dd'; ⟨q, hq⟩
    exact d_write I (by rw [e]; exact True.intro) hs he (dk_new hl hd (rel.put k rv) dd')
  · subst ey eH
    cases (show u = Value.ref b from ry)
    obtain ⟨z, hd, xs, rel, dd⟩ := dt_of I.hok e
    have hz : xs.length ≤ sizeLine := by rw [← Paired.length rel]; exact z
    have hl : (putK kvs k v).length ≤ sizeLine := by have := length_putK kvs k v; omega
    refine wpAny_setItem_heap (hsz := hz) (tupleKind_room_in1 hu) (key_of I.hok eb) dd fun h' dd' hs => h _ ?_
    obtain ⟨q, es, ep, hq, h2, h3, h4, _, h5⟩ := dd'
    refine d_write I (by rw [e]; exact True.intro) hs ⟨q, hq⟩ ⟨hl, hd, _, (rel.put k eb rv).keeps fun c ys ec => ?_, q, es, ep, hq, h2, h3, h4, h5⟩
    rw [upd_ne (ne_of ec e (fun z => nomatch z))]
    exact ec
end

section
variable {X : Cx} {pins : List (Addr × Obj)} {σ : St} {H : Hp} {s : Shared} {a : Addr} {kvs : List (Key × V)} {k : Key} {u : Value} {A : Around} {E : Value → Shared → Prop}
/-- del d[k] -/
theorem d_delItem {Q : Unit → Shared → Prop} (I : Inv X pins σ H s) (e : H a = some (.dK kvs)) (ry : RelV (kV k) u) (l : (valV kvs k).isSome = true) (h : ∀ s', Inv X pins σ (upd H a (.dK (dropK kvs k))) s' → Q () s') :
    wpAny (model X.prog X.w) A (delItem (.ref a) u) Q E s := by
  obtain ⟨z, hd, vs, rel, dd⟩ := dk_of I.hok e
  refine wpAny_delItem_slot dd.typeIs (by decide) PySem.F.slot_dict_delitem
    (call_meetsIn PySem.F.slot_dict_delitem dd.typeIs PySem.F.entry_dict_delitem (PySem.F.args_dict_delitem_2 _ _) (meets_dict_delitem_pairs (mixKind X.prog X.w) a (kV_is ry)) ⟨vs, dd, by rw [← rel.length]; exact z, by rw [← (rel.val k).isSome_eq]; exact l, fun h' dd' hs => h _ ?_⟩)
  have he : ∃ q, h'.get? a = some q := let ⟨q, _, _, hq, _⟩ := dd'; ⟨q, hq⟩
  exact d_write I (by rw [e]; exact True.intro) hs he (dk_new (Nat.le_trans (dropK_le kvs k) z) hd (rel.drop k) dd')
/-- len(d) -/
theorem d_len {Q : Value → Shared → Prop} (I : Inv X pins σ H s) (e : Rd H a (.dK kvs)) (h : ∀ t s', Inv X pins σ H s' → Q (.int kvs.length t) s') : wpAny (model X.prog X.w) A (call (.builtin "len") [.ref a]) Q E s := by
  obtain ⟨z, hd, vs, rel, dd⟩ := dk_rd I.hok e
  refine call_len_dict hd dd (by rw [← rel.length]; rw [sizeLine_eq] at z; omega) ?_
  rw [← rel.length]
  exact h _ _ (I.tok _)
end


/-! ### readings and rules -/
/-- the element of a subscription, not a slice -/
def NoSl (i : Expr) : Prop := ∀ ov iv, subscripted i false ov iv = operate [ov, iv] (getItem ov iv)
theorem dict_typeIs {X : Cx} {pins : List (Addr × Obj)} {σ : St} {H : Hp} {s : Shared} {a : Addr} {y : V} {o : Option V} (I : Inv X pins σ H s) (g : DGet H a y o) : s.TypeIs (.ref a) "dict" := by
  rcases g with ⟨kvs, k, e, _, _⟩ | ⟨kvs, k, b, e, _, _, _⟩
  · obtain ⟨_, _, vs, _, dd⟩ := dk_rd I.hok e
    exact dd.typeIs
  · obtain ⟨_, _, xs, _, dd⟩ := dt_rd I.hok e
    exact dd.typeIs
/-- d[y] -/
def tDGet (td ty : TE) : TE := fun σ H Q => td σ H fun x H1 => ty σ H1 fun y H2 => ∃ a v, x = .ref a ∧ DGet H2 a y (some v) ∧ Q v H2
/-- y in d, y not in d -/
def tDIn (ty td : TE) : TE := fun σ H Q => ty σ H fun y H1 => td σ H1 fun x H2 => ∃ a o, x = .ref a ∧ DGet H2 a y o ∧ Q (.bl o.isSome) H2
def tDNotIn (ty td : TE) : TE := fun σ H Q => ty σ H fun y H1 => td σ H1 fun x H2 => ∃ a o, x = .ref a ∧ DGet H2 a y o ∧ Q (.bl (!o.isSome)) H2
/-- d[y] = v -/
def sDPut (td ty tv : TE) : TS := fun D σ H => tv σ H fun v H1 => td σ H1 fun x H2 => ty σ H2 fun y H3 => ∃ a H4, x = .ref a ∧ DPut H3 a y v H4 ∧ D.nx σ H4
/-- d[y] op= v -/
def sDAug (td ty tv : TE) (rd : V → V → Hp → VK → Prop) : TS := fun D σ H => td σ H fun x H1 => ty σ H1 fun y H2 => ∃ a v, x = .ref a ∧ DGet H2 a y (some v) ∧
  tv σ H2 fun y2 H3 => rd v y2 H3 fun z H4 => ∃ H5, DPut H4 a y z H5 ∧ D.nx σ H5
/-- del d[y] -/
def sDDel (td ty : TE) : TS := fun D σ H => td σ H fun x H1 => ty σ H1 fun y H2 => ∃ a kvs k, x = .ref a ∧ H2 a = some (.dK kvs) ∧ y = kV k ∧ (valV kvs k).isSome = true ∧ D.nx σ (upd H2 a (.dK (dropK kvs k)))

section
variable {X : Cx} {o i e value : Expr} {pos pos' tpos : Pos} {td ty tv : TE}
end


/-! ### displays -/
theorem dt_empty {P : Program} {w : World} {H : Hp} (h : Heap) (hb : sysModules < h.objs.size) : ObjOk P w H (h.push { cls := .type "dict", data := .dict #[] }) h.objs.size (.dT []) :=
  ⟨Nat.zero_le _, beq_eq_false_iff_ne.mpr (Ne.symm (Nat.ne_of_lt hb)), [], .nil, _, #[], 0, Heap.get?_push_size _ rfl, ⟨rfl, rfl, rfl⟩, rfl, rfl, List.nodup_nil⟩
/-- {}, to be a dict of the kind that is wanted -/
def tDNewK : TE := fun _ H Q => ∀ p, H p = none → Q (.ref p) (upd H p (.dK []))
def tDNewT : TE := fun _ H Q => ∀ p, H p = none → Q (.ref p) (upd H p (.dT []))
section
variable {X : Cx} {pos : Pos}
theorem pe_dnewT : PE X (.Dict [] [] pos) tDNewT := fun pins s σ H Q I h =>
  wpAny_Dict_empty ⟨.ref s.heap.objs.size, _, I.laid (a := s.heap.objs.size) (o := .dT []) (t' := s.toks) (fun _ _ q => Heap.get?_push_of_some _ q) (Nat.le_refl _) (dt_empty s.heap I.big), rfl, h _ (I.hok.fresh (Nat.le_refl _))⟩
end

/-- the pairs of a display, from the left -/
def tPairs : List (TE × TE) → St → Hp → (List (V × V) → Hp → Prop) → Prop
  | [], _, H, Q => Q [] H
  | (tk, tv) :: r, σ, H, Q => tk σ H fun x H1 => tv σ H1 fun y H2 => tPairs r σ H2 fun ps H3 => Q ((x, y) :: ps) H3
abbrev VV : List (V × V) → List (Value × Value) → Prop := Paired fun p q => RelV p.1 q.1 ∧ RelV p.2 q.2
def PPs (X : Cx) (pos : Pos) (keys : List (Option Expr)) (values : List Expr) (trs : List (TE × TE)) : Prop :=
  ∀ (pins : List (Addr × Obj)) (s : Shared) (σ : St) (H : Hp) (Q : List (V × V) → Hp → Prop), Inv X pins σ H s → tPairs trs σ H Q →
    wpAny (model X.prog X.w) X.A (evalPairs (pairTrees keys values X.env pos)) (fun vs s' => ∃ ps H', Inv X pins σ H' s' ∧ VV ps vs ∧ Q ps H') X.xe s
def mergeK (kvs more : List (Key × V)) : List (Key × V) := more.foldl (fun acc kv => putK acc kv.1 kv.2) kvs
/-- {k: v, ..} with keys ints and texts; the new dict stands empty while the pairs are made -/
def tDisp (trs : List (TE × TE)) : TE := fun σ H Q => ∀ p, H p = none → tPairs trs σ (upd H p (.dK [])) fun ps H2 => H2 p = some (.dK []) ∧ ∃ kvs : List (Key × V), ps = kvs.map (fun kv => (kV kv.1, kv.2)) ∧ kvs.length ≤ 15 ∧ Q (.ref p) (upd H2 p (.dK (mergeK [] kvs)))
/-! ### methods -/
/-- a method call o.m(e) of a built-in, with one argument: what must be seen of the text -/
structure M1 (X : Cx) (o : Expr) (m : Str) (apos : Pos) (e : Expr) (cpos : Pos) : Prop where
  base : attributeBase o m X.env (eval o X.env) = eval o X.env
  few : ((backTo cpos (starEach [e] X.env)).all (fun x => !x.1) && (backToKw cpos (keywordEach [] X.env)).all (fun x => x.1.isSome)
    && decide (([e] : List Expr).length + ([] : List Keyword).length + (if ([] : List Keyword).isEmpty then 0 else 1) < 30)) = true
  line : (apos.endLine == cpos.line) = true
  trees : backTo cpos (starEach [e] X.env) = [(false, eval e X.env)]
structure M2 (X : Cx) (o : Expr) (m : Str) (apos : Pos) (e f : Expr) (cpos : Pos) : Prop where
  base : attributeBase o m X.env (eval o X.env) = eval o X.env
  few : ((backTo cpos (starEach [e, f] X.env)).all (fun x => !x.1) && (backToKw cpos (keywordEach [] X.env)).all (fun x => x.1.isSome)
    && decide (([e, f] : List Expr).length + ([] : List Keyword).length + (if ([] : List Keyword).isEmpty then 0 else 1) < 30)) = true
  line : (apos.endLine == cpos.line) = true
  trees : backTo cpos (starEach [e, f] X.env) = [(false, eval e X.env), (false, eval f X.env)]

/-- a is a dict, whatever its keys -/
def IsD (H : Hp) (a : Addr) : Prop := (∃ kvs, Rd H a (.dK kvs)) ∨ ∃ kvs, Rd H a (.dT kvs)
theorem isD_at {X : Cx} {pins : List (Addr × Obj)} {σ : St} {H : Hp} {s : Shared} {a : Addr} (I : Inv X pins σ H s) (d : IsD H a) :
    s.TypeIs (.ref a) "dict" ∧ (∀ b, Value.ref a = .ref b → ∃ ob, s.heap.get? b = some ob ∧ ob.dict = none) ∧ (a == sysModules) = false := by
  rcases d with ⟨kvs, e⟩ | ⟨kvs, e⟩
  · obtain ⟨_, hd, vs, _, dd⟩ := dk_rd I.hok e
    refine ⟨dd.typeIs, fun b q => ?_, hd⟩
    cases q
    obtain ⟨ob, _, _, h1, h2, _⟩ := dd
    exact ⟨ob, h1, h2.2.1⟩
  · obtain ⟨_, hd, xs, _, dd⟩ := dt_rd I.hok e
    refine ⟨dd.typeIs, fun b q => ?_, hd⟩
    cases q
    obtain ⟨ob, _, _, h1, h2, _⟩ := dd
    exact ⟨ob, h1, h2.2.1⟩

section
variable {X : Cx} {pins : List (Addr × Obj)} {σ : St} {H : Hp} {s : Shared} {a : Addr} {y d : V} {u r : Value} {o : Option V} {A : Around} {E : Value → Shared → Prop}
end

def tDGet1 (td ty : TE) : TE := fun σ H Q => td σ H fun x H1 => ∃ a, x = .ref a ∧ IsD H1 a ∧ ty σ H1 fun y H2 => ∃ o, DGet H2 a y o ∧ Q (o.getD .non) H2
def tDGet2 (td ty tx : TE) : TE := fun σ H Q => td σ H fun x H1 => ∃ a, x = .ref a ∧ IsD H1 a ∧ ty σ H1 fun y H2 => tx σ H2 fun z H3 => ∃ o, DGet H3 a y o ∧ Q (o.getD z) H3
/-- d.pop(k): there; d.pop(k, x): there or not -/
def tDPop1 (td ty : TE) : TE := fun σ H Q => td σ H fun x H1 => ∃ a, x = .ref a ∧ IsD H1 a ∧ ty σ H1 fun y H2 => ∃ kvs k v, H2 a = some (.dK kvs) ∧ y = kV k ∧ valV kvs k = some v ∧ Q v (upd H2 a (.dK (dropK kvs k)))
def tDPop2 (td ty tx : TE) : TE := fun σ H Q => td σ H fun x H1 => ∃ a, x = .ref a ∧ IsD H1 a ∧ ty σ H1 fun y H2 => tx σ H2 fun z H3 => ∃ kvs k, H3 a = some (.dK kvs) ∧ y = kV k ∧
  (∀ v, valV kvs k = some v → Q v (upd H3 a (.dK (dropK kvs k)))) ∧ (valV kvs k = none → Q z H3)
section
variable {X : Cx} {o e f : Expr} {apos cpos : Pos} {td ty tx : TE}
end

/-! ### dict(d): a copy -/
section
variable {X : Cx} {pins : List (Addr × Obj)} {σ : St} {H : Hp} {s : Shared} {a : Addr} {kvs : List (Key × V)} {A : Around} {E : Value → Shared → Prop}
end


section
variable {X : Cx} {pins : List (Addr × Obj)} {σ : St} {H : Hp} {s : Shared} {a : Addr} {y : V} {u : Value} {A : Around} {E : Value → Shared → Prop}
end
end L2

namespace Att
open PySem PySem.W PySem.Calls PyProof.Rows

/-! ### the script -/
theorem ints_of_wellAll {P : Params} {h : Heap} : ∀ (ns : List Int) (vs : List Value), WellAll P h vs (ns.map WData.int) → IntsAre vs ns := by
  intro ns
  induction ns with
  | nil =>
    intro vs w
    rw [List.map_nil] at w
    cases w
    exact .nil
  | cons n ns ih =>
    intro vs w
    rw [List.map_cons] at w
    cases w with
    | cons a b =>
      cases a
      exact .cons _ _ (ih _ b)

theorem script_of {l : OpenLaw} {n : Nat} (hn : l.most = some n) {P : Params} {h : Heap} {args : List WData} {vals : List Value}
    (hpre : l.row.toRowW.claim.pre args = true) (hwl : WellAll P h vals args) :
    ∃ a vs ns, vals = [Value.ref a] ∧ args = [WData.list (ns.map WData.int)] ∧ h.get? a = some { cls := .type "list", data := .seq vs.toArray } ∧ IntsAre vs ns ∧ ns.length ≤ n := by
  have hsh : WShape.hasAll [] args [.list .int] = true := (pre_splitW hpre).1
  have hc : l.pre.holds [] { args := args } = true := (pre_splitW hpre).2
  obtain ⟨d, r, rfl, h1, h2⟩ := hasAllW_cons hsh
  obtain rfl := hasAllW_nil h2
  obtain ⟨xs, rfl, h3⟩ := hasW_list h1
  obtain ⟨ns, rfl⟩ := items_int h3
  have hlen : ns.length ≤ n := by
    unfold OpenLaw.pre at hc
    have h4 : (WTm.not (.lt (.lit (.int (n : Int))) (.len (.arg 0)))).holds [] { args := [.list (ns.map .int)] } = true := by
      have h4 := (holds_andW hc).1
      rw [hn] at h4
      exact h4
    have h5 := condW_of h4 (w_not (w_lt w_lit (w_len_list (w_arg rfl))))
    rw [List.length_map] at h5
    refine Nat.le_of_not_lt fun q => ?_
    have q' : (n : Int) < ((ns.length : Nat) : Int) := by omega
    first
      | (rw [decide_eq_true q'] at h5; exact absurd h5 (by decide))
      | (simp at h5; omega)
  cases hwl with
  | cons w1 w2 =>
    cases w2
    cases w1 with
    | list ho hall => exact ⟨_, _, ns, rfl, rfl, ho, ints_of_wellAll ns _ hall, hlen⟩

theorem post_true (l : OpenLaw) (args : List WData) : l.row.toRowW.claim.post args (.bool true) args = true :=
  postW_of (r := l.row.toRowW) (X := (true == true))
    (show WShape.has [] (.bool true) .bool = true by first | rfl | decide | simp [WShape.has, WShape.arms, WShape.armsAll])
    (show (WTm.eq .res (.lit (.bool true))).value [] { args := args, res := some (.bool true), after := args } = some (.bool (true == true)) from w_eq_bool (w_res rfl) w_lit) rfl

/-! ### the attachment: holds_open's last premise (the goal 'hc' behind k_head) from a wpAny of the law's body -/
/-- the same from a codeAny of the CALL (for a layer whose function contracts speak of calls) -/
theorem attach_call {l : OpenLaw} {n : Nat} {q : Program} {loose : List Str} {XP : (Str → Option Value) → Heap → Prop} {YP : World → Heap → Prop} {d : DefRec}
    (hn : l.most = some n) (hdf : d.params.defaults = [])
    (call : ∀ (w : World) (s₀ s₁ : Shared) (mg mb : Str → Option Value) (fa : Addr) (o : Obj) (pm cd doc : Value) (a : Addr) (vs : List Value) (ns : List Int),
      Ground q loose [] XP w s₀ mg mb s₁.heap → YP w s₁.heap →
      s₁.heap.get? fa = some o → o.data = .func (docDef d.name d.params d.body d.scope pm cd doc) → s₁.heap.CodeRec cd d.name → mg d.name = some (.ref fa) →
      s₁.heap.get? a = some { cls := .type "list", data := .seq vs.toArray } → IntsAre vs ns → ns.length ≤ n → s₁.gens = #[] →
      codeAny (model l.prog w) callerA (.call (.ref fa) ⟨[.ref a], []⟩) (fun r s' => r = .ok (.ret (.bool true)) ∧ OldK s₁.heap s'.heap ∧ s'.os = s₁.os ∧ AllBare s'.gens) s₁) :
    WalkO q loose XP YP l.row.toRowW d [] (fun f vs => PySem.call f vs) := by
  intro w s₀ s₁ mg mb G Y fa o pm cd doc dV kV ho hd hcd hD hmg hg args vals as hpre hlay hrd hwl hlo
  obtain rfl : dV = .none := Dflts.none hD hdf
  obtain rfl : kV = .none := Dflts.noKw hD
  obtain ⟨a, vs, ns, rfl, rfl, hobj, hints, hlen⟩ := script_of hn hpre hwl
  refine enter_call (codeAny_mono (call w s₀ s₁ mg mb fa o pm cd doc a vs ns G Y ho (fd_plain hd) hcd hmg hobj hints hlen hg) fun r s' hq => ?_)
  obtain ⟨rfl, h2, h3, h4⟩ := hq
  exact ⟨.inl ⟨.bool true, .bool true, [], rfl, fun _ => rfl, .bool true, post_true l _, fun _ => ⟨List.Pairwise.nil, fun _ hm => (nomatch hm)⟩⟩, h2, h3, h4⟩

/-! ### rules over ANY heap (no ledger) from facts about the written part K: the library's own take a ledger (News) for what they write -/
section
variable {prog : Program} {w : World} {A : Around} {E : Value → Shared → Prop} {s : Shared} {K : Frag}

/-! the whole heap as the ledger: makes every rule that writes through a ledger a rule over any heap -/
def noObjs (h : Heap) : Heap := { h with objs := #[] }
def ledger (h : Heap) (L d : Addr) : List (Addr × Obj) := (List.range h.objs.size).filterMap fun a => if a = L ∨ a = d then none else (h.get? a).map fun o => (a, o)
end
end Att

namespace L2
open PySem PySem.Spec PyProof.Rows

theorem vals_ints : ∀ {vs : List Value} {ns : List Int}, IntsAre vs ns → Vals (ns.map V.int) vs
  | _, _, .nil => .nil
  | _, _, .cons n t h => .cons ⟨t, rfl⟩ (vals_ints h)

/-- nothing is tracked but the script, known to the object (or it is an object of the module) -/
def Only (H : Hp) : Prop := ∀ b, H b = none ∨ ∃ o xs, H b = some (.frz o (.lst xs))

end L2

namespace L2
open PySem PySem.Spec PyProof.Rows

abbrev KOf {K : PySem.W.Frag} {h : Heap} (_ : K.In h) : PySem.W.Frag := K

end L2

/- THE LAST THEOREM (shape; LID, My.* are yours):
   My.Adr: a structure of the addresses that your layer names (classes, functions); My.Txt K t: a structure (Prop) of the equations over K;
   My.txt_mk : {K} {implicit addresses ..} (e1 : nsIn K mainGlobals "law" = some (some (.ref f))) (e2 : K.lookup f = some ⟨oc, od, .func (fnOf "law" "law" params body scope dV kV doc pm an cdv ct), sl⟩) (e3 : codeIn K cdv "law" = true) .. : ∃ t, My.Txt K t

set_option maxRecDepth 100000 in
set_option maxHeartbeats 0 in
theorem PySem.Challenge.cw_LID_holds : PySem.Challenge.rw_LID.Holds := by
  w_on; o_law; k_head; (case hw => w_witness2)
  k_fill
  refine L2.walk_of (l := PySem.Challenge.rw_LID) (n := 63) (k := 40) (x := "script") (CX := fun w => ..) (sp := fun _ => My.sp_law) rfl (by decide) rfl ⟨rfl, by decide, by decide⟩ (fun w h Y => PySem.W.kIn_of Y) ?F ?S ?C
  case F =>
    intro w mg fa h KX G hmg
    have T : ∃ t, My.Txt (L2.KOf KX) t := by
      dsimp only [L2.KOf]                          -- K must stand as «<heap const> w.params» for k_is
      refine' My.txt_mk ?e1 ?e2 ?e3 ..
      (case e1 => PySem.W.k_is)                    -- in the order: a name -> its address -> its object -> its parts
      (case e2 => PySem.W.k_is)
      ..
    obtain ⟨t, T⟩ := T
    have e0 := hmg.symm.trans (PySem.W.mg_of KX G T.law)
    cases e0                                       -- fa is the law's own address
    exact ⟨_, fun s u => .of_eq rfl, fun base kb nb => My.law_fn T kb nb⟩     -- if «.of_eq rfl» comes too early: refine' ⟨_, ?b, fun base kb nb => My.law_fn T kb nb⟩; exact fun s u => .of_eq rfl
  case S => exact fun w H a ns hl hO hS => ..
  case C => exact ..
(the tactic k_is has no namespace: write k_is) -/

/-! SHORT WORDS over the layer: a def of the text, its body, what a loop and a test want. -/
namespace L2
open PySem PySem.Spec PyProof.Rows

/-! ### the text by places -/
/-- the j-th statement of a class's body -/
def inClass (s : Stmt) (j : Nat) : Stmt := match s with
  | .ClassDef _ _ _ body _ _ _ _ _ _ _ => body.getD j (.Pass ⟨0, 0, 0, 0⟩)
  | _ => .Pass ⟨0, 0, 0, 0⟩
def defArgs (s : Stmt) : Arguments := match s with
  | .FunctionDef _ a _ _ _ _ _ _ _ _ => a
  | _ => { posonlyargs := [], args := [], vararg := none, kwonlyargs := [], kw_defaults := [], kwarg := none, defaults := [] }
def defBody (s : Stmt) : List Stmt := match s with
  | .FunctionDef _ _ b _ _ _ _ _ _ _ => b
  | _ => []
def defScope (s : Stmt) : Scope := match s with
  | .FunctionDef _ _ _ _ _ _ sc _ _ _ => sc
  | _ => { kind := .function, names := [], isGenerator := false, isCoroutine := false }

/-! ### no exception leaves a def -/
abbrev CX0 : CXT := fun _ _ _ _ _ _ => False
abbrev E0 : XK := fun _ _ _ => False
/-! ### a def (or method) of the text as it stands behind the top -/
structure Fun (K : PySem.W.Frag) (x qual : Str) (st : Stmt) (f : Addr) (fd : FuncData) : Prop where
  ex : ∃ (oc : Value) (od : Option Addr) (kV doc pm : Value) (an : Option Addr) (cdv ct : Value) (osl : Array (Option Value)),
    fd = PySem.W.fnOf x qual (defArgs st) (defBody st) (defScope st) .none kV doc pm an cdv ct ∧ K.lookup f = some ⟨oc, od, .func fd, osl⟩ ∧ PySem.W.codeIn K cdv qual = true
  kp : PySem.W.keepIn K (.ref f) = true
section
variable {P : Program} {w : World} {K : PySem.W.Frag} {mg : Str → Option Value} {base : Heap}
/-- how its arguments bind (no defaults): h is «fun _ _ _ _ _ _ us hl => match us, hl with | [_, _], _ => rfl», one _ a parameter -/
theorem Fun.binds {x qual : Str} {st : Stmt} {f : Addr} {fd : FuncData} {ps : List Str} (F : Fun K x qual st f fd)
    (h : ∀ (kV doc pm : Value) (an : Option Addr) (cdv ct : Value) (us : List Value), us.length = ps.length → bindArgs (PySem.W.fnOf x qual (defArgs st) (defBody st) (defScope st) .none kV doc pm an cdv ct) ⟨us, []⟩ = pure (ps.zip us)) : Binds K fd ps [] := by
  obtain ⟨oc, od, kV, doc, pm, an, cdv, ct, osl, rfl, lk, hcd⟩ := F.ex
  exact .all (h kV doc pm an cdv ct)
theorem fun_mk {x qual : Str} {st : Stmt} {f : Addr} {oc : Value} {od an : Option Addr} {osl : Array (Option Value)} {kV doc pm cdv ct : Value} (l : K.lookup f = some ⟨oc, od, .func (PySem.W.fnOf x qual (defArgs st) (defBody st) (defScope st) .none kV doc pm an cdv ct), osl⟩)
    (c : PySem.W.codeIn K cdv qual = true) (k : PySem.W.keepIn K (.ref f) = true) : Fun K x qual st f (PySem.W.fnOf x qual (defArgs st) (defBody st) (defScope st) .none kV doc pm an cdv ct) := ⟨⟨oc, od, kV, doc, pm, an, cdv, ct, osl, rfl, l, c⟩, k⟩
end
theorem hu_of {A : Around} {k : Nat} (hr : Room k A) : A.units + 1 < cLine := Nat.lt_of_le_of_lt (Nat.add_le_add_left (by decide : 1 ≤ 64) _) hr.units
/-! ### expressions in short: the name that stands in the i-th slot -/
section
variable {X : Cx}
end

/-! ### tests -/
theorem iteF {A B : Prop} (h : B) : if false = true then A else B := by
  rw [if_neg Bool.false_ne_true]
  exact h
theorem iteT {A B : Prop} (h : A) : if true = true then A else B := by
  rw [if_pos rfl]
  exact h
/-! ### heaps -/
/-- all that was tracked is as it was -/
def Same (H H' : Hp) : Prop := ∀ b o, H b = some o → H' b = some o
/-! ### a dict's pairs: keys that differ -/
section
variable {κ : Type} [DecidableEq κ]
theorem dropK_pos {p : κ × V} {r : List (κ × V)} {k : κ} (e : p.1 = k) : dropK (p :: r) k = dropK r k := by
  unfold dropK
  rw [List.filter_cons, if_neg (by simp [e])]
theorem dropK_neg {p : κ × V} {r : List (κ × V)} {k : κ} (e : ¬ p.1 = k) : dropK (p :: r) k = p :: dropK r k := by
  unfold dropK
  rw [List.filter_cons, if_pos (by simp [e])]
theorem dropK_no : ∀ {kvs : List (κ × V)} {k : κ}, ¬ k ∈ kvs.map (·.1) → dropK kvs k = kvs
  | [], _, _ => rfl
  | p :: r, k, h => by
    have h' : ¬ k ∈ r.map (·.1) := fun m => by
      obtain ⟨q, hq, e⟩ := List.mem_map.mp m
      exact h (List.mem_map.mpr ⟨q, List.mem_cons.mpr (Or.inr hq), e⟩)
    rw [dropK_neg fun e => h (List.mem_map.mpr ⟨p, List.mem_cons.mpr (Or.inl rfl), e⟩), dropK_no h']
end
end L2
end

section
set_option Elab.async false
set_option linter.all false
set_option maxRecDepth 100000
set_option maxHeartbeats 4000000
namespace L2
open PySem PySem.Spec PyProof.Rows

/-! ### the cells that a block closes over -/
def closeL (env : Env) : List (Str × NameKind) → List (Str × Addr) → List (Str × Addr)
  | [], cs => cs
  | (n, k) :: r, cs => closeL env r (if (k == NameKind.free) = true then (match env.cells.lookup n with | some c => (n, c) :: cs | none => cs) else cs)
theorem closure_run (env : Env) : ∀ (names : List (Str × NameKind)) (cs : List (Str × Addr)), (∀ p ∈ names, p.2 = NameKind.free → ∃ c, env.cells.lookup p.1 = some c) →
    (forIn names cs fun (x : Str × NameKind) (r : List (Str × Addr)) => if (x.2 == NameKind.free) = true then do
        let c ← cellOf env x.1
        pure (ForInStep.yield ((x.1, c) :: r)) else pure (ForInStep.yield r) : Sem (List (Str × Addr))) = pure (closeL env names cs)
  | [], cs, _ => rfl
  | (n, k) :: r, cs, h => by
    rw [List.forIn_cons]
    cases hk : (k == NameKind.free) with
    | false =>
      have e : closeL env ((n, k) :: r) cs = closeL env r cs := by simp [closeL, hk]
      rw [e]
      simp only [hk, Bool.false_eq_true, if_false, pure_bind]
      exact closure_run env r cs fun p hp => h p (List.mem_cons_of_mem _ hp)
    | true =>
      obtain ⟨c, hc⟩ := h (n, k) List.mem_cons_self (by simpa using hk)
      have hc : env.cells.lookup n = some c := hc
      have e : closeL env ((n, k) :: r) cs = closeL env r ((n, c) :: cs) := by simp [closeL, hk, hc]
      have e2 : cellOf env n = pure c := by unfold cellOf; rw [hc]
      rw [e]
      simp only [hk, if_true, e2, pure_bind]
      exact closure_run env r _ fun p hp => h p (List.mem_cons_of_mem _ hp)
theorem closureFor_eq {scope : Scope} {env : Env} (h : ∀ p ∈ scope.names, p.2 = NameKind.free → ∃ c, env.cells.lookup p.1 = some c) : closureFor scope env = pure (closeL env scope.names []) := by
  unfold closureFor
  have := closure_run env scope.names [] h
  simp only [bind_pure]
  exact this
theorem close_step (env : Env) (n : Str) (k : NameKind) (cs : List (Str × Addr)) (x : Str) (c : Addr) (h : (if (k == NameKind.free) = true then (match env.cells.lookup n with | some c => (n, c) :: cs | none => cs) else cs).lookup x = some c) :
    cs.lookup x = some c ∨ env.cells.lookup x = some c := by
  split at h
  · cases e : env.cells.lookup n with
    | none => rw [e] at h; exact .inl h
    | some d =>
      rw [e] at h
      dsimp only at h
      rw [List.lookup_cons] at h
      cases hx : x == n with
      | true =>
        rw [hx] at h
        have hx' : x = n := eq_of_beq hx
        rw [hx']
        exact .inr (e.trans h)
      | false => rw [hx] at h; exact .inl h
  · exact .inl h
theorem closeL_sub (env : Env) : ∀ (names : List (Str × NameKind)) (cs : List (Str × Addr)) (x : Str) (c : Addr), (closeL env names cs).lookup x = some c → cs.lookup x = some c ∨ env.cells.lookup x = some c
  | [], _, _, _, h => .inl h
  | (n, k) :: r, cs, x, c, h => by
    unfold closeL at h
    rcases closeL_sub env r _ x c h with h' | h'
    · exact close_step env n k cs x c h'
    · exact .inr h'
theorem closeL_keep (env : Env) : ∀ (names : List (Str × NameKind)) (cs : List (Str × Addr)) (x : Str), (∃ c, cs.lookup x = some c) → ∃ c, (closeL env names cs).lookup x = some c
  | [], _, _, h => h
  | (n, k) :: r, cs, x, h => by
    unfold closeL
    refine closeL_keep env r _ x ?_
    split
    · cases e : env.cells.lookup n with
      | none => exact h
      | some d =>
        dsimp only
        rw [List.lookup_cons]
        cases hx : x == n with
        | true => exact ⟨d, rfl⟩
        | false => exact h
    · exact h
theorem closeL_has (env : Env) : ∀ (names : List (Str × NameKind)) (cs : List (Str × Addr)) (x : Str), (x, NameKind.free) ∈ names → (∃ c, env.cells.lookup x = some c) → ∃ c, (closeL env names cs).lookup x = some c
  | [], _, _, h, _ => by simp at h
  | (n, k) :: r, cs, x, h, ⟨c, hc⟩ => by
    unfold closeL
    rcases List.mem_cons.mp h with e | h
    · obtain ⟨rfl, rfl⟩ := Prod.mk.inj e
      refine closeL_keep env r _ _ ?_
      rw [hc]
      simp [List.lookup_cons]
    · exact closeL_has env r _ x h ⟨c, hc⟩

/-! ### a comprehension's block -/
def lcOk (sc outer : Scope) (x : Str) (M : List Str) : Bool :=
  (sc.kind == .function) && sc.names.all (fun p => p.2 != NameKind.cell) && (sc.names.lookup x == some NameKind.local) && sc.names.all (fun p => p.2 != NameKind.local || sc.names.lookup p.1 == some NameKind.local) &&
  sc.names.all (fun p => p.2 != NameKind.free || (outer.names.lookup p.1 == some NameKind.cell || outer.names.lookup p.1 == some NameKind.free)) && M.all (fun y => sc.names.lookup y != some NameKind.local)
structure LcOk (sc outer : Scope) (x : Str) (M : List Str) : Prop where
  kind : sc.kind = .function
  nocell : ∀ p ∈ sc.names, p.2 ≠ NameKind.cell
  var : sc.names.lookup x = some NameKind.local
  locs : ∀ p ∈ sc.names, p.2 = NameKind.local → sc.names.lookup p.1 = some NameKind.local
  free : ∀ p ∈ sc.names, p.2 = NameKind.free → outer.names.lookup p.1 = some NameKind.cell ∨ outer.names.lookup p.1 = some NameKind.free
  out : ∀ y ∈ M, sc.names.lookup y ≠ some NameKind.local
theorem LcOk.of {sc outer : Scope} {x : Str} {M : List Str} (h : lcOk sc outer x M = true) : LcOk sc outer x M := by
  unfold lcOk at h
  simp only [Bool.and_eq_true, List.all_eq_true] at h
  obtain ⟨⟨⟨⟨⟨h1, h2⟩, h3⟩, h4⟩, h5⟩, h6⟩ := h
  refine ⟨eq_of_beq h1, fun p hp => by simpa using h2 p hp, eq_of_beq h3, fun p hp e => ?_, fun p hp e => ?_, fun y hy => by simpa using h6 y hy⟩
  · have := h4 p hp
    rw [e] at this
    simpa using this
  · have := h5 p hp
    rw [e] at this
    simpa using this
def blk (X : Cx) (sc : Scope) (x : Str) (M : List Str) (C : Addr) (s : Shared) (H : Hp) (fp : List Addr) : Cx :=
  { X with env := compEnvC sc (closeL X.env sc.names []) C X.env, N := x :: M, s₀ := s, H₀ := H, outer := X.stack, ex := fp, fn := fun _ => false, pn := [], xe := fun _ _ => False }
theorem mem_of_lookup_relabel {env : Env} {k : NameKind} : ∀ {names : List (Str × NameKind)} {x : Str}, (∀ p ∈ names, p.2 ≠ NameKind.cell) →
    (names.map fun (n, k) => if (k == NameKind.free && env.scope.kind == .function && env.kindOf n == some .cell) then (n, NameKind.cell) else (n, k)).lookup x = some k → k = NameKind.cell ∨ k = NameKind.free → (x, NameKind.free) ∈ names
  | [], _, _, h, _ => by simp at h
  | (n, k') :: r, x, hc, h, hk => by
    have ih := @mem_of_lookup_relabel env k r x (fun p hp => hc p (List.mem_cons_of_mem _ hp))
    have h : List.lookup x ((if (k' == NameKind.free && env.scope.kind == .function && env.kindOf n == some .cell) = true then (n, NameKind.cell) else (n, k')) :: (r.map fun (n, k) => if (k == NameKind.free && env.scope.kind == .function && env.kindOf n == some .cell) then (n, NameKind.cell) else (n, k))) = some k := h
    by_cases hd : (k' == NameKind.free && env.scope.kind == .function && env.kindOf n == some .cell) = true
    · rw [if_pos hd, List.lookup_cons] at h
      cases hx : x == n with
      | true =>
        have e : x = n := eq_of_beq hx
        have e2 : k' = NameKind.free := by
          simp only [Bool.and_eq_true] at hd
          exact eq_of_beq hd.1.1
        rw [e, e2]
        exact List.mem_cons_self
      | false =>
        rw [hx] at h
        exact List.mem_cons_of_mem _ (ih h hk)
    · rw [if_neg hd, List.lookup_cons] at h
      cases hx : x == n with
      | true =>
        rw [hx] at h
        have e : x = n := eq_of_beq hx
        have e2 : k' = k := Option.some.inj h
        rcases hk with hk | hk
        · exact absurd (e2.trans hk) (hc (n, k') List.mem_cons_self)
        · rw [e, ← hk, ← e2]
          exact List.mem_cons_self
      | false =>
        rw [hx] at h
        exact List.mem_cons_of_mem _ (ih h hk)
theorem lookup_relabel_back {env : Env} : ∀ {names : List (Str × NameKind)} {x : Str},
    (names.map fun (n, k) => if (k == NameKind.free && env.scope.kind == .function && env.kindOf n == some .cell) then (n, NameKind.cell) else (n, k)).lookup x = some NameKind.local → names.lookup x = some NameKind.local
  | [], _, h => by simp at h
  | (n, k') :: r, x, h => by
    have ih := @lookup_relabel_back env r x
    have h : List.lookup x ((if (k' == NameKind.free && env.scope.kind == .function && env.kindOf n == some .cell) = true then (n, NameKind.cell) else (n, k')) :: (r.map fun (n, k) => if (k == NameKind.free && env.scope.kind == .function && env.kindOf n == some .cell) then (n, NameKind.cell) else (n, k))) = some NameKind.local := h
    rw [List.lookup_cons]
    by_cases hd : (k' == NameKind.free && env.scope.kind == .function && env.kindOf n == some .cell) = true
    · rw [if_pos hd, List.lookup_cons] at h
      cases hx : x == n with
      | true => rw [hx] at h; cases h
      | false => rw [hx] at h; exact ih h
    · rw [if_neg hd, List.lookup_cons] at h
      cases hx : x == n with
      | true => rw [hx] at h; exact h
      | false => rw [hx] at h; exact ih h
section
variable {X : Cx} {pins : List (Addr × Obj)} {σ : St} {H : Hp} {s : Shared} {sc : Scope} {x : Str} {M : List Str} {C : Addr} {fp : List Addr}
theorem blk_ok (I : Inv X pins σ H s) (ok : LcOk sc X.env.scope x M) (hC : s.heap.objs.size ≤ C) (hf : ∀ b ∈ fp, FpOk X pins H b) (hl : ∀ b ∈ fp, b < s.heap.objs.size) : (blk X sc x M C s H fp).Ok where
  mod := I.ok.mod
  kind := ok.kind
  glob := I.ok.glob
  blt := I.ok.blt
  above := hC
  inj := fun a b c h1 h2 => by
    rcases closeL_sub _ _ _ _ _ h1 with h1 | h1
    · cases h1
    rcases closeL_sub _ _ _ _ _ h2 with h2 | h2
    · cases h2
    exact I.ok.inj a b c h1 h2
  has := fun y hy => by
    have hm : (y, NameKind.free) ∈ sc.names := by
      rcases hy with hy | hy
      · exact mem_of_lookup_relabel ok.nocell hy (.inl rfl)
      · exact mem_of_lookup_relabel ok.nocell hy (.inr rfl)
    exact closeL_has X.env sc.names [] y hm (I.ok.has y (ok.free _ hm rfl))
  cab := fun y c h => by cases h
  hd := I.ok.hd
  frames := I.ok.frames
  stk := .inl rfl
  exf := fun b hb => ⟨Nat.ne_of_lt (Nat.lt_of_lt_of_le (hl b hb) hC), fun y c h => by
    rcases closeL_sub _ _ _ _ _ h with h | h
    · cases h
    · exact (hf b hb).2.2.2.2.1 y c h⟩
  bs := I.bs
  bsz := Nat.le_trans I.ok.bsz I.sz
  noex := fun b o e hb => by
    rcases (hf b hb).2.2.2.1 with z | z
    · exact I.ok.noex b o e z
    · exact absurd (Nat.lt_of_lt_of_le (Heap.lt_size e) (Nat.le_trans I.ok.bsz z)) (Nat.lt_irrefl _)
  exfs := fun b hb hb2 => by
    rcases List.mem_cons.mp (I.stkSub b hb2) with z | z
    · exact (hf b hb).2.1 z
    · exact (hf b hb).2.2.1 z
  funs := I.stack
  frf := I.stkFree
theorem blk_inv {s1 : Shared} {m : Str → Option Value} (I : Inv X pins σ H s) (ok : LcOk sc X.env.scope x M) (hM : ∀ (j : Nat) (y : Str), M[j]? = some y → (∃ p ∈ sc.names, p.1 = y) → X.N[j]? = some y) (hlen : M.length = X.N.length) (hC : s.heap.objs.size ≤ C) (hf : ∀ b ∈ fp, FpOk X pins H b) (hl : ∀ b ∈ fp, b < s.heap.objs.size)
    (hk : ∀ b o, s.heap.get? b = some o → s1.heap.get? b = some o) (hns : s1.heap.Ns C m) (hos : s1.os = s.os) (hg : s1.gens = s.gens) : Inv (blk X sc x M C s H fp) [] (none :: σ) H s1 where
  ok := blk_ok I ok hC hf hl
  os := hos
  bare := by rw [hg]; exact I.bare
  base := Un.kept hk
  loc := ⟨m, hns, fun i y v h1 h2 h3 => by
    cases i with
    | zero => cases h2
    | succ j =>
      have h1 : M[j]? = some y := by
        have h1 : (x :: M)[j + 1]? = some y := h1
        simpa using h1
      have h2 : σ[j]? = some (some v) := by simpa using h2
      have hm : (y, NameKind.free) ∈ sc.names := by
        rcases h3 with h3 | h3 | h3
        · exact absurd (lookup_relabel_back h3) (ok.out y (List.mem_of_getElem? h1))
        · exact mem_of_lookup_relabel ok.nocell h3 (.inl rfl)
        · exact mem_of_lookup_relabel ok.nocell h3 (.inr rfl)
      obtain ⟨m0, hn0, hl0⟩ := I.loc
      have ko := ok.free _ hm rfl
      obtain ⟨u, r, lk⟩ := hl0 j y v (hM j y h1 ⟨_, hm, rfl⟩) h2 (.inr ko)
      refine ⟨u, r, .inr ⟨?_, ?_⟩⟩
      · rcases h3 with h3 | h3 | h3
        · exact absurd (lookup_relabel_back h3) (ok.out y (List.mem_of_getElem? h1))
        · exact .inl h3
        · exact .inr h3
      · rcases lk with ⟨k, _⟩ | ⟨_, c, hc, z⟩
        · have k : X.env.scope.names.lookup y = some .local := k
          rcases ko with q | q
          · rw [q] at k; cases k
          · rw [q] at k; cases k
        · obtain ⟨c', hc'⟩ := closeL_has X.env sc.names [] y hm ⟨c, hc⟩
          have e : c' = c := by
            rcases closeL_sub _ _ _ _ _ hc' with q | q
            · cases q
            · rw [hc] at q; exact (Option.some.inj q).symm
          exact ⟨c, e ▸ hc', z.keeps hk⟩⟩
  cell := fun y c h => by
    rcases closeL_sub _ _ _ _ _ h with h | h
    · cases h
    · obtain ⟨v, z⟩ := I.cell y c h
      exact ⟨v, z.keeps hk⟩
  free := I.hok.fresh hC
  freeC := fun y c h => by
    rcases closeL_sub _ _ _ _ _ h with h | h
    · cases h
    · exact I.freeC y c h
  pin := fun p hp => absurd (show p ∈ ([] : List (Addr × Obj)) from hp) (by simp)
  hok := I.hok.kept hk
  len := by
    show (none :: σ).length = (x :: M).length
    rw [List.length_cons, List.length_cons, hlen, I.len]
end
end L2
end

section
set_option Elab.async false
set_option linter.all false
set_option maxRecDepth 100000
set_option maxHeartbeats 4000000
namespace L2
open PySem PySem.Spec PyProof.Rows
section
variable {P : Program} {w : World} {H : Hp} {h : Heap} {a : Addr} {o : HO}
/-- an object that stands already is told from now on -/
theorem HOk.track (x : HOk P w H h) (hn : H a = none) (new : ObjOk P w (upd H a o) h a o) : HOk P w (upd H a o) h := fun b u e => by
  by_cases hb : b = a
  · subst hb; rw [upd_same] at e; cases e; exact new
  · rw [upd_ne hb] at e
    exact (x b u e).stay (fun c v _ q => q) (fun c q => by rw [upd_ne (ne_of_none q hn)]; exact q) fun c xs q => by rw [upd_ne (ne_of_none q hn)]; exact q
end
section
variable {X : Cx} {pins : List (Addr × Obj)} {σ : St} {H : Hp} {s : Shared}
theorem Inv.track {a : Addr} {o : HO} (I : Inv X pins σ H s) (hf : FpOk X pins H a) (ha : X.s₀.heap.objs.size ≤ a) (new : ObjOk X.prog X.w (upd H a o) s.heap a o) : Inv X pins σ (upd H a o) s := by
  obtain ⟨hn, hL, hfs, hs, hc, hp⟩ := hf
  refine ⟨I.ok, I.os, I.bare, ⟨I.base.keep, I.base.slot, fun b ob e n x => ?_, I.base.there, fun b xs e => ?_, fun b ob u e => ?_, fun b ps e => ?_⟩, I.loc, I.cell, ?_, fun y c e => ?_, fun p q => ?_, I.hok.track hn new, I.len⟩
  · rw [upd_ne (Nat.ne_of_lt (Nat.lt_of_lt_of_le (Heap.lt_size e) ha))]
    exact I.base.free b ob e n x
  · rw [upd_ne (ne_of_none (I.base.tups b xs e) hn)]; exact I.base.tups b xs e
  · rw [upd_ne (ne_of_none (I.base.frzs b ob u e) hn)]; exact I.base.frzs b ob u e
  · obtain ⟨mr, q⟩ := I.base.tbls b ps e
    exact ⟨mr, by rw [upd_ne (ne_of_none q hn)]; exact q⟩
  · rw [upd_ne (Ne.symm hL)]; exact I.free
  · rw [upd_ne (hc y c e)]; exact I.freeC y c e
  · obtain ⟨e, n, ne, nf, d⟩ := I.pin p q
    exact ⟨e, by rw [upd_ne (hp p q)]; exact n, ne, nf, d⟩
end
/-! ### the tests of a comprehension -/
def PF (X : Cx) (ifs : List Expr) (t : TT) : Prop :=
  ∀ (pins : List (Addr × Obj)) (s : Shared) (σ : St) (H : Hp) (Q : Bool → Hp → Prop), Inv X pins σ H s → t σ H Q →
    wpAny (model X.prog X.w) X.A (forIn ifs true fun c r => if r = true then do let ok ← isTrue c X.env (eval c X.env); pure (ForInStep.yield ok) else pure (ForInStep.yield r)) (TP X pins σ Q) X.xe s
def tAlways : TT := fun _ H Q => Q true H
theorem pf_nil {X : Cx} : PF X [] tAlways := fun _ _ _ H _ I h => wpAny_tests_nil ⟨H, I, h⟩
theorem pf_one {X : Cx} {c : Expr} {t : TT} (h : PT X c t) : PF X [c] t := fun pins s σ H Q I q => wpAny_tests_one (h pins s σ H Q I q)

/-- the comprehension by an invariant: the turn, a measure, what was gathered, the heap -/
def LcW (J : It) (σ : St) (tt : TT) (te : TE) (R : List V → Hp → Prop) (H1 : Hp) : Prop :=
  ∃ W : Nat → Nat → List V → Hp → Prop, (∃ m, W 0 m [] H1) ∧ ∀ i m ys H, W i m ys H →
    (J.stop i H ∧ ys.length ≤ sizeLine ∧ R ys H) ∨ (J.go i H ∧ ys.length < sizeLine ∧ ∃ N : List V → Hp → Prop, (∀ ys' H', N ys' H' → ∃ m', m' < m ∧ W (i + 1) m' ys' H') ∧
      ∀ x H', J.yld i H x H' → tt (some x :: σ) H' fun b H2 => if b = true then te (some x :: σ) H2 fun y H3 => N (ys ++ [y]) H3 else N ys H2)
/-- the guide's Turn, in contexts of which q holds -/
structure TurnQ (q : Cx → Prop) (P : Program) (w : World) (K : PySem.W.Frag) (tg : Expr) (J : It) (fp : List Addr) (it : Addr) (tn : Nat → Heap → Prop) : Prop where
  obj : ∀ i h, tn i h → ∀ b ∈ fp, ∃ o, h.get? b = some o ∧ ∀ v, o.data ≠ .cell v
  keep : ∀ i h h', tn i h → (∀ b ∈ fp, ∀ o, h.get? b = some o → h'.get? b = some o) → tn i h'
  item : ∀ (X : Cx), X.prog = P → X.w = w → X.K = K → q X → ∀ (i : Nat) (pins : List (Addr × Obj)) (s : Shared) (σ : St) (H : Hp) (E : Value → Shared → Prop), Inv X pins σ H s → (∀ b ∈ fp, FpOk X pins H b) → tn i s.heap → J.go i H →
    wpAny (model P w) X.A (pyNext (.ref it)) (fun r s1 => ∃ u, r = some u ∧
      wpAny (model P w) X.A (letOwnedTupleGo tg (.ref it) u) (fun _ s2 => ∃ x H', Inv X pins σ H' s2 ∧ RelV x u ∧ J.yld i H x H' ∧ tn (i + 1) s2.heap ∧ ∀ b ∈ fp, H' b = none) E s1) E s
  done : ∀ (X : Cx), X.prog = P → X.w = w → X.K = K → q X → ∀ (i : Nat) (pins : List (Addr × Obj)) (s : Shared) (σ : St) (H : Hp) (E : Value → Shared → Prop), Inv X pins σ H s → (∀ b ∈ fp, FpOk X pins H b) → tn i s.heap → J.stop i H →
    wpAny (model P w) X.A (pyNext (.ref it)) (fun r s1 => r = none ∧ Inv X pins σ H s1) E s
  self : ∀ (A : Around) (i : Nat) (s : Shared) (Q : Value → Shared → Prop) (E : Value → Shared → Prop), tn i s.heap → Q (.ref it) s → wpAny (model P w) A (pyIter (.ref it)) Q E s
theorem Turn.q {P : Program} {w : World} {K : PySem.W.Frag} {tg : Expr} {J : It} {fp : List Addr} {it : Addr} {tn : Nat → Heap → Prop} (T : Turn P w K tg J fp it tn) : TurnQ (fun X => X.calm = true) P w K tg J fp it tn := ⟨T.obj, T.keep, T.item, T.done, T.self⟩
section
variable {X : Cx} {pins : List (Addr × Obj)} {σ : St} {H : Hp} {s : Shared} {sc : Scope} {x : Str} {M : List Str} {fp : List Addr} {J : It} {it : Addr} {tn : Nat → Heap → Prop} {px pos : Pos} {elt iter : Expr} {ifs : List Expr} {tt : TT} {te : TE} {R : List V → Hp → Prop}
theorem lc_block {E : Value → Shared → Prop} {RR : Value → Addr → Result → Shared → Prop} (I : Inv X pins σ H s) (ok : LcOk sc X.env.scope x M) (hM : ∀ (j : Nat) (y : Str), M[j]? = some y → (∃ p ∈ sc.names, p.1 = y) → X.N[j]? = some y) (hlen : M.length = X.N.length) (hnd : (x :: M).Nodup) {q : Cx → Prop} (hq : ∀ C, q (blk X sc x M C s H fp))
    (T : TurnQ q X.prog X.w X.K (.Name x px) J fp it tn) (st : tn 0 s.heap) (hf : ∀ b ∈ fp, FpOk X pins H b)
    (ht : ∀ C s H fp, PF (blk X sc x M C s H fp) ifs tt) (he : ∀ C s H fp, PE (blk X sc x M C s H fp) elt te) (h : LcW J σ tt te R H)
    (hRR : ∀ D C ys H' s' m, R ys H' → H' D = none → Inv X pins σ (upd H' D (.lst ys)) s' → FpOk X pins (upd H' D (.lst ys)) C → s'.heap.Ns C m → RR (.ref D) C (.ok .next) s') :
    wpAny (model X.prog X.w) X.A (newList []) (fun acc s₃ => wpAny (model X.prog X.w) X.A (newFunctionEnv sc X.env.globals (closeL X.env sc.names []) [] X.env.qual none .none (some X.env)) (fun cenv s₄ =>
      codeAny (model X.prog X.w) X.A (.compStart (.ListComp elt [⟨.Name x px, iter, ifs, 0⟩] sc pos) 0 (.ref it) acc { cenv with scope := relabel sc X.env }) (RR acc cenv.locals) s₄) E s₃) E s := by
  refine wpAny_newObj_type (wpAny_newFunctionEnv ok.nocell (by intro y hy; simp at hy) (fun h₁ hns₁ hsb₁ => ?_) ok.kind)
  dsimp only at hns₁ hsb₁ ⊢
  generalize hH2 : s.heap.push { cls := .type "list", dict := none, data := .seq ([] : List Value).toArray } = H2 at hns₁ hsb₁ ⊢
  have hC : H2.objs.size = s.heap.objs.size + 1 := by rw [← hH2, Heap.size_push]
  have hDC : s.heap.objs.size ≠ H2.objs.size := by rw [hC]; exact Nat.ne_of_lt (Nat.lt_succ_self _)
  have hCle : s.heap.objs.size ≤ H2.objs.size := by rw [hC]; exact Nat.le_succ _
  have hl : ∀ b ∈ fp, b < s.heap.objs.size := fun b hb => by
    obtain ⟨o, e, _⟩ := T.obj 0 _ st b hb
    exact Heap.lt_size e
  have old : ∀ b o, s.heap.get? b = some o → h₁.get? b = some o := fun b o e =>
    (hsb₁.2 b (by rw [hC]; exact Nat.ne_of_lt (Nat.lt_succ_of_lt (Heap.lt_size e)))).trans (Heap.get?_push_of_some _ (hH2 ▸ Heap.get?_push_of_some _ e))
  have hacc : h₁.get? s.heap.objs.size = some { cls := .type "list", data := .seq ([] : List Value).toArray } :=
    (hsb₁.2 _ hDC).trans (Heap.get?_push_of_some _ (hH2 ▸ Heap.get?_push_size _ rfl))
  have fsD : s.heap.objs.size ∉ frs X.stack := fun z => by
    rcases List.mem_cons.mp (I.stkSub _ z) with q | q
    · exact absurd I.lt (by rw [← q]; exact Nat.lt_irrefl _)
    · exact I.nofs (Nat.le_refl _) q
  have fsF : ∀ b ∈ fp, b ∉ frs X.stack := fun b hb z => by
    rcases List.mem_cons.mp (I.stkSub b z) with q | q
    · exact (hf b hb).2.1 q
    · exact (hf b hb).2.2.1 q
  have I0 : Inv (blk X sc x M H2.objs.size s H fp) [] (none :: σ) H { s with heap := h₁, toks := s.toks + ([] : List (Str × Value)).length } := blk_inv I ok hM hlen hCle hf hl old hns₁ rfl rfl
  obtain ⟨W, ⟨m0, w0⟩, turn⟩ := h
  have cne : ∀ y c, (closeL X.env sc.names []).lookup y = some c → c < s.heap.objs.size := fun y c e => by
    rcases closeL_sub _ _ _ _ _ e with q | q
    · cases q
    · obtain ⟨v, z⟩ := I.cell y c q
      exact z.lt
  have fx : ∀ {od : Obj} {H' : Hp}, (∀ b ∈ fp, H' b = none) → ∀ b ∈ fp, FpOk (blk X sc x M H2.objs.size s H fp) [(s.heap.objs.size, od)] H' b := fun {od H'} hn b hb =>
    ⟨hn b hb, Nat.ne_of_lt (Nat.lt_of_lt_of_le (hl b hb) hCle), fsF b hb, .inl hb, ((blk_ok I ok hCle hf hl).exf b hb).2, fun p hp => by
      have hp : p ∈ [(s.heap.objs.size, od)] := hp
      rw [List.mem_singleton.mp hp]
      exact Ne.symm (Nat.ne_of_lt (hl b hb))⟩
  have loop : ∀ s₃ : Shared, s₃ = { s with heap := h₁, toks := s.toks + ([] : List (Str × Value)).length } →
      codeAny (model X.prog X.w) X.A (.compLoop (.ListComp elt [⟨.Name x px, iter, ifs, 0⟩] sc pos) 0 (.ref it) (.ref s.heap.objs.size) (compEnvC sc (closeL X.env sc.names []) H2.objs.size X.env))
        (RR (.ref s.heap.objs.size) H2.objs.size) s₃ := by
    rintro s₃ rfl
    refine codeAny_compLoop_tests (fun n s' => ∃ i ys H' v0 its k, Inv (blk X sc x M H2.objs.size s H fp) [] (v0 :: σ) H' s' ∧ tn i s'.heap ∧ (∀ b ∈ fp, H' b = none) ∧ H' s.heap.objs.size = none ∧
      s'.heap.get? s.heap.objs.size = some { cls := .type "list", data := .seq (its : List Value).toArray k } ∧ Vals ys its ∧ W i n ys H') ?_ m0
      ⟨0, [], H, none, [], 0, I0, T.keep 0 _ _ st fun b hb o e => old b o e, fun b hb => (hf b hb).1, I.hok.fresh (Nat.le_refl _), hacc, .nil, w0⟩
    rintro n s3 ⟨i, ys, H3, v0, its, k, I3, st3, fr3, hD3, hD, rv, w3⟩
    have I3' : Inv (blk X sc x M H2.objs.size s H fp) [(s.heap.objs.size, { cls := .type "list", data := .seq its.toArray k })] (v0 :: σ) H3 s3 := I3.pins_of fun p hp => by
      rw [List.mem_singleton.mp hp]
      exact ⟨hD, hD3, hDC, fsD, fun v z => nomatch z⟩
    rcases turn i n ys H3 w3 with ⟨stop, hz, qn⟩ | ⟨go, hz, N, hN, step⟩
    · refine thn (T.done (blk X sc x M H2.objs.size s H fp) rfl rfl rfl (hq _) i _ s3 _ H3 _ I3' (fx fr3) st3 stop) fun r s4 ⟨hr, I4⟩ => ?_
      subst hr
      dsimp only
      have hD4 : s4.heap.get? s.heap.objs.size = some { cls := .type "list", data := .seq its.toArray k } := (I4.pin _ (List.mem_append_right _ (List.mem_singleton.mpr rfl))).1
      have I5 : Inv X pins σ H3 s4 := I.call' (ch := fp) I4.os I4.base I4.hok I4.bare fun b hb => ⟨(hf b hb).2.2.2.1, (hf b hb).2.1, (hf b hb).2.2.2.2.1, (hf b hb).2.2.2.2.2⟩
      obtain ⟨m, hn, _⟩ := I4.loc
      have I6 : Inv X pins σ (upd H3 s.heap.objs.size (.lst ys)) s4 := I5.track (I.fpOk (Nat.le_refl _) hD3) I.sz ⟨hz, its, k, rv, hD4⟩
      refine hRR _ _ ys H3 s4 m qn hD3 I6 (I.fpOk hCle ?_) hn
      rw [upd_ne (Ne.symm hDC)]
      exact I4.free
    · refine thn (T.item (blk X sc x M H2.objs.size s H fp) rfl rfl rfl (hq _) i _ s3 _ H3 _ I3' (fx fr3) st3 go) fun r s4 ⟨u, hr, h4⟩ => ?_
      subst hr
      dsimp only
      show wpAny (model X.prog X.w) X.A (letOwnedTupleGo (.Name x px) (.ref it) u >>= fun _ => assign (.Name x px) (compEnvC sc (closeL X.env sc.names []) H2.objs.size X.env) u) _ _ s4
      refine wpAny_bind (thn h4 fun _ s5 ⟨z, H5, I5, r5, y5, st5, fr5⟩ => ?_)
      have I5' := I5.pinned (fx fr5) (T.obj _ _ st5)
      refine wpAny_assign_Name ?_
      refine store_ok (X := blk X sc x M H2.objs.size s H fp) (i := 0) I5' hnd rfl (.inl (lookup_relabel_local ok.var)) r5 (fun s6 I6 => ?_) (.inr (lookup_relabel_local ok.var))
      have I6 : Inv (blk X sc x M H2.objs.size s H fp) ([(s.heap.objs.size, { cls := .type "list", data := .seq its.toArray k })] ++ pinsAt fp s5.heap) (some z :: σ) H5 s6 := I6
      have back : ∀ {H7 : Hp} {s7 : Shared}, Inv (blk X sc x M H2.objs.size s H fp) ([(s.heap.objs.size, { cls := .type "list", data := .seq its.toArray k })] ++ pinsAt fp s5.heap) (some z :: σ) H7 s7 →
          tn (i + 1) s7.heap ∧ (∀ b ∈ fp, H7 b = none) ∧ H7 s.heap.objs.size = none ∧ s7.heap.get? s.heap.objs.size = some { cls := .type "list", data := .seq its.toArray k } := fun {H7 s7} I7 => by
        refine ⟨T.keep _ _ _ st5 fun b hb o e => (I7.pin (b, o) (List.mem_append_right _ (List.mem_append_right _ (mem_pinsAt hb e)))).1, fun b hb => ?_, (I7.pin _ (List.mem_append_right _ (List.mem_append_left _ (List.mem_singleton.mpr rfl)))).2.1, (I7.pin _ (List.mem_append_right _ (List.mem_append_left _ (List.mem_singleton.mpr rfl)))).1⟩
        obtain ⟨o, e, d⟩ := T.obj _ _ st5 b hb
        exact (I7.pin (b, o) (List.mem_append_right _ (List.mem_append_right _ (mem_pinsAt hb e)))).2.1
      refine wpAny_mono (ht _ _ _ _ _ s6 _ H5 _ I6 (step z H5 y5)) (fun b s7 ⟨H7, I7, q7⟩ => ?_) fun _ _ f => f.elim
      cases b with
      | false =>
        simp only [Bool.false_eq_true, if_false] at q7 ⊢
        obtain ⟨m', hm, w7⟩ := hN _ _ q7
        obtain ⟨b1, b2, b3, b4⟩ := back I7
        exact ⟨m', hm, i + 1, ys, H7, some z, its, k, I7.pins_of (fun p hp => absurd hp (by simp)), b1, b2, b3, b4, rv, w7⟩
      | true =>
        simp only [if_true] at q7 ⊢
        refine wpAny_mono (he _ _ _ _ _ s7 _ H7 _ I7 q7) (fun u8 s8 ⟨v8, H8, I8, r8, q8⟩ => ?_) fun _ _ f => f.elim
        obtain ⟨m', hm, w8⟩ := hN _ _ q8
        obtain ⟨b1, b2, b3, b4⟩ := back I8
        refine append_at b4 (fun h' hs' hD' => ?_) (by rw [List.size_toArray, ← rv.length]; exact Nat.le_of_lt hz)
        refine ⟨m', hm, i + 1, ys ++ [v8], H8, some z, its ++ [u8], k + 1, ?_, ?_, b2, b3, ?_, rv.append (.cons r8 .nil), w8⟩
        · have I9 : Inv (blk X sc x M H2.objs.size s H fp) [] (some z :: σ) H8 s8 := I8.pins_of (fun p hp => absurd hp (by simp))
          exact I9.turned (t' := s8.toks) (it := s.heap.objs.size) (fun b o hb e => (hs'.2 b hb).trans e) b3 hDC (.inr (Nat.le_refl _)) (fun y c e z => absurd (cne y c e) (by rw [z]; exact Nat.lt_irrefl _)) fun p hp => absurd (show p ∈ ([] : List (Addr × Obj)) from hp) (by simp)
        · exact T.keep _ _ _ b1 fun b hb o e => (hs'.2 b (Nat.ne_of_lt (hl b hb))).trans e
        · rw [hD']
          simp
  exact codeAny_compStart_list (loop _ rfl) (T.self X.A 0 _ _ _ (T.keep 0 _ _ st fun b hb o e => old b o e) (loop _ rfl))
end
end L2
end

section
set_option Elab.async false
set_option linter.all false
set_option maxRecDepth 100000
set_option maxHeartbeats 4000000
namespace L2
open PySem PySem.Spec PyProof.Rows
def tLc (wi : TI) (tt : TT) (te : TE) : TE := fun σ H Q => wi σ H fun J H1 => LcW J σ tt te (fun ys H2 => ∀ D, H2 D = none → Q (.ref D) (upd H2 D (.lst ys))) H1
section
variable {X : Cx} {sc : Scope} {x : Str} {px pos : Pos} {elt iter : Expr} {ifs : List Expr} {tt : TT} {te : TE} {wi : TI}
theorem clos_of {pins : List (Addr × Obj)} {σ : St} {H : Hp} {s : Shared} {M : List Str} (I : Inv X pins σ H s) (ok : LcOk sc X.env.scope x M) : closureFor sc X.env = pure (closeL X.env sc.names []) :=
  closureFor_eq fun p hp e => I.ok.has p.1 (ok.free p hp e)
theorem pe_lcM (M : List Str) (hc : X.calm = true) (ok : lcOk sc X.env.scope x M = true) (hM : ∀ (j : Nat) (y : Str), M[j]? = some y → (∃ p ∈ sc.names, p.1 = y) → X.N[j]? = some y) (hlen : M.length = X.N.length) (hnd : (x :: M).Nodup)
    (hi : PI X (.Name x px) iter wi) (ht : ∀ C s H fp, PF (blk X sc x M C s H fp) ifs tt) (he : ∀ C s H fp, PE (blk X sc x M C s H fp) elt te)
    (hs : ∀ x, foldedSetIterable iter X.env x = pure x := by intro _; rfl) : PE X (.ListComp elt [⟨.Name x px, iter, ifs, 0⟩] sc pos) (tLc wi tt te) := by
  intro pins s σ H Q I h
  have ok := LcOk.of ok
  rw [eval_ListComp]
  refine wpAny_comprehension_free (use := none) rfl hs (clos_of I ok) ok.kind ok.locs (thn (hi pins s σ H _ I h) fun v s1 h1 => thn h1 fun itv s2 h2 => ?_)
  obtain ⟨it, fp, tn, J, H2, e, I2, T, st2, f2, lw⟩ := h2
  subst e
  refine lc_block (RR := fun acc C => compPost (model X.prog X.w) X.A X.xe none (EP X pins σ Q) acc C) I2 ok hM hlen hnd (fun _ => hc) T.q st2 f2 ht he lw ?_
  intro D C ys H' s' m q hD I' fC hn
  exact ⟨m, hn, fun h' hs' => ⟨.ref D, _, I'.turned (t' := s'.toks) (it := C) (fun b o hb e => (hs'.2 b hb).trans e) fC.1 fC.2.1 fC.2.2.2.1 fC.2.2.2.2.1 fC.2.2.2.2.2, rfl, q D hD⟩⟩
/-- y = [elt for x in iter if ..], y a local of the def -/
def tLcSet (i : Nat) (t : TE) : TS := fun D σ H => t σ H fun v H1 => D.nx (σ.set i (some v)) H1
theorem ps_lcM (M : List Str) {y : Str} {py spos : Pos} {i : Nat} (hc : X.calm = true) (hN : X.N.Nodup) (hiy : X.N[i]? = some y) (hy : X.env.scope.names.lookup y = some .local) (hsw : swapsWith (.ListComp elt [⟨.Name x px, iter, ifs, 0⟩] sc pos) (some (.Name y py)) spos.line X.env = pure true)
    (ok : lcOk sc X.env.scope x M = true) (hM : ∀ (j : Nat) (y : Str), M[j]? = some y → (∃ p ∈ sc.names, p.1 = y) → X.N[j]? = some y) (hlen : M.length = X.N.length) (hnd : (x :: M).Nodup)
    (hi : PI X (.Name x px) iter wi) (ht : ∀ C s H fp, PF (blk X sc x M C s H fp) ifs tt) (he : ∀ C s H fp, PE (blk X sc x M C s H fp) elt te)
    (hs : ∀ x, foldedSetIterable iter X.env x = pure x := by intro _; rfl) : PS X (.Assign [.Name y py] (.ListComp elt [⟨.Name x px, iter, ifs, 0⟩] sc pos) spos) (tLcSet i (tLc wi tt te)) := by
  intro pins s σ H D I h
  have ok := LcOk.of ok
  rw [exec_Assign_Name_used _ _ _ _ hsw]
  refine wpAny_bind (wpAny_standAt (wpAny_bind ?_))
  show wpAny _ X.A (do let _ ← comprehension (.ListComp elt [⟨.Name x px, iter, ifs, 0⟩] sc pos) sc X.env _ (newList []) false (eval iter X.env) (some (assign (.Name y py) X.env))) _ _ s
  refine wpAny_bind (wpAny_mono (wpAny_comprehension_free (use := some (assign (.Name y py) X.env)) (Q := fun _ s' => SP X pins D .next s') rfl hs (clos_of I ok) ok.kind ok.locs
    (thn (hi pins s σ H _ I h) fun v s1 h1 => thn h1 fun itv s2 h2 => ?_)) (fun _ s' hq => wpAny_pure (wpAny_pure hq)) fun _ _ e => e)
  obtain ⟨it, fp, tn, J, H2, e, I2, T, st2, f2, lw⟩ := h2
  subst e
  refine lc_block (RR := fun acc C => compPost (model X.prog X.w) X.A X.xe (some (assign (.Name y py) X.env)) (fun _ s' => SP X pins D .next s') acc C) I2 ok hM hlen hnd (fun _ => hc) T.q st2 f2 ht he lw ?_
  intro L C ys H' s' m q hD I' fC hn
  show wpAny _ X.A (assign (.Name y py) X.env (.ref L)) _ _ _
  refine wpAny_assign_Name (store_ok2 (v := .ref L) I' hN hiy (.inl hy) rfl (fun s2 I2 hs2 => ?_) (.inr hy))
  obtain ⟨a, sb, ha⟩ := hs2
  have hCa : C ≠ a := by
    rcases ha with e | e
    · rw [e]; exact fC.2.1
    · exact Ne.symm (fC.2.2.2.2.1 _ _ e)
  exact ⟨m, hn.sameBut sb hCa, fun h' hs' => ⟨_, _, I2.turned (t' := s2.toks) (it := C) (fun b o hb e => (hs'.2 b hb).trans e) fC.1 fC.2.1 fC.2.2.2.1 fC.2.2.2.2.1 fC.2.2.2.2.2, q L hD⟩⟩
end
end L2
end

section
set_option Elab.async false
set_option linter.all false
set_option maxRecDepth 100000
set_option maxHeartbeats 4000000
namespace L2
open PySem PySem.Spec PyProof.Rows PySem.SeqAt
/-! ### == and != of deep values -/
def Cmp (K : PySem.W.Frag) (H : Hp) (n : Nat) (x y : V) (b : Bool) : Prop :=
  ∀ (X : Cx) (pins : List (Addr × Obj)) (σ : St) (s : Shared) (A : Around) (u v : Value), X.K = K → Inv X pins σ H s → RelV x u → RelV y v → A.units + n < cLine → EqAt A s u v b ∧ RcAt A s u v b ∧ RcNeAt A s u v (!b)
theorem cmp_flat {K : PySem.W.Frag} {H : Hp} {n : Nat} {x y : V} (fx : flatV x = true) (fy : flatV y = true) : Cmp K H n x y (eqV x y) := by
  intro X pins σ s A u v _ I rx ry _
  refine ⟨eqAt_V rx ry fx fy, ?_⟩
  cases x with
  | non =>
    cases rx
    cases y with
    | non => cases ry; exact ⟨RcAt.none_none, RcNeAt.none_none⟩
    | bl b => cases ry; exact ⟨RcAt.none_bool b, RcNeAt.none_bool b⟩
    | int b => obtain ⟨t, rfl⟩ := ry; exact ⟨RcAt.none_int b t, RcNeAt.none_int b t⟩
    | str b => obtain ⟨t, rfl⟩ := ry; exact ⟨RcAt.none_str b t, RcNeAt.none_str b t⟩
    | _ => cases fy
  | bl a =>
    cases rx
    cases y with
    | non => cases ry; exact ⟨RcAt.bool_none a, RcNeAt.bool_none a⟩
    | bl b => cases ry; exact ⟨RcAt.bool_bool a b, RcNeAt.bool_bool a b⟩
    | int b => obtain ⟨t, rfl⟩ := ry; exact ⟨RcAt.bool_int a b t, RcNeAt.bool_int a b t⟩
    | str b => obtain ⟨t, rfl⟩ := ry; exact ⟨RcAt.bool_str a b t, RcNeAt.bool_str a b t⟩
    | _ => cases fy
  | int a =>
    obtain ⟨ta, rfl⟩ := rx
    cases y with
    | non => cases ry; exact ⟨RcAt.int_none a ta, RcNeAt.int_none a ta⟩
    | bl b => cases ry; exact ⟨RcAt.int_bool a ta b, RcNeAt.int_bool a ta b⟩
    | int b => obtain ⟨t, rfl⟩ := ry; exact ⟨RcAt.int_int a ta b t, RcNeAt.int_int a ta b t⟩
    | str b => obtain ⟨t, rfl⟩ := ry; exact ⟨RcAt.int_str a ta b t, RcNeAt.int_str a ta b t⟩
    | _ => cases fy
  | str a =>
    obtain ⟨ta, rfl⟩ := rx
    cases y with
    | non => cases ry; exact ⟨RcAt.str_none a ta, RcNeAt.str_none a ta⟩
    | bl b => cases ry; exact ⟨RcAt.str_bool a ta b, RcNeAt.str_bool a ta b⟩
    | int b => obtain ⟨t, rfl⟩ := ry; exact ⟨RcAt.str_int a ta b t, RcNeAt.str_int a ta b t⟩
    | str b => obtain ⟨t, rfl⟩ := ry; exact ⟨RcAt.str_str a ta b t, RcNeAt.str_str a ta b t⟩
    | _ => cases fy
  | _ => cases fx
section
variable {K : PySem.W.Frag} {H : Hp} {n : Nat} {a b : Addr} {xs ys : List V} {e : Nat → Bool}
theorem vals_at {xs : List V} {its : List Value} (r : Vals xs its) {j : Nat} (h : j < its.toArray.size) : ∃ x, xs[j]? = some x ∧ RelV x its.toArray[j] := by
  have hl : j < its.length := by simpa using h
  cases q : xs[j]? with
  | none =>
    have := List.getElem?_eq_none_iff.mp q
    rw [r.length] at this
    omega
  | some x =>
    obtain ⟨u, hu, ru⟩ := r.get q
    refine ⟨x, rfl, ?_⟩
    obtain ⟨_, e⟩ := List.getElem?_eq_some_iff.mp hu
    have : its.toArray[j] = u := by simpa using e
    rw [this]; exact ru
theorem in1_units (A : Around) : A.in1.units = A.units + 1 := rfl
theorem cmp_lists (ha : SqL K H a xs) (hb : SqL K H b ys) (hl : xs.length = ys.length) (hab : a = b → (List.range xs.length).all e = true) (he : ∀ j x y, xs[j]? = some x → ys[j]? = some y → Cmp K H n x y (e j)) :
    Cmp K H (n + 1) (.ref a) (.ref b) ((List.range xs.length).all e) := by
  intro X pins σ s A u v hK I rx ry hu
  subst hK
  cases rx; cases ry
  obtain ⟨its, r1, p1, _⟩ := I.list ha
  obtain ⟨its2, r2, p2, _⟩ := I.list hb
  have hsz : its.toArray.size = its2.toArray.size := by simp [← r1.length, ← r2.length, hl]
  have es : xs.length = its.toArray.size := by simp [← r1.length]
  have items : ∀ j (h1 : j < its.toArray.size) (h2 : j < its2.toArray.size), EqAt A.in1 s its.toArray[j] its2.toArray[j] (e j) := fun j h1 h2 => by
    obtain ⟨x, e1, q1⟩ := vals_at r1 h1
    obtain ⟨y, e2, q2⟩ := vals_at r2 h2
    exact (he j x y e1 e2 X pins σ s A.in1 _ _ rfl I q1 q2 (by rw [in1_units]; omega)).1
  have rc : RcAt A s (.ref a) (.ref b) ((List.range xs.length).all e) := by rw [es]; exact RcAt.lists p1.isList p2.isList hsz (by omega) items
  refine ⟨?_, rc, ?_⟩
  · by_cases h : a = b
    · rw [hab h, h]; exact EqAt.same _
    · exact .of_refs h rc
  · rw [es]; exact RcNeAt.lists p1.isList p2.isList hsz (by omega) items
theorem cmp_lists_len (ha : SqL K H a xs) (hb : SqL K H b ys) (hl : xs.length ≠ ys.length) : Cmp K H n (.ref a) (.ref b) false := by
  intro X pins σ s A u v hK I rx ry hu
  subst hK
  cases rx; cases ry
  obtain ⟨its, r1, p1, _⟩ := I.list ha
  obtain ⟨its2, r2, p2, _⟩ := I.list hb
  have hsz : (its.toArray.size != its2.toArray.size) = true := by simp [← r1.length, ← r2.length, hl]
  have rc : RcAt A s (.ref a) (.ref b) false := RcAt.lists_lengths p1.isList p2.isList hsz (by omega)
  refine ⟨.of_refs (fun h => ?_) rc, rc, RcNeAt.lists_lengths p1.isList p2.isList hsz (by omega)⟩
  subst h
  exact hl (by rw [I.list_inj ha hb])
theorem cmp_tuples (ha : SqT K H a xs) (hb : SqT K H b ys) (hab : a = b → ((List.range (min xs.length ys.length)).all e && xs.length == ys.length) = true) (he : ∀ j x y, xs[j]? = some x → ys[j]? = some y → Cmp K H n x y (e j)) :
    Cmp K H (n + 1) (.ref a) (.ref b) ((List.range (min xs.length ys.length)).all e && xs.length == ys.length) := by
  intro X pins σ s A u v hK I rx ry hu
  subst hK
  cases rx; cases ry
  obtain ⟨its, r1, p1, _⟩ := I.tuple ha
  obtain ⟨its2, r2, p2, _⟩ := I.tuple hb
  have es : xs.length = its.toArray.size := by simp [← r1.length]
  have es2 : ys.length = its2.toArray.size := by simp [← r2.length]
  have items : ∀ j (h1 : j < its.toArray.size) (h2 : j < its2.toArray.size), EqAt A.in1 s its.toArray[j] its2.toArray[j] (e j) := fun j h1 h2 => by
    obtain ⟨x, e1, q1⟩ := vals_at r1 h1
    obtain ⟨y, e2, q2⟩ := vals_at r2 h2
    exact (he j x y e1 e2 X pins σ s A.in1 _ _ rfl I q1 q2 (by rw [in1_units]; omega)).1
  have p1 : s.heap.IsTuple a its.toArray := p1
  have p2 : s.heap.IsTuple b its2.toArray := p2
  have rc : RcAt A s (.ref a) (.ref b) ((List.range (min xs.length ys.length)).all e && xs.length == ys.length) := by rw [es, es2]; exact RcAt.tuples p1 p2 (by omega) items
  refine ⟨?_, rc, ?_⟩
  · by_cases h : a = b
    · rw [hab h, h]; exact EqAt.same _
    · exact .of_refs h rc
  · rw [es, es2]; exact RcNeAt.tuples p1 p2 (by omega) items
theorem cmp_tup_non (ha : SqT K H a xs) : Cmp K H n (.ref a) .non false := by
  intro X pins σ s A u v hK I rx ry hu
  subst hK
  cases rx; cases ry
  obtain ⟨its, r1, p1, _⟩ := I.tuple ha
  have p1 : s.heap.IsTuple a its.toArray := p1
  exact ⟨EqAt.tuple_none p1 (by omega), RcAt.tuple_none p1 (by omega), RcNeAt.tuple_none p1 (by omega)⟩
theorem cmp_non_tup (ha : SqT K H a xs) : Cmp K H n .non (.ref a) false := by
  intro X pins σ s A u v hK I rx ry hu
  subst hK
  cases rx; cases ry
  obtain ⟨its, r1, p1, _⟩ := I.tuple ha
  have p1 : s.heap.IsTuple a its.toArray := p1
  exact ⟨EqAt.none_tuple p1 (by omega), RcAt.none_tuple p1 (by omega), RcNeAt.none_tuple p1 (by omega)⟩
theorem cmp_up {m : Nat} {x y : V} {k : Bool} (h : Cmp K H n x y k) (hm : n ≤ m) : Cmp K H m x y k := fun X pins σ s A u v hK I rx ry hu => h X pins σ s A u v hK I rx ry (by omega)
end
section
variable {X : Cx} {n : Nat}
def rEqC (K : PySem.W.Frag) (n : Nat) : R2 := fun x y H Q => ∃ b, Cmp K H n x y b ∧ Q (.bl b) H
def rNeC (K : PySem.W.Frag) (n : Nat) : R2 := fun x y H Q => ∃ b, Cmp K H n x y b ∧ Q (.bl (!b)) H
theorem op_eqC (hu : X.A.units + n < cLine) : OpR X (compareOp .Eq) (rEqC X.K n) := by
  intro pins s σ H x y v u Q I rx ry h
  obtain ⟨b, c, q⟩ := h
  exact (c X pins σ s X.A _ _ rfl I rx ry hu).2.1 _ _ _ _ ⟨.bl b, H, I, rfl, q⟩
theorem op_neC (hu : X.A.units + n < cLine) : OpR X (compareOp .NotEq) (rNeC X.K n) := by
  intro pins s σ H x y v u Q I rx ry h
  obtain ⟨b, c, q⟩ := h
  exact (c X pins σ s X.A _ _ rfl I rx ry hu).2.2 _ _ _ _ ⟨.bl (!b), H, I, rfl, q⟩
end
end L2
end

section
set_option Elab.async false
set_option linter.all false
set_option maxRecDepth 100000
set_option maxHeartbeats 4000000
namespace L2
open PySem PySem.Spec PyProof.Rows PySem.SeqAt
section
variable {X : Cx}
theorem op_mulX : OpR X (binaryOp .Mult) (rI IntMulOk fun i j => .int (i * j)) := opI fun _ _ _ _ _ _ _ hc q => PyProof.Rows.mul_int q hc
def CDivX (i j : Int) : Prop := 0 < j ∧ j.natAbs.log2 < 9000
theorem op_fdivX : OpR X (binaryOp .FloorDiv) (rI CDivX fun i j => .int (i / j)) := opI fun i j _ _ _ _ _ hc q => by
  have h1 : (0 : Int) < j := hc.1
  exact floordiv_int (by omega) (by rw [Int.fdiv_eq_ediv_of_nonneg i (by omega)]; exact q) (.inl (PyProof.noPylong_of_log2 hc.2))
/-- isinstance(x, c) -/
def rIsi (K : PySem.W.Frag) : List V → Hp → VK → Prop := fun xs H Q => ∃ x c t cv b, xs = [x, c] ∧ RelV c cv ∧ (∀ u, RelV c u → u = cv) ∧ TyOf K H x t ∧ PySem.W.kitOne K t cv = some b ∧ Q (.bl b) H
theorem call_isi : CallR X (.builtin "isinstance") (rIsi X.K) := by
  intro pins s σ H xs us Q I r h
  obtain ⟨x, c, t, cv, b, rfl, rc, uc, ty, e, q⟩ := h
  obtain ⟨u, v, rfl, ru, rv⟩ := vals2 r
  cases uc v rv
  exact isinst_ok I ru ty e fun tk => ⟨.bl b, H, I.tok tk, rfl, q⟩
/-- t + u, t empty: u itself -/
theorem cat_tup0 {prog : Program} {w : World} {A : Around} {E : Value → Shared → Prop} {s : Shared} {t b : Addr} {vs ws : List Value} {Q : Value → Shared → Prop} (ht : IsTup s.heap t vs.toArray) (hb : IsTup s.heap b ws.toArray) (hv : vs = [])
    (h1 : Q (.ref b) s) : wpAny (model prog w) A (binaryOp .Add (.ref t) (.ref b)) Q E s := by
  obtain ⟨⟨c1, d1, dt1, sl1⟩, ho, hc, n, hd⟩ := id ht
  obtain ⟨⟨c2, d2, dt2, sl2⟩, ho2, hc2, n2, hd2⟩ := id hb
  simp only at hc hd hc2 hd2
  subst hc hd hc2 hd2
  exact concat_meets ⟨_, ho, rfl⟩ ⟨_, ho2, rfl⟩ noFill_tuple_add seq_tuple_add PySem.F.slot_tuple_add PySem.F.entry_tuple_add (PySem.F.args_tuple_add_2 _ _)
    (tuple_addW0 t b vs.toArray ws.toArray n n2 d1 d2 sl1 sl2 (by simp [hv])) ⟨ho, ho2, h1⟩
/-- t + u of tuples -/
def rCatA (K : PySem.W.Frag) : R2 := fun x y H Q => ∃ a b xs ys, x = .ref a ∧ y = .ref b ∧ SqT K H a xs ∧ SqT K H b ys ∧ xs.length + ys.length ≤ sizeLine ∧
  (xs = [] → Q (.ref b) H) ∧ (xs ≠ [] → ys = [] → Q (.ref a) H) ∧ (xs ≠ [] → ys ≠ [] → ∀ p, H p = none → Q (.ref p) (upd H p (.tup (xs ++ ys))))
theorem op_catA : OpR X (binaryOp .Add) (rCatA X.K) := by
  intro pins s σ H x y v u Q I rx ry h
  obtain ⟨a, b, xs, ys, rfl, rfl, ha, hb, hz, h0, h1, h2⟩ := h
  cases rx; cases ry
  obtain ⟨its, r1, p1, _⟩ := I.tuple ha
  obtain ⟨its2, r2, p2, _⟩ := I.tuple hb
  by_cases hx : xs = []
  · exact cat_tup0 p1 p2 (r1.nil_iff.mpr hx) ⟨.ref b, H, I, rfl, h0 hx⟩
  · refine HT.cat_tup p1 p2 (fun z => hx (r1.nil_iff.mp z)) (fun z => ⟨.ref a, H, I, rfl, h1 hx (r2.nil_iff.mp z)⟩) (fun z => ?_) (by rw [← r1.length, ← r2.length]; exact hz)
    refine ⟨.ref s.heap.objs.size, _, I.laid (o := .tup (xs ++ ys)) (t' := s.toks) (fun c o e => Heap.get?_push_of_some _ e) (Nat.le_refl _) ?_, rfl, h2 hx (fun q => z (r2.nil_iff.mpr q)) _ I.fresh⟩
    exact ⟨by rw [List.length_append]; exact hz, its ++ its2, r1.append r2, ⟨_, Heap.get?_push_size _ rfl, rfl, _, rfl⟩⟩
/-- all of a list of truths -/
def rAll (K : PySem.W.Frag) : List V → Hp → VK → Prop := fun xs H Q => ∃ (a : Addr) (bs : List Bool), xs = [.ref a] ∧ SqL K H a (bs.map V.bl) ∧ Q (.bl (bs.all id)) H
theorem call_allL (hc : X.calm = true) : CallR X (.builtin "all") (rAll X.K) := by
  intro pins s σ H xs us Q I r h
  obtain ⟨a, bs, rfl, ha, q⟩ := h
  obtain ⟨u, rfl, ru⟩ := vals1 r
  cases ru
  obtain ⟨its, r1, p1, hz⟩ := I.list ha
  refine call_all_walk ?_
  refine wpAny_pyIter_list p1.isList ?_
  have hne : a ≠ s.heap.objs.size := fun z => by
    obtain ⟨o, n, e, _⟩ := p1
    exact absurd (Heap.lt_size e) (by rw [z]; exact Nat.lt_irrefl _)
  refine ⟨s.heap.objs.size, _, _, its.toArray.size, _, _, fun i => bs.getD i true, rfl, Walks.list (A := X.A.in1) (I.ok.hd hc) _ a hne its.toArray, ⟨⟨_, Heap.get?_push_size _ rfl, rfl, rfl⟩, ?_⟩, fun i v s' Q' E' hP hQ => ?_, fun h' tk hk => ?_⟩
  · obtain ⟨o, n, e, c, _, d⟩ := p1
    exact ⟨o, Heap.get?_push_of_some _ e, c, n, d⟩
  · have hi : its[i]? = some v := by simpa using hP
    have hl := r1.length
    rw [List.length_map] at hl
    have hlt : i < bs.length := by
      have := (List.getElem?_eq_some_iff.mp hi).1
      omega
    obtain ⟨w', hw, rw'⟩ := r1.get (i := i) (x := V.bl bs[i]) (by rw [List.getElem?_map, List.getElem?_eq_getElem hlt]; rfl)
    rw [hi] at hw
    cases hw
    cases rw'
    refine wpAny_truthy_bool ?_
    have : bs.getD i true = bs[i] := by simp [hlt]
    rw [← this]
    exact hQ
  · refine ⟨.bl _, H, I.kept (t' := tk) (fun b o e => hk b o (fun z => ?_) (Heap.get?_push_of_some _ e)), rfl, ?_⟩
    · have : b = s.heap.objs.size := by simpa using z
      exact absurd (Heap.lt_size e) (by rw [this]; exact Nat.lt_irrefl _)
    · have : (List.range its.toArray.size).all (fun i => bs.getD i true) = bs.all id := by
        have hl : its.toArray.size = bs.length := by
          have := r1.length
          rw [List.length_map] at this
          simpa using this.symm
        rw [hl, Bool.eq_iff_iff, List.all_eq_true, List.all_eq_true]
        constructor
        · intro h b hb
          obtain ⟨i, hi, rfl⟩ := List.getElem_of_mem hb
          have := h i (by simpa using hi)
          simpa [hi] using this
        · intro h i hi
          have hi : i < bs.length := by simpa using hi
          have := h bs[i] (List.getElem_mem hi)
          simpa [hi] using this
      rw [this]
      exact q
/-! ### the signs of a text -/
def Its (x : Str) : It := ⟨fun i _ => i < x.cps.size, fun i H y H' => H' = H ∧ ∃ c, x.cps[i]? = some c ∧ y = .str ⟨#[c]⟩, fun i _ => x.cps.size ≤ i⟩
def iStr (tl : TE) : TI := fun σ H R => tl σ H fun x H1 => ∃ z, x = .str z ∧ R (Its z) H1
theorem turn_str {P : Program} {w : World} {K : PySem.W.Frag} {y : Str} {py : Pos} {z : Str} {t : Tok} {ty : String} (it : Addr) (W : ∀ A' : Around, A'.handled = none → Walks P w A' it [it] [it] z.cps.size (SignAt z) (fun i h => h.IsStrIter it ty z t i)) (hs : ∀ (A : Around) (i : Nat) (s : Shared) (Q : Value → Shared → Prop) (E : Value → Shared → Prop), s.heap.IsStrIter it ty z t i → Q (.ref it) s → wpAny (model P w) A (pyIter (.ref it)) Q E s) :
    Turn P w K (.Name y py) (Its z) [it] it (fun i h => h.IsStrIter it ty z t i ∧ i ≤ z.cps.size) where
  mem := by simp
  obj := fun i h st b hb => by
    have e : b = it := by simpa using hb
    subst e
    obtain ⟨⟨o, e, c, d⟩, _⟩ := st
    exact ⟨o, e, fun v z => by rw [d] at z; cases z⟩
  keep := fun i h h' st k => by
    obtain ⟨⟨o, e, r⟩, q⟩ := st
    exact ⟨⟨o, k it (by simp) o e, r⟩, q⟩
  item := by
    intro X hP hw hK hc i pins s σ H E I hf st hg
    subst hP hw hK
    obtain ⟨f0, f1, f2, f3, f4, f5⟩ := hf it (by simp)
    refine (W X.A (I.ok.hd hc)).item i s _ _ hg st.1 fun v h' tk hv st' hk => ?_
    obtain ⟨c, u, e1, rfl⟩ := hv
    have I1 : Inv X pins σ H { s with heap := h', toks := tk } := I.turned (t' := tk) (fun b o hb e => hk b o (by simpa using hb) e) f0 f1 f3 f4 f5
    refine ⟨_, rfl, ?_⟩
    show wpAny _ _ (pure ()) _ _ _
    exact wpAny_pure ⟨.str ⟨#[c]⟩, H, I1, ⟨_, rfl⟩, ⟨rfl, c, e1, rfl⟩, ⟨st', hg⟩, fun b hb => (hf b hb).1⟩
  done := by
    intro X hP hw hK hc i pins s σ H E I hf st hg
    subst hP hw hK
    obtain ⟨f0, f1, f2, f3, f4, f5⟩ := hf it (by simp)
    have e : i = z.cps.size := Nat.le_antisymm st.2 hg
    subst e
    exact (W X.A (I.ok.hd hc)).done s _ _ st.1 fun h' tk hk => ⟨rfl, I.turned (t' := tk) (fun b o hb e => hk b o (by simpa using hb) e) f0 f1 f3 f4 f5⟩
  self := fun A i s Q E st h => hs A i s Q E st.1 h
theorem pi_str {l : Expr} {tl : TE} {y : Str} {py : Pos} (hl : PE X l tl) : PI X (.Name y py) l (iStr tl) := by
  intro pins s σ H R I h
  refine thn (hl pins s σ H _ I h) fun v s1 ⟨x, H1, I1, r1, q1⟩ => ?_
  obtain ⟨z, rfl, q⟩ := q1
  obtain ⟨t, rfl⟩ := r1
  have fo : ∀ b ∈ [s1.heap.objs.size], FpOk X pins H1 b := fun b hb => by
    have e : b = s1.heap.objs.size := by simpa using hb
    subst e
    exact I1.fpOk (Nat.le_refl _) (I1.hok.fresh (Nat.le_refl _))
  cases ha : z.cps.all (· < 128) with
  | false => exact wpAny_pyIter_wide ha ⟨s1.heap.objs.size, [s1.heap.objs.size], _, Its z, H1, rfl, I1.kept (t' := s1.toks) fun b o e => Heap.get?_push_of_some _ e, turn_str _ (fun A' hA => Walks.strWide hA _ z t) (fun _ _ _ _ _ st h => wpAny_pyIter_striter_wide st h), ⟨⟨_, Heap.get?_push_size _ rfl, rfl, rfl⟩, Nat.zero_le _⟩, fo, q⟩
  | true => exact wpAny_pyIter_ascii ha ⟨s1.heap.objs.size, [s1.heap.objs.size], _, Its z, H1, rfl, I1.kept (t' := s1.toks) fun b o e => Heap.get?_push_of_some _ e, turn_str _ (fun A' hA => Walks.strAscii hA _ z t) (fun _ _ _ _ _ st h => wpAny_pyIter_striter_ascii st h), ⟨⟨_, Heap.get?_push_size _ rfl, rfl, rfl⟩, Nat.zero_le _⟩, fo, q⟩
end
end L2
end

section
set_option Elab.async false
set_option linter.all false
set_option maxRecDepth 100000
set_option maxHeartbeats 4000000
namespace L2
open PySem PySem.Spec PyProof.Rows PySem.SeqAt
/-! ### a dict's keys, one by one, by its entries -/
section
variable {prog : Program} {w : World} {A : Around} {E : Value → Shared → Prop} {s : Shared} {it d : Addr} {i n ep : Nat} {od : Obj} {es : Array DictEntry}
theorem next_key {Q : Option Value → Shared → Prop} (hit : s.heap.IsKeyIter it d i n ep) (hd : s.heap.get? d = some od) (hdd : od.data = .dict es ep) (hn : es.size = n) (hi : i < es.size)
    (hQ : ∀ h', h'.IsKeyIter it d (i + 1) n ep → Heap.SameBut it s.heap h' → Q (some es[i].key) { s with heap := h' }) : wpAny (model prog w) A (pyNext (.ref it)) Q E s := by
  obtain ⟨oi, hoi, hci, hdi⟩ := id hit
  subst hn
  unfold pyNext
  refine wpAny_bind (wpAny_attempt (wpAny_callSpecial?_slot (name := Str.ofString "__next__") hit.typeIs F.slot_dict_keyiterator_next (wpAny_call_entry F.slot_dict_keyiterator_next hit.typeIs F.entry_dict_keyiterator_next ?tree (F.args_dict_keyiterator_next_1 _))))
  refine wpAny_bind (wpAny_pure (wpAny_bind (wpAny_bind ?_)))
  first | refine wpAny_bind (wpAny_typeNameOfWhole_keyiter hit.typeIs (wpAny_pure ?_)) | refine wpAny_bind (wpAny_typeNameOf_keyiter hit.typeIs (wpAny_pure ?_))
  refine wpAny_bind (wpAny_fieldsOf hoi hdi ?_)
  simp only [show Builtin.Dict_items.ownsTuple "dict_keyiterator" = false by decide, Bool.false_eq_true, if_false]
  show wpAny _ _ (if (Value.ref d == Value.none) = true then _ else _) _ _ s
  rw [if_neg (show ¬ ((Value.ref d == Value.none) = true) from Bool.false_ne_true)]
  refine wpAny_bind (wpAny_pure (wpAny_bind (wpAny_dictEntries hd hdd ?_)))
  rw [if_neg (by simp)]
  refine wpAny_bind (wpAny_pure (wpAny_bind (wpAny_dictEpoch hd hdd ?_)))
  rw [if_neg (by simp)]
  refine wpAny_pure ?_
  simp only [show ¬ ((i : Int) < 0) from by omega, if_false, Int.toNat_natCast, Array.getElem?_eq_getElem hi]
  refine wpAny_bind ?_
  first | refine wpAny_bind (wpAny_typeNameOfWhole_keyiter hit.typeIs (wpAny_pure ?_)) | refine wpAny_bind (wpAny_typeNameOf_keyiter hit.typeIs (wpAny_pure ?_))
  refine wpAny_bind (wpAny_isOneOf_keyiter hit.typeIs ?_)
  show wpAny _ _ (setField (.ref it) 1 (rawInt ((i : Int) + 1)) >>= _) _ _ s
  refine wpAny_bind (wpAny_setField hoi hdi (by simp) ?_)
  have hx : (s.heap.update it (Obj.mapFields (·.setIfInBounds 1 (rawInt ((i : Int) + 1))))).IsKeyIter it d (i + 1) es.size ep :=
    ⟨_, Heap.get?_update_self _ hoi (Obj.isFreed_of_fields (Obj.data_mapFields hdi _)), (Obj.cls_mapFields ..).trans hci, by rw [Obj.data_mapFields hdi]; simp [rawInt]⟩
  refine wpAny_bind (wpAny_holding (wpAny_bind (wpAny_isOneOf_keyiter (s := { s with heap := s.heap.update it (Obj.mapFields (·.setIfInBounds 1 (rawInt ((i : Int) + 1)))) }) hx.typeIs ?_)))
  show wpAny _ _ (pure es[i].key) _ _ _
  exact wpAny_pure (wpAny_pure ⟨_, rfl, wpAny_pure (hQ _ hx (Heap.SameBut.update ..))⟩)
theorem next_end {Q : Option Value → Shared → Prop} (hh : A.handled = none) (hit : s.heap.IsKeyIter it d i n ep) (hd : s.heap.get? d = some od) (hdd : od.data = .dict es ep) (hn : es.size = n) (hi : es.size ≤ i)
    (hQ : ∀ h', Heap.ExtBut it s.heap h' → Q none { s with heap := h' }) : wpAny (model prog w) A (pyNext (.ref it)) Q E s := by
  obtain ⟨oi, hoi, hci, hdi⟩ := id hit
  subst hn
  unfold pyNext
  refine wpAny_bind (wpAny_attempt (wpAny_callSpecial?_slot (name := Str.ofString "__next__") hit.typeIs F.slot_dict_keyiterator_next (wpAny_call_entry F.slot_dict_keyiterator_next hit.typeIs F.entry_dict_keyiterator_next ?tree (F.args_dict_keyiterator_next_1 _))))
  refine wpAny_bind (wpAny_pure (wpAny_bind (wpAny_bind ?_)))
  first | refine wpAny_bind (wpAny_typeNameOfWhole_keyiter hit.typeIs (wpAny_pure ?_)) | refine wpAny_bind (wpAny_typeNameOf_keyiter hit.typeIs (wpAny_pure ?_))
  refine wpAny_bind (wpAny_fieldsOf hoi hdi ?_)
  simp only [show Builtin.Dict_items.ownsTuple "dict_keyiterator" = false by decide, Bool.false_eq_true, if_false]
  show wpAny _ _ (if (Value.ref d == Value.none) = true then _ else _) _ _ s
  rw [if_neg (show ¬ ((Value.ref d == Value.none) = true) from Bool.false_ne_true)]
  refine wpAny_bind (wpAny_pure (wpAny_bind (wpAny_dictEntries hd hdd ?_)))
  rw [if_neg (by simp)]
  refine wpAny_bind (wpAny_pure (wpAny_bind (wpAny_dictEpoch hd hdd ?_)))
  rw [if_neg (by simp)]
  refine wpAny_pure ?_
  simp only [show ¬ ((i : Int) < 0) from by omega, if_false, Int.toNat_natCast, Array.getElem?_eq_none hi]
  refine wpAny_bind ?_
  first | refine wpAny_bind (wpAny_typeNameOfWhole_keyiter hit.typeIs (wpAny_pure ?_)) | refine wpAny_bind (wpAny_typeNameOf_keyiter hit.typeIs (wpAny_pure ?_))
  show wpAny _ _ (setField (.ref it) 0 .none >>= _) _ _ s
  refine wpAny_bind (wpAny_setField hoi hdi (by simp) ?_)
  show wpAny _ _ (newExc (.type "StopIteration") [] >>= _) _ _ _
  refine wpAny_bind ?_
  simp only [newExc, newTuple]
  refine wpAny_bind (wpAny_newObj_type ?_ (by size_fits))
  refine wpAny_bind (m := firstArgMember _ _) (wpAny_of_eq (a := Value.none) (by first | rfl | (simp only [firstArgMember]; rfl)) ?_)
  refine wpAny_newObj_type ?_ (by size_fits)
  simp only [raiseNew]
  refine wpAny_bind (wpAny_handled ?_)
  rw [show A.in1.handled = none from hh]
  refine wpAny_bind (wpAny_pure (wpAny_throw ?thrown))
  refine wpAny_bind (wpAny_isInstance (T := "StopIteration") (b := true) ⟨_, Heap.get?_push_size _ rfl, rfl⟩ isSubtype_stop ?_)
  exact wpAny_pure (hQ _ (((Heap.SameBut.update ..).extBut.push _).push _))
theorem iter_keys {Q : Value → Shared → Prop} (hs : (d == sysModules) = false) (hd : s.heap.get? d = some od) (hx : od.ExactDict) (hdd : od.data = .dict es ep)
    (hQ : Q (.ref s.heap.objs.size) { s with heap := s.heap.push { cls := .type "dict_keyiterator", data := .fields #[.ref d, .int 0 0, .int es.size 0, .int ep 0] } }) : wpAny (model prog w) A (pyIter (.ref d)) Q E s := by
  have hT : s.TypeIs (.ref d) "dict" := ⟨od, hd, hx.1⟩
  refine wpAny_pyIter_slot hT F.slot_dict_iter (wpAny_call_entry F.slot_dict_iter hT F.entry_dict_iter ?_ (F.args_dict_iter_1 _))
  unfold Builtin.«dict.__iter__» Builtin.Dict.dictSlotNone
  refine wpAny_bind (wpAny_bind (wpAny_notOrdered_dict hT ?_))
  show wpAny _ _ (pure (Value.ref d)) _ _ s
  refine wpAny_pure ?_
  show wpAny _ _ (Builtin.Dict.showsAll d >>= _) _ _ s
  unfold Builtin.Dict.showsAll
  rw [if_neg (by rw [hs]; exact Bool.false_ne_true)]
  refine wpAny_bind (wpAny_pure (wpAny_bind (wpAny_dictEntries hd hdd (wpAny_bind (wpAny_dictEpoch hd hdd ?_)))))
  refine wpAny_bind (wpAny_newObj_type (wpAny_pure ⟨_, rfl, "dict_keyiterator", _, ⟨_, Heap.get?_push_size _ rfl, rfl⟩, F.slot_dict_keyiterator_next.lookup, ?_⟩))
  simpa [rawInt] using hQ
end
end L2
end

section
set_option Elab.async false
set_option linter.all false
set_option maxRecDepth 100000
set_option maxHeartbeats 4000000
namespace L2
open PySem PySem.Spec PyProof.Rows PySem.SeqAt
section
variable {prog : Program} {w : World} {A : Around} {E : Value → Shared → Prop} {s : Shared} {d : Addr} {ep : Nat} {od : Obj} {es : Array DictEntry}
theorem walks_keys (hh : A.handled = none) (it : Addr) (hne : d ≠ it) (hdd : od.data = .dict es ep) :
    Walks prog w A it [it, d] [it] es.size (fun i v => es[i]?.map (·.key) = some v) (fun i h => h.IsKeyIter it d i es.size ep ∧ h.get? d = some od) where
  sub := fun b hb => by simp at hb; simp [hb]
  frame := fun _ _ _ st hk => ⟨st.1.at fun o e => hk it (by simp) o e, hk d (by simp) _ st.2⟩
  item := fun i s Q E hi st hQ => by
    refine next_key st.1 st.2 hdd rfl hi fun h' hit' sb => ?_
    exact hQ es[i].key h' s.toks (by simp [hi]) ⟨hit', (sb.2 d hne).trans st.2⟩ fun b o hb e => (sb.2 b fun z => hb (by simp [z])).trans e
  done := fun s Q E st hQ => next_end hh st.1 st.2 hdd rfl (Nat.le_refl _) fun h' he' => hQ h' s.toks fun b o hb e => he' b o (fun z => hb (by simp [z])) e
  self := fun _ _ _ _ st hQ => wpAny_pyIter_keyiter st.1 hQ
theorem src_keys (lo : (d == sysModules) = false) (hx : od.ExactDict) (hdd : od.data = .dict es ep) : PySem.W.KdlSrc prog w "dict" d d es.size (fun i v => es[i]?.map (·.key) = some v) (fun h => h.get? d = some od) where
  type := fun _ hm => ⟨od, hm, hx.1⟩
  there := fun _ hm => ⟨Heap.lt_size hm, Heap.lt_size hm⟩
  keep := fun _ _ hm hk => hk d (.inl rfl) _ hm
  notList := by decide
  notTuple := by decide
  hint := fun _ _ _ _ hm hq => PySem.W.kdl_hint_dict ⟨od, hm, hx.1⟩ hq
  iter := fun _ _ hh hm => ⟨_, _, (fun _ _ hq => iter_keys lo hm hx hdd hq), walks_keys hh _ (Nat.ne_of_lt (Heap.lt_size hm)) hdd, ⟨⟨_, Heap.get?_push_size _ rfl, rfl, rfl⟩, Heap.get?_push_of_some _ hm⟩⟩
end
section
variable {prog : Program} {w : World} {A : Around} {E : Value → Shared → Prop} {s : Shared} {d : Addr} {ep : Nat} {od : Obj} {es : Array DictEntry}
theorem meets_len_raw (lo : (d == sysModules) = false) (hdd : od.data = .dict es ep) :
    MeetsIn prog w (Builtin.«dict.__len__» ⟨[.ref d], []⟩) (fun _ R s => s.heap.get? d = some od ∧ R (.ok (.ret (.int es.size s.toks))) { s with toks := s.toks + 1 }) :=
  .of_wp fun A R s ⟨ho, h⟩ => by
    show wpAny _ _ (dictSize d >>= _) _ _ s
    unfold dictSize
    refine wpAny_bind (wpAny_bind (wpAny_dictEntries ho hdd (wpAny_pure ?_)))
    show wpAny _ _ (Builtin.Dict.pendingCount d >>= _) _ _ s
    exact wpAny_bind (wpAny_pendingCount_other lo (wpAny_ret_mkInt (by rw [Nat.add_zero]; exact h)))
theorem len_raw {Q : Value → Shared → Prop} (lo : (d == sysModules) = false) (ho : s.heap.get? d = some od) (hx : od.ExactDict) (hdd : od.data = .dict es ep) (hfit : (es.size : Int) < 2 ^ 63)
    (h : Q (.int es.size (s.toks + 1)) { s with toks := s.toks + 1 + 1 }) : wpAny (model prog w) A (Builtin.«len» ⟨[.ref d], []⟩) (fun fin s' => ∃ r, fin = .done (.ret r) ∧ Q r s') E s := by
  have hT : s.TypeIs (.ref d) "dict" := ⟨od, ho, hx.1⟩
  unfold Builtin.«len»
  refine wpAny_bind (m := oneArg "len" _) (wpAny_pure ?_)
  refine wpAny_bind (m := callSpecial? (.ref d) (Str.ofString "__len__")) (wpAny_callSpecial?_slot (name := Str.ofString "__len__") hT PySem.F.slot_dict_len (call_meetsIn PySem.F.slot_dict_len hT PySem.F.entry_dict_len (PySem.F.args_dict_len_1 _) (meets_len_raw lo hdd) ⟨ho, ?_⟩))
  show wpAny _ _ _ _ _ { s with toks := s.toks + 1 }
  refine wpAny_bind (wpAny_holding (wpAny_pure (wpAny_bind (wpAny_letGo ?_))))
  show wpAny _ _ (if ((es.size : Nat) : Int) < 0 then _ else _) _ _ _
  rw [if_neg (by omega)]
  show wpAny _ _ (if ((es.size : Nat) : Int) ≥ 2 ^ 63 then _ else _) _ _ _
  rw [if_neg (by omega)]
  exact wpAny_bind (wpAny_mkInt (wpAny_pure ⟨_, rfl, h⟩))
end
section
variable {X : Cx} {pins : List (Addr × Obj)} {σ : St} {H : Hp} {s : Shared} {a : Addr} {kvs : List (List Key × V)} {k : List Key}
/-- what the keys of a dict of tuples are in the heap -/
theorem dt_raw (I : Inv X pins σ H s) (e : Rd H a (.dT kvs)) : ∃ (od : Obj) (es : Array DictEntry) (ep : Nat), s.heap.get? a = some od ∧ od.ExactDict ∧ od.data = .dict es ep ∧ (a == sysModules) = false ∧ es.size = kvs.length ∧ kvs.length ≤ sizeLine ∧
    ∀ (i : Nat) (p : List Key × V), kvs[i]? = some p → ∃ b, es[i]?.map (·.key) = some (.ref b) ∧ H b = some (.tup (p.1.map kV)) := by
  obtain ⟨z, hd, xs, rel, o, es, ep, h1, h2, h3, h4, h5⟩ := (show ObjOk X.prog X.w H s.heap a (.dT kvs) from e.ok I.hok)
  have hl : kvs.length = xs.length := Paired.length rel
  refine ⟨o, es, ep, h1, h2, h3, hd, by rw [size_of_entries h4, hl], z, fun i p hp => ?_⟩
  have all : ∀ {l : List (List Key × V)} {m : List (List Key × Addr × Value)}, KT H l m → ∀ (i : Nat) p, l[i]? = some p → ∃ q, m[i]? = some q ∧ H q.2.1 = some (.tup (p.1.map kV)) := by
    intro l m q
    induction q with
    | nil => intro i p h; simp at h
    | @cons p' q' ps qs hq t ih =>
      intro i p h
      cases i with
      | zero =>
        have : p' = p := by simpa using h
        subst this
        exact ⟨q', by simp, hq.2.1⟩
      | succ i => obtain ⟨q2, e1, e2⟩ := ih i p (by simpa using h); exact ⟨q2, by simpa using e1, e2⟩
  obtain ⟨q, e1, e2⟩ := all rel i p hp
  refine ⟨q.2.1, ?_, e2⟩
  rw [entry_at h4 i, e1]
  rfl
/-- list(d) of a dict of tuples -/
theorem call_listD (hc : X.calm = true) : CallR X (.type "list") (fun xs H Q => ∃ a kvs, xs = [V.ref a] ∧ Rd H a (.dT kvs) ∧ ∀ l ys, H l = none → ys.length = kvs.length → (∀ (i : Nat) p, kvs[i]? = some p → ∃ b, ys[i]? = some (V.ref b) ∧ H b = some (.tup (p.1.map kV))) → Q (.ref l) (upd H l (.lst ys))) := by
  intro pins s σ H xs us Q I r h
  obtain ⟨a, kvs, rfl, ha, q⟩ := h
  obtain ⟨u, rfl, ru⟩ := vals1 r
  cases ru
  obtain ⟨od, es, ep, h1, h2, h3, h4, h5, h6, h7⟩ := dt_raw I ha
  refine PySem.W.kdl_call (src_keys h4 h2 h3) (I.ok.hd hc) h1 (by rw [h5]; exact h6) fun h' tk acc' c' hk hD hacc => ?_
  have addr : ∀ i : Nat, i < kvs.length → ∃ b, acc'[i]? = some (.ref b) ∧ ∀ p, kvs[i]? = some p → H b = some (.tup (p.1.map kV)) := fun i hi => by
    obtain ⟨b, e1, e2⟩ := h7 i kvs[i] (by simp [hi])
    have hi' : i < acc'.size := by rw [hacc.1, h5]; exact hi
    have : es[i]?.map (·.key) = some acc'[i] := hacc.2 i acc'[i] (by simp [hi'])
    rw [e1] at this
    refine ⟨b, by rw [Array.getElem?_eq_getElem hi', ← Option.some.inj this], fun p hp => ?_⟩
    rw [List.getElem?_eq_getElem hi] at hp
    rw [← Option.some.inj hp]
    exact e2
  have vals : Vals (acc'.toList.map fun v => match v with | .ref b => V.ref b | _ => V.non) acc'.toList := by
    have : ∀ l : List Value, (∀ v ∈ l, ∃ b, v = Value.ref b) → Vals (l.map fun v => match v with | .ref b => V.ref b | _ => V.non) l := by
      intro l
      induction l with
      | nil => intro _; exact .nil
      | cons v r ih =>
        intro hv
        obtain ⟨b, rfl⟩ := hv v List.mem_cons_self
        exact .cons rfl (ih fun w hw => hv w (List.mem_cons_of_mem _ hw))
    refine this _ fun v hv => ?_
    obtain ⟨i, hi, rfl⟩ := List.getElem_of_mem hv
    have hi' : i < kvs.length := by
      have : i < acc'.size := by simpa using hi
      rw [hacc.1, h5] at this
      exact this
    obtain ⟨b, e1, _⟩ := addr i hi'
    refine ⟨b, ?_⟩
    rw [← Array.getElem?_toList, List.getElem?_eq_getElem hi] at e1
    exact Option.some.inj e1
  have hlen : (acc'.toList.map fun v => match v with | .ref b => V.ref b | _ => V.non).length = kvs.length := by
    rw [List.length_map, Array.length_toList, hacc.1, h5]
  refine ⟨.ref s.heap.objs.size, _, I.laid (t' := tk) hk (Nat.le_refl _) (show ObjOk X.prog X.w _ h' _ (.lst _) from ⟨by rw [hlen]; exact h6, acc'.toList, c', vals, by simpa using hD⟩), rfl, q _ _ I.fresh hlen fun i p hp => ?_⟩
  have hi : i < kvs.length := (List.getElem?_eq_some_iff.mp hp).1
  obtain ⟨b, e1, e2⟩ := addr i hi
  refine ⟨b, ?_, e2 p hp⟩
  rw [List.getElem?_map, Array.getElem?_toList, e1]
  rfl
/-- len of a dict of tuples -/
theorem call_lenT : CallR X (.builtin "len") (fun xs H Q => ∃ a kvs, xs = [V.ref a] ∧ Rd H a (.dT kvs) ∧ Q (.int (kvs.length : Nat)) H) := by
  intro pins s σ H xs us Q I r h
  obtain ⟨a, kvs, rfl, ha, q⟩ := h
  obtain ⟨u, rfl, ru⟩ := vals1 r
  cases ru
  obtain ⟨od, es, ep, h1, h2, h3, h4, h5, h6, h7⟩ := dt_raw I ha
  refine Calls.call_function_entry PySem.kind_len PySem.plain_len PySem.entry_len (PySem.args_len1 _) (len_raw h4 h1 h2 h3 (by rw [h5]; rw [sizeLine_eq] at h6; omega) ?_)
  exact ⟨.int (kvs.length : Nat), H, I.tok _, ⟨_, by rw [h5]⟩, q⟩
theorem map_erase {α β : Type} (f : α → β) : ∀ (l : List α) (i : Nat), (l.map f).eraseIdx i = (l.eraseIdx i).map f
  | [], _ => rfl
  | _ :: _, 0 => rfl
  | x :: r, i + 1 => by
    show f x :: (r.map f).eraseIdx i = f x :: (r.eraseIdx i).map f
    rw [map_erase f r i]
/-- taken out of a dict of tuples -/
theorem take_out {prog : Program} {w : World} {κ : Type} [DecidableEq κ] {knd : HeapKind prog w κ} {A : Around} {E : Value → Shared → Prop} {s : Shared} {d b : Addr} {xs : List (κ × Addr × Value)} {j : Nat} {key : κ} {p : Addr × Value} {Q : Option DictEntry → Shared → Prop} (hu : knd.room A) (hkey : knd.is s.heap key b)
    (hm : s.heap.DictOfH knd d xs) (hj : xs[j]? = some (key, p)) (hz : xs.length ≤ sizeLine)
    (hQ : ∀ h', h'.DictOfH knd d (xs.eraseIdx j) → Heap.SameBut d s.heap h' → Q (some (entryOfKey knd (key, p))) { s with heap := h', toks := s.toks + knd.draws key }) : wpAny (model prog w) A (Builtin.Dict.takeOut d (.ref b)) Q E s := by
  obtain ⟨o, es, ep, ho, hc, hd, he, his, hn⟩ := hm
  unfold Builtin.Dict.takeOut
  try with_reducible refine wpAny_holding ?_
  refine wpAny_bind (knd.pyHash hu hkey (wpAny_bind (wpAny_dictFind_heap (s := { s with toks := s.toks + knd.draws key }) hu hkey ho hd he his hn (fun no => absurd hj (no j p)) fun i q hi => ?_)))
  have e : i = j := idxH_unique hn hi hj
  subst e
  refine wpAny_bind (wpAny_dictEntries (s := { s with toks := s.toks + knd.draws key }) ho hd ?_)
  rw [entry_at he i, hj]
  refine wpAny_bind (wpAny_updateDictKeys (hz := by have := size_of_entries he; omega) (s := { s with toks := s.toks + knd.draws key }) ho hd (wpAny_pure (hQ _ ⟨_, _, ep + 1, Heap.get?_update_self _ ho (Obj.isFreed_of_dict (Obj.data_mapDictKeys hd _)), hc.mapDictKeys _, Obj.data_mapDictKeys hd _, ?_, fun x hx => ?_, ?_⟩ (Heap.SameBut.update ..))))
  · have hi' : i < es.size := by
      rw [size_of_entries he]
      exact (List.getElem?_eq_some_iff.mp hj).1
    rw [Array.eraseIdxIfInBounds, dif_pos hi']
    simp [he, map_erase]
  · exact knd.keeps (his x (List.mem_of_mem_eraseIdx hx)) ho hd (Heap.SameBut.update ..)
  · exact hn.sublist ((List.eraseIdx_sublist _ _).map _)
end
end L2
end

section
set_option Elab.async false
set_option linter.all false
set_option maxRecDepth 100000
set_option maxHeartbeats 4000000
namespace L2
open PySem PySem.Spec PyProof.Rows PySem.SeqAt
section
variable {κ : Type} [DecidableEq κ]
theorem dropK_erase : ∀ {kvs : List (κ × V)} {j : Nat} {k : κ} {v : V}, (kvs.map (·.1)).Nodup → kvs[j]? = some (k, v) → dropK kvs k = kvs.eraseIdx j
  | [], _, _, _, _, h => by simp at h
  | p :: r, 0, k, v, nd, h => by
    have e : p = (k, v) := by simpa using h
    subst e
    have nd : (k :: r.map (·.1)).Nodup := nd
    rw [dropK_pos rfl, dropK_no (List.nodup_cons.mp nd).1]
    rfl
  | p :: r, j + 1, k, v, nd, h => by
    have nd : (p.1 :: r.map (·.1)).Nodup := nd
    have h : r[j]? = some (k, v) := by simpa using h
    have ne : ¬ p.1 = k := fun e => (List.nodup_cons.mp nd).1 (e ▸ List.mem_map.mpr ⟨(k, v), List.mem_of_getElem? h, rfl⟩)
    rw [dropK_neg ne, dropK_erase (List.nodup_cons.mp nd).2 h]
    rfl
theorem valV_at {kvs : List (κ × V)} {k : κ} {v : V} (h : valV kvs k = some v) : ∃ j : Nat, kvs[j]? = some (k, v) := by
  unfold valV at h
  obtain ⟨p, hp, e⟩ := Option.map_eq_some_iff.mp h
  have h1 := List.find?_some hp
  have h2 := List.mem_of_find?_eq_some hp
  obtain ⟨j, hj, e2⟩ := List.getElem_of_mem h2
  refine ⟨j, ?_⟩
  rw [List.getElem?_eq_getElem hj, e2]
  have : p.1 = k := of_decide_eq_true h1
  rw [← this, ← e]
end
theorem paired_erase {α β : Type} {F : α → β → Prop} : ∀ {l : List α} {m : List β} (i : Nat), Paired F l m → Paired F (l.eraseIdx i) (m.eraseIdx i)
  | _, _, _, .nil => .nil
  | _, _, 0, .cons _ t => t
  | _, _, i + 1, .cons h t => .cons h (paired_erase i t)
theorem paired_at {α β : Type} {F : α → β → Prop} : ∀ {l : List α} {m : List β} {i : Nat} {x : α}, Paired F l m → l[i]? = some x → ∃ y, m[i]? = some y ∧ F x y
  | _, _, _, _, .nil, h => by simp at h
  | _, b :: _, 0, x, .cons (a := a) h _, e => ⟨b, by simp, by
      have e : a = x := by simpa using e
      rw [← e]; exact h⟩
  | _, _, i + 1, x, .cons _ t, e => by
    obtain ⟨y, e1, e2⟩ := paired_at (i := i) (x := x) t (by simpa using e)
    exact ⟨y, by simpa using e1, e2⟩
section
variable {X : Cx} {pins : List (Addr × Obj)} {σ : St} {H : Hp} {s : Shared} {a b : Addr} {kvs : List (List Key × V)} {k : List Key} {A : Around} {E : Value → Shared → Prop}
theorem kt_keys {xs : List (List Key × Addr × Value)} : ∀ {kvs : List (List Key × V)} {xs : List (List Key × Addr × Value)}, KT H kvs xs → kvs.map (·.1) = xs.map (·.1)
  | _, _, .nil => rfl
  | _, _, .cons h t => by rw [List.map_cons, List.map_cons, h.1, kt_keys (xs := []) t]
/-- the heap's side of a removal -/
theorem dt_take {v : V} {Q : Option DictEntry → Shared → Prop} (hu : A.units < cLine) (I : Inv X pins σ H s) (e : H a = some (.dT kvs)) (eb : H b = some (.tup (k.map kV))) (l : valV kvs k = some v)
    (h : ∀ en s', Inv X pins σ (upd H a (.dT (dropK kvs k))) s' → RelV v en.val → Q (some en) s') (hr : (tupleKind (mixKind X.prog X.w)).room A) : wpAny (model X.prog X.w) A (Builtin.Dict.takeOut a (.ref b)) Q E s := by
  obtain ⟨z, hd, xs, rel, dd⟩ := dt_of I.hok e
  obtain ⟨j, hj⟩ := valV_at l
  obtain ⟨q, hq, q1, q2, q3⟩ := paired_at rel hj
  have nd : (kvs.map (·.1)).Nodup := by
    obtain ⟨_, _, _, _, _, _, _, _, n⟩ := dd
    rw [kt_keys (xs := xs) rel]
    exact n
  obtain ⟨qk, qa, qv⟩ := q
  cases q1
  refine take_out (j := j) hr (key_of I.hok eb) dd hq (by rw [← Paired.length rel]; exact z) fun h' dd' hs => ?_
  obtain ⟨o, es, ep, ho, h2, h3, h4, _, h5⟩ := dd'
  refine h _ _ (d_write (t' := s.toks + (tupleKind (mixKind X.prog X.w)).draws k) I (by rw [e]; exact True.intro) hs ⟨o, ho⟩ ⟨?_, hd, xs.eraseIdx j, ?_, o, es, ep, ho, h2, h3, h4, h5⟩) q3
  · exact Nat.le_trans (dropK_le kvs k) z
  · rw [dropK_erase nd hj]
    refine KT.keeps (paired_erase j rel) fun c ys ec => ?_
    rw [upd_ne (ne_of ec e (fun z => nomatch z))]
    exact ec
/-- del d[k] -/
theorem d_delT {v : V} {Q : Unit → Shared → Prop} (hu : A.units + 2 < cLine) (I : Inv X pins σ H s) (e : H a = some (.dT kvs)) (eb : H b = some (.tup (k.map kV))) (l : valV kvs k = some v) (h : ∀ s', Inv X pins σ (upd H a (.dT (dropK kvs k))) s' → Q () s') :
    wpAny (model X.prog X.w) A (delItem (.ref a) (.ref b)) Q E s := by
  obtain ⟨z, hd, xs, rel, dd⟩ := dt_of I.hok e
  refine wpAny_delItem_slot dd.typeIs (by decide) PySem.F.slot_dict_delitem (wpAny_call_entry PySem.F.slot_dict_delitem dd.typeIs PySem.F.entry_dict_delitem ?_ (PySem.F.args_dict_delitem_2 _ _))
  unfold Builtin.«dict.__delitem__»
  refine wpAny_bind ?_
  unfold Builtin.Dict.dictSlotArgs
  refine wpAny_bind (wpAny_notOrdered_dict dd.typeIs ?_)
  show wpAny _ _ (pure (Value.ref a, Value.ref b)) _ _ s
  refine wpAny_pure ?_
  show wpAny _ _ (Builtin.Dict.takeOut a (.ref b) >>= _) _ _ s
  refine wpAny_bind (dt_take (by rw [in1_units]; omega) I e eb l (fun en s' I' r => ?_) (tupleKind_room_in1 (by omega)))
  exact wpAny_bind (wpAny_letGo (wpAny_pure ⟨.none, rfl, h s' I'⟩))
/-- d.pop(k), there -/
theorem d_popT {v : V} {Q : Value → Shared → Prop} (hu : A.units + 2 < cLine) (I : Inv X pins σ H s) (e : H a = some (.dT kvs)) (eb : H b = some (.tup (k.map kV))) (l : valV kvs k = some v)
    (h : ∀ w' s', Inv X pins σ (upd H a (.dT (dropK kvs k))) s' → RelV v w' → Q w' s') : wpAny (model X.prog X.w) A (call (.builtin "dict.pop") [.ref a, .ref b]) Q E s := by
  obtain ⟨z, hd, xs, rel, dd⟩ := dt_of I.hok e
  refine wpAny_call_entry PySem.F.slot_dict_pop dd.typeIs PySem.F.entry_dict_pop ?_ (PySem.F.args_dict_pop_2 _ _)
  unfold Builtin.«dict.pop»
  refine wpAny_bind ?_
  unfold Builtin.Dict.keyAndDefault
  refine wpAny_bind (wpAny_notOrdered_dict dd.typeIs ?_)
  show wpAny _ _ (pure (a, Value.ref b, none)) _ _ s
  refine wpAny_pure ?_
  obtain ⟨od, es, ep, h1, h2, h3, h4, h5, h6, h7⟩ := dt_raw I (.inl e)
  have ne : es.isEmpty = false := by
    obtain ⟨j, hj⟩ := valV_at l
    have := (List.getElem?_eq_some_iff.mp hj).1
    rw [Array.isEmpty_eq_false_iff]
    intro z
    rw [z] at h5
    simp at h5
    omega
  simp only [show (keyPart (Value.ref b)).isSome = false from rfl, Bool.false_eq_true, if_false]
  refine wpAny_bind (wpAny_dictEntries h1 h3 (wpAny_bind (wpAny_pure ?_)))
  simp only [ne, Bool.false_eq_true, if_false]
  refine wpAny_bind (dt_take (by rw [in1_units]; omega) I e eb l (fun en s' I' r => ?_) (tupleKind_room_in1 (by omega)))
  simp only [Option.isNone_some, Bool.false_eq_true, if_false]
  exact wpAny_bind (wpAny_letGo (wpAny_pure ⟨en.val, rfl, h _ s' I' r⟩))
end
/-! ### the statements and calls -/
def sDDelT (td ty : TE) : TS := fun D σ H => td σ H fun x H1 => ty σ H1 fun y H2 => ∃ a b kvs k v, x = .ref a ∧ y = .ref b ∧ H2 a = some (.dT kvs) ∧ H2 b = some (.tup (k.map kV)) ∧ valV kvs k = some v ∧ D.nx σ (upd H2 a (.dT (dropK kvs k)))
def tDPopT (td ty : TE) : TE := fun σ H Q => td σ H fun x H1 => ∃ a, x = .ref a ∧ IsD H1 a ∧ ty σ H1 fun y H2 => ∃ b kvs k v, y = .ref b ∧ H2 a = some (.dT kvs) ∧ H2 b = some (.tup (k.map kV)) ∧ valV kvs k = some v ∧ Q v (upd H2 a (.dT (dropK kvs k)))
section
variable {X : Cx} {o i e : Expr} {td ty : TE} {pos tpos apos cpos : Pos}
theorem pe_dpopT (hu : X.A.units + 2 < cLine) (ho : PE X o td) (he : PE X e ty) (m : M1 X o "pop" apos e cpos) : PE X (.Call (.Attribute o "pop" apos) [e] [] cpos) (tDPopT td ty) := by
  intro pins s σ H Q I h
  refine wpAny_Call_method m.base m.few m.line PySem.F.plainAttrs_dict PySem.F.slot_dict_pop PySem.F.type_dict_pop (thn (ho pins s σ H _ I h) fun u s1 ⟨x, H1, I1, rx, a, ex, d, q1⟩ => ?_)
  subst ex
  obtain rfl : u = Value.ref a := rx
  obtain ⟨t1, t2, _⟩ := isD_at I1 d
  refine ⟨t1, t2, ?_⟩
  rw [m.trees]
  refine Calls.callWith_builtin rfl (Calls.evalArgs_plain (Calls.spliced_cons (thn (he pins s1 σ H1 _ I1 q1) fun iv s2 ⟨y, H2, I2, ry, b, kvs, k, v, ey, ea, eb, l, q2⟩ => Calls.spliced_nil ?_)))
  subst ey
  obtain rfl : iv = Value.ref b := ry
  exact d_popT hu I2 ea eb l fun w' s3 I3 rw' => ⟨v, _, I3, rw', q2⟩
end
end L2
end

section
set_option Elab.async false
set_option linter.all false
set_option maxRecDepth 100000
set_option maxHeartbeats 4000000
namespace L2
open PySem PySem.Spec PyProof.Rows PySem.SeqAt
section
variable {X : Cx} {pins : List (Addr × Obj)} {σ : St} {H : Hp} {s : Shared} {d : Addr} {od : Obj} {kvs : List (List Key × V)}
/-- a dict that is walked: known to its object -/
theorem Inv.freeze (I : Inv X pins σ H s) (e : H d = some (.dT kvs)) (he : s.heap.get? d = some od) : Inv X pins σ (upd H d (.frz od (.dT kvs))) s := by
  have nn : ∀ b, H b = none → b ≠ d := fun b n z => by rw [z, e] at n; cases n
  have stay : ∀ {b : Addr} {o : HO}, ObjOk X.prog X.w H s.heap b o → ObjOk X.prog X.w (upd H d (.frz od (.dT kvs))) s.heap b o := fun {b o} x =>
    x.stay (fun _ _ _ q => q) (fun c q => by rw [upd_ne (ne_of q e (fun z => nomatch z))]; exact q) fun c xs q => by rw [upd_ne (ne_of q e (fun z => nomatch z))]; exact q
  refine ⟨I.ok, I.os, I.bare, ⟨I.base.keep, I.base.slot, fun b ob q n x => ?_, I.base.there, fun b xs q => ?_, fun b ob u q => ?_, fun b ps q => ?_⟩, I.loc, I.cell, ?_, fun y c q => ?_, fun p q => ?_, fun b u q => ?_, I.len⟩
  · rw [upd_ne (nn b (I.base.free b ob q n x))]; exact I.base.free b ob q n x
  · rw [upd_ne (ne_of (I.base.tups b xs q) e (fun z => nomatch z))]; exact I.base.tups b xs q
  · rw [upd_ne (ne_of (I.base.frzs b ob u q) e (fun z => nomatch z))]; exact I.base.frzs b ob u q
  · obtain ⟨mr, q'⟩ := I.base.tbls b ps q
    exact ⟨mr, by rw [upd_ne (ne_of q' e (fun z => nomatch z))]; exact q'⟩
  · rw [upd_ne (nn _ I.free)]; exact I.free
  · rw [upd_ne (nn _ (I.freeC y c q))]; exact I.freeC y c q
  · obtain ⟨h1, h2, h3, h4, h5⟩ := I.pin p q
    exact ⟨h1, by rw [upd_ne (nn _ h2)]; exact h2, h3, h4, h5⟩
  · by_cases hb : b = d
    · subst hb
      rw [upd_same] at q
      cases q
      exact ⟨he, stay (I.hok _ _ e)⟩
    · rw [upd_ne hb] at q
      exact stay (I.hok b u q)
theorem Inv.thaw (I : Inv X pins σ H s) (e : H d = some (.frz od (.dT kvs))) (n0 : ∀ o u, X.H₀ d ≠ some (.frz o u)) : Inv X pins σ (upd H d (.dT kvs)) s := by
  have nn : ∀ b, H b = none → b ≠ d := fun b n z => by rw [z, e] at n; cases n
  have stay : ∀ {b : Addr} {o : HO}, ObjOk X.prog X.w H s.heap b o → ObjOk X.prog X.w (upd H d (.dT kvs)) s.heap b o := fun {b o} x =>
    x.stay (fun _ _ _ q => q) (fun c q => by rw [upd_ne (ne_of q e (fun z => nomatch z))]; exact q) fun c xs q => by rw [upd_ne (ne_of q e (fun z => nomatch z))]; exact q
  refine ⟨I.ok, I.os, I.bare, ⟨I.base.keep, I.base.slot, fun b ob q n x => ?_, I.base.there, fun b xs q => ?_, fun b ob u q => ?_, fun b ps q => ?_⟩, I.loc, I.cell, ?_, fun y c q => ?_, fun p q => ?_, fun b u q => ?_, I.len⟩
  · rw [upd_ne (nn b (I.base.free b ob q n x))]; exact I.base.free b ob q n x
  · rw [upd_ne (ne_of (I.base.tups b xs q) e (fun z => nomatch z))]; exact I.base.tups b xs q
  · have hb : b ≠ d := fun z => by rw [z] at q; exact n0 _ _ q
    rw [upd_ne hb]; exact I.base.frzs b ob u q
  · obtain ⟨mr, q'⟩ := I.base.tbls b ps q
    exact ⟨mr, by rw [upd_ne (ne_of q' e (fun z => nomatch z))]; exact q'⟩
  · rw [upd_ne (nn _ I.free)]; exact I.free
  · rw [upd_ne (nn _ (I.freeC y c q))]; exact I.freeC y c q
  · obtain ⟨h1, h2, h3, h4, h5⟩ := I.pin p q
    exact ⟨h1, by rw [upd_ne (nn _ h2)]; exact h2, h3, h4, h5⟩
  · by_cases hb : b = d
    · subst hb
      rw [upd_same] at q
      cases q
      exact stay (I.hok _ _ e).2
    · rw [upd_ne hb] at q
      exact stay (I.hok b u q)
end
def tThaw (H0 : Hp) (te : TE) : TE := fun σ H Q => te σ H fun v H' => ∃ d o kvs, H' d = some (.frz o (.dT kvs)) ∧ (∀ o u, H0 d ≠ some (.frz o u)) ∧ Q v (upd H' d (.dT kvs))
theorem pe_thaw {X : Cx} {e : Expr} {te : TE} (h : PE X e te) : PE X e (tThaw X.H₀ te) := fun pins s σ H Q I q =>
  thn (h pins s σ H _ I q) fun u s1 ⟨v, H1, I1, r, d, o, kvs, e1, n0, q1⟩ => ⟨v, _, I1.thaw e1 n0, r, q1⟩
/-- behind the statement the dict is free again -/
def sThaw (H0 : Hp) (t : TS) : TS := fun D σ H => t { D with nx := fun σ' H' => ∃ d o kvs, H' d = some (.frz o (.dT kvs)) ∧ (∀ o u, H0 d ≠ some (.frz o u)) ∧ D.nx σ' (upd H' d (.dT kvs)) } σ H
theorem ps_thaw {X : Cx} {st : Stmt} {t : TS} (h : PS X st t) : PS X st (sThaw X.H₀ t) := fun pins s σ H D I q =>
  thn (h pins s σ H _ I q) fun f s1 z => by
    cases f with
    | next =>
      obtain ⟨σ', H', I', d, o, kvs, e1, n0, q1⟩ := z
      exact ⟨σ', _, I'.thaw e1 n0, q1⟩
    | brk => exact z
    | cont => exact z
    | ret u => exact z
/-! ### the keys of a dict of tuples -/
def Itd (d : Addr) (od : Obj) (kvs : List (List Key × V)) : It :=
  ⟨fun i H => H d = some (.frz od (.dT kvs)) ∧ i < kvs.length, fun i H x H' => H' = H ∧ ∃ b p, kvs[i]? = some p ∧ x = .ref b ∧ H b = some (.tup (p.1.map kV)), fun i H => H d = some (.frz od (.dT kvs)) ∧ kvs.length ≤ i⟩
theorem turn_dict {P : Program} {w : World} {K : PySem.W.Frag} {tg : Expr} {d : Addr} {od : Obj} {es : Array DictEntry} {ep : Nat} {kvs : List (List Key × V)} (it : Addr) (hdd : od.data = .dict es ep) :
    Turn P w K tg (Itd d od kvs) [it] it (fun i h => h.IsKeyIter it d i es.size ep) where
  mem := by simp
  obj := fun i h st b hb => by
    have e : b = it := by simpa using hb
    subst e
    obtain ⟨o, e, c, q⟩ := st
    exact ⟨o, e, fun v z => by rw [q] at z; cases z⟩
  keep := fun i h h' st k => st.at fun o e => k it (by simp) o e
  item := by
    intro X hP hw hK hc i pins s σ H E I hf st hg
    subst hP hw hK
    obtain ⟨hd, hi⟩ := hg
    obtain ⟨f0, f1, f2, f3, f4, f5⟩ := hf it (by simp)
    obtain ⟨od', es', ep', h1, h2, h3, h4, h5, h6, h7⟩ := dt_raw I (.inr ⟨od, hd⟩)
    have h0 : s.heap.get? d = some od := (I.hok d _ hd).1
    rw [h0] at h1
    cases h1
    rw [hdd] at h3
    cases h3
    obtain ⟨b, e1, e2⟩ := h7 i kvs[i] (by simp [hi])
    have hi' : i < es.size := by rw [h5]; exact hi
    refine next_key st h0 hdd rfl hi' fun h' st' sb => ?_
    have I1 : Inv X pins σ H { s with heap := h' } := I.turned (t' := s.toks) (fun b o hb e => (sb.2 b hb).trans e) f0 f1 f3 f4 f5
    obtain ⟨o, e, c, q⟩ := id st'
    have ek : es[i].key = .ref b := by
      rw [Array.getElem?_eq_getElem hi'] at e1
      exact Option.some.inj e1
    refine ⟨_, rfl, ?_⟩
    rw [ek]
    exact go_of (s := { s with heap := h' }) e c q (by decide) ⟨.ref b, H, I1, rfl, ⟨rfl, b, kvs[i], by simp [hi], rfl, e2⟩, st', fun b hb => (hf b hb).1⟩
  done := by
    intro X hP hw hK hc i pins s σ H E I hf st hg
    subst hP hw hK
    obtain ⟨hd, hi⟩ := hg
    obtain ⟨f0, f1, f2, f3, f4, f5⟩ := hf it (by simp)
    obtain ⟨od', es', ep', h1, h2, h3, h4, h5, h6, h7⟩ := dt_raw I (.inr ⟨od, hd⟩)
    have h0 : s.heap.get? d = some od := (I.hok d _ hd).1
    rw [h0] at h1
    cases h1
    rw [hdd] at h3
    cases h3
    exact next_end (I.ok.hd hc) st h0 hdd rfl (by rw [h5]; exact hi) fun h' eb => ⟨rfl, I.turned (t' := s.toks) (fun b o hb e => eb b o hb e) f0 f1 f3 f4 f5⟩
  self := fun _ _ _ _ _ st h => wpAny_pyIter_keyiter st h
def iDict (tl : TE) : TI := fun σ H R => tl σ H fun x H1 => ∃ d kvs, x = .ref d ∧ H1 d = some (.dT kvs) ∧ ∀ od, R (Itd d od kvs) (upd H1 d (.frz od (.dT kvs)))
end L2
end

section
set_option Elab.async false
set_option linter.all false
set_option maxRecDepth 100000
set_option maxHeartbeats 4000000
namespace L2
open PySem PySem.Spec PyProof.Rows PySem.SeqAt
section
variable {X : Cx} {pos : Pos}
/-- a, b, c = x, y, z with plain local names -/
def tPar3 (i j k : Nat) (ta : TA) : TS := fun D σ H => ta σ H fun vs H1 => ∃ v w z, vs = [v, w, z] ∧ D.nx (((σ.set k (some z)).set j (some w)).set i (some v)) H1
theorem ps_par3 {i j k : Nat} {x y z : Str} {a b c : Expr} {ta : TA} {px py pz pt : Pos} {kt k2 pt2} (hc : X.calm = true) (hN : X.N.Nodup) (hi : X.N[i]? = some x) (hj : X.N[j]? = some y) (hk : X.N[k]? = some z)
    (hx : X.env.scope.names.lookup x = some .local) (hy : X.env.scope.names.lookup y = some .local) (hz : X.env.scope.names.lookup z = some .local) (ha : PA X [a, b, c] ta)
    (hw : swappedStores [.Tuple [.Name x px, .Name y py, .Name z pz] kt pt] (.Tuple [a, b, c] k2 pt2) X.env = pure (some [x, y, z]))
    (hs : swapsWithSole [.Tuple [.Name x px, .Name y py, .Name z pz] kt pt] (.Tuple [a, b, c] k2 pt2) pos.line X.env = pure false := by rfl) :
    PS X (.Assign [.Tuple [.Name x px, .Name y py, .Name z pz] kt pt] (.Tuple [a, b, c] k2 pt2) pos) (tPar3 i j k ta) := by
  intro pins s σ H D I h
  rw [exec_Assign_arm]
  refine wpAny_bind (wpAny_standAt ?_)
  rw [hs]
  refine wpAny_bind (wpAny_pure ?_)
  rw [if_neg (by decide)]
  refine wpAny_bind (Tuple_ (thn (ha _ pins s σ H _ I h) fun us s1 ⟨vs, H1, I1, r1, q1⟩ => ?_))
  obtain ⟨v, w, z', e1, q1⟩ := q1
  subst e1
  obtain ⟨u1, u2, u3, rfl, rv, rw', rz⟩ : ∃ u1 u2 u3, us = [u1, u2, u3] ∧ RelV v u1 ∧ RelV w u2 ∧ RelV z' u3 := by
    cases r1 with
    | cons p q =>
      cases q with
      | cons p' q' =>
        cases q' with
        | cons p2 q2 =>
          cases q2
          exact ⟨_, _, _, rfl, p, p', p2⟩
  refine wpAny_newObj_type ?_ (by show 3 ≤ sizeLine; decide)
  have I2 : Inv X pins σ H1 { s1 with heap := s1.heap.push { cls := .type "tuple", data := .seq [u1, u2, u3].toArray } } := I1.kept (t' := s1.toks) fun b o e => Heap.get?_push_of_some _ e
  rw [hw]
  refine wpAny_bind (wpAny_pure ?_)
  show wpAny (model X.prog X.w) X.A (do rule "assign.swapped-stores"; let items ← unpackItems (.ref s1.heap.objs.size) 3 none; assignInOrder [fun v => bindName X.env z v, fun v => bindName X.env y v, fun v => bindName X.env x v] items.reverse; pure Flow.next) _ _ _
  refine wpAny_bind (wpAny_rule (wpAny_bind (unpackItems_tuple (items := #[u1, u2, u3]) (I.ok.hd hc) (IsTup.new s1.heap _) fun h' hx' => ?_)))
  have I3 := I2.kept (h' := h') (t' := s1.toks) fun b o e => hx' b o (Nat.ne_of_lt (Heap.lt_size e)) e
  show wpAny _ _ (assignInOrder [fun v => bindName X.env z v, fun v => bindName X.env y v, fun v => bindName X.env x v] [u3, u2, u1] >>= fun _ => pure Flow.next) _ _ _
  refine wpAny_bind (assignInOrder_cons (wpAny_bindName (store_ok I3 hN hk (.inl hz) rz (fun s2 I4 => ?_) (.inr hz))))
  refine assignInOrder_cons (wpAny_bindName (store_ok I4 hN hj (.inl hy) rw' (fun s3 I5 => ?_) (.inr hy)))
  refine assignInOrder_cons (wpAny_bindName (store_ok I5 hN hi (.inl hx) rv (fun s4 I6 => assignInOrder_nil (wpAny_pure ?_)) (.inr hx)))
  exact ⟨_, H1, I6, q1⟩
/-- len(o) of an instance, by its own __len__ -/
theorem call_lenO {CX : CXT} {k : Nat} {f C : Addr} {fd : FuncData} {ps : List Str} {sp : Sp} {E : XK} (hm : Meth X.K C "__len__" f) (F : FnOk X.prog X.w X.K X.mg X.base CX k f fd ps sp) (hr : Room (k + 1) X.A) (hb : Binds X.K fd ps []) (hx : Passes CX X E) :
    CallR X (.builtin "len") (fun xs H Q => ∃ a dx fs, xs = [V.ref a] ∧ H a = some (.ins C dx fs) ∧ sp [.ref a] H (fun v H' => ∃ n : Nat, v = .int n ∧ n ≤ sizeLine ∧ Q (.int n) H') E) := by
  intro pins s σ H xs us Q I r h
  obtain ⟨a, dx, fs, rfl, ha, q⟩ := h
  obtain ⟨u, rfl, ru⟩ := vals1 r
  cases ru
  obtain ⟨mA, O, _⟩ := ins_get I.hok ha
  obtain ⟨od, J, _⟩ := O.look
  obtain ⟨m, Fr'⟩ := I.fr
  refine PySem.W.len_K Fr' I.mod.kin J hm.at_ hm.fn (wpAny_call (codeAny_mono (F.run X.A.in1 X.stack s H ⟨[.ref a], []⟩ [.ref a] [.ref a] _ E hr.in1 I.env0.in1 ?_ (.cons rfl .nil) q) fun r s' hq => ?_))
  · have := hb s [.ref a] I.kIn (by simpa using F.len _ _ _ _ q)
    simpa using this
  · cases r with
    | error e => exact hx pins σ H s e s' I hq
    | ok fl =>
      cases fl with
      | ret u =>
        obtain ⟨v, H', I', r', n, rfl, hn, q'⟩ := I.after hq
        obtain ⟨t, rfl⟩ := r'
        rw [sizeLine_eq] at hn
        exact ⟨⟨by omega, by omega⟩, .int n, H', I'.tok _, ⟨_, rfl⟩, q'⟩
      | next => exact False.elim hq
      | brk => exact False.elim hq
      | cont => exact False.elim hq
end
/-! ### kinds -/
inductive Kn where | non | bl | int | str | tup | lst
def Kn.ty : Kn → String
  | .non => "NoneType" | .bl => "bool" | .int => "int" | .str => "str" | .tup => "tuple" | .lst => "list"
def shapeV : V → Kn → Bool
  | .non, .non => true
  | .bl _, .bl => true
  | .int _, .int => true
  | .str _, .str => true
  | .ref _, .tup => true
  | .ref _, .lst => true
  | _, _ => false
structure KindV (K : PySem.W.Frag) (H : Hp) (v : V) (k : Kn) : Prop where
  ty : TyOf K H v (.type k.ty)
  sh : shapeV v k = true
section
variable {K : PySem.W.Frag} {H : Hp}
theorem kn_non : KindV K H .non .non := ⟨.non, rfl⟩
theorem kn_bl (b : Bool) : KindV K H (.bl b) .bl := ⟨.bl b, rfl⟩
theorem kn_int (i : Int) : KindV K H (.int i) .int := ⟨.int i, rfl⟩
theorem kn_str (x : Str) : KindV K H (.str x) .str := ⟨.str x, rfl⟩
theorem kn_tup {a : Addr} {xs : List V} (e : H a = some (.tup xs)) : KindV K H (.ref a) .tup := ⟨.tup e, rfl⟩
theorem kn_lst {a : Addr} {xs : List V} (e : H a = some (.lst xs)) : KindV K H (.ref a) .lst := ⟨.lst e, rfl⟩
end
def isInt : Kn → Bool | .int => true | .bl => true | _ => false
def isBl : Kn → Bool | .bl => true | _ => false
def isStr : Kn → Bool | .str => true | _ => false
def isTup : Kn → Bool | .tup => true | _ => false
def isLst : Kn → Bool | .lst => true | _ => false
theorem kit_int (K : PySem.W.Frag) (k : Kn) : PySem.W.kitOne K (.type k.ty) (.type "int") = some (isInt k) := by cases k <;> with_unfolding_all rfl
theorem kit_bool (K : PySem.W.Frag) (k : Kn) : PySem.W.kitOne K (.type k.ty) (.type "bool") = some (isBl k) := by cases k <;> with_unfolding_all rfl
theorem kit_str (K : PySem.W.Frag) (k : Kn) : PySem.W.kitOne K (.type k.ty) (.type "str") = some (isStr k) := by cases k <;> with_unfolding_all rfl
theorem kit_tuple (K : PySem.W.Frag) (k : Kn) : PySem.W.kitOne K (.type k.ty) (.type "tuple") = some (isTup k) := by cases k <;> with_unfolding_all rfl
theorem kit_list (K : PySem.W.Frag) (k : Kn) : PySem.W.kitOne K (.type k.ty) (.type "list") = some (isLst k) := by cases k <;> with_unfolding_all rfl
section
variable {X : Cx}
def rIsiK (K : PySem.W.Frag) (f : Kn → Bool) (T : String) : List V → Hp → VK → Prop := fun xs H Q => ∃ x k, xs = [x, .ty T] ∧ KindV K H x k ∧ Q (.bl (f k)) H
theorem call_isiK {T : String} {f : Kn → Bool} (hk : ∀ k, PySem.W.kitOne X.K (.type k.ty) (.type T) = some (f k)) : CallR X (.builtin "isinstance") (rIsiK X.K f T) := by
  intro pins s σ H xs us Q I r h
  obtain ⟨x, k, rfl, kn, q⟩ := h
  exact call_isi pins s σ H _ us Q I r ⟨x, .ty T, _, .type T, _, rfl, rfl, fun _ z => z, kn.ty, hk k, q⟩
end
end L2
end

section
set_option Elab.async false
set_option linter.all false
set_option maxRecDepth 100000
set_option maxHeartbeats 4000000
namespace L2
open PySem

/-- what an exception that leaves (or is looked at in) a frame does to the heap: the frames' slots, the exception's own record, a new entry of its trace -/
structure Lft (fs : List Addr) (e : Addr) (oe : Obj) (vs : Array Value) (T : Addr) (h h' : Heap) : Prop where
  keep : ∀ b o, h.get? b = some o → b ≠ e → b ∉ fs → h'.get? b = some o
  slot : ∀ b o, h.get? b = some o → b ∈ fs → ∃ sl, h'.get? b = some { o with slots := sl }
  exc : h'.get? e = some { oe with data := .fields (vs.setIfInBounds 1 (.ref T)) }
  new : h.get? T = none
  trc : ∃ oT ts, h'.get? T = some oT ∧ oT.data = .fields ts ∧ ts[3]? = some .none
section
variable {M : Model} {A : Around} {E : Value → Shared → Prop} {s : Shared}
theorem mapF {o : Obj} {vs : Array Value} (hd : o.data = .fields vs) (f : Array Value → Array Value) : o.mapFields f = { o with data := .fields (f vs) } := by
  obtain ⟨c, d, dt, sl⟩ := o
  have hd : dt = .fields vs := hd
  subst hd
  rfl
theorem mapF_same {o : Obj} {vs : Array Value} {i : Nat} {x : Value} (hd : o.data = .fields vs) (hx : vs[i]? = some x) : o.mapFields (·.setIfInBounds i x) = o := by
  rw [mapF hd]
  have e : vs.setIfInBounds i x = vs := by
    obtain ⟨hi, hxi⟩ := Array.getElem?_eq_some_iff.mp hx
    rw [Array.setIfInBounds_def, dif_pos hi, ← hxi, Array.set_getElem_self]
  rw [e, ← hd]
theorem lft_new {base : Heap} {env : Env} {outer : List Env} {L e : Addr} {oe : Obj} {vs : Array Value} {head : Value} {had : Bool} {Q : Unit → Shared → Prop} (fr : A.frames = some (env :: outer)) (fl : s.heap.FunFrames base (env :: outer))
    (hL : env.frame = some L) (he : s.heap.get? e = some oe) (hd : oe.data = .fields vs) (hsz : 1 < vs.size) (k : ∀ h' T, Lft ((env :: outer).filterMap (·.frame)) e oe vs T s.heap h' → Q () { s with heap := h' }) :
    wpAny M A (do let a ← frameOf env; let pl ← entryPlaceOf L had; let b ← EntryCells.newEntry head a .none (rawInt L) .none pl; setField (.ref e) 1 b) (fun _ s1 => wpAny M A (setFlight (.ref e) none) Q E s1) E s := by
  have ne : e ∉ (env :: outer).filterMap (·.frame) := fun z => by
    obtain ⟨_, o, ho, nf⟩ := fl.mem z
    rw [he] at ho
    cases ho
    exact nf vs hd
  refine wpAny_bind (wpAny_frameOf_fun fr fl hL fun h1 S1 => ?_)
  refine wpAny_bind (wpAny_entryPlaceOf fun pl ip => ?_)
  unfold EntryCells.newEntry newFields
  refine wpAny_bind (wpAny_newObj_type ?_ (ip.sizeOk5 _ _ _ _ _))
  have e1 : h1.get? e = some oe := (S1.2.1 e ne).trans he
  generalize ho : ({ cls := .type "traceback", dict := none, data := .fields ([head, .ref L, .none, rawInt L, .none] ++ (if pl.isEmpty then List.replicate 6 Value.none else pl)).toArray } : Obj) = oT
  have hoT : oT.data = .fields ([head, .ref L, .none, rawInt L, .none] ++ (if pl.isEmpty then List.replicate 6 Value.none else pl)).toArray := by rw [← ho]
  have fT : oT.isFreed = false := by rw [← ho]; rfl
  have e2 : (h1.push oT).get? e = some oe := Heap.get?_push_of_some oT e1
  refine wpAny_setField e2 hd hsz ?_
  have nT : h1.objs.size ≠ e := Nat.ne_of_gt (Heap.lt_size e1)
  have e3 := Heap.get?_update_self (Obj.mapFields (·.setIfInBounds 1 (Value.ref h1.objs.size))) e2 (Obj.isFreed_of_fields (Obj.data_mapFields hd _))
  have t3 : ((h1.push oT).update e (Obj.mapFields (·.setIfInBounds 1 (Value.ref h1.objs.size)))).get? h1.objs.size = some oT := by
    rw [Heap.get?_update_other _ _ (Ne.symm nT)]
    exact Heap.get?_push_size h1 fT
  unfold setFlight
  refine wpAny_bind (wpAny_field e3 (Obj.data_mapFields hd _) (x := .ref h1.objs.size) (by simp [hsz]) ?_)
  rw [if_pos (by simp)]
  refine wpAny_setField t3 hoT (by simp only [List.size_toArray, List.length_append, List.length_cons, List.length_nil] <;> omega) (k _ h1.objs.size ?_)
  have lt : s.heap.objs.size = h1.objs.size := S1.1.symm
  refine ⟨fun b o hb nb nf => ?_, fun b o hb bf => ?_, ?_, ?_, ?_⟩
  · have b1 : h1.get? b = some o := (S1.2.1 b nf).trans hb
    rw [Heap.get?_update_other _ _ (Nat.ne_of_gt (Heap.lt_size b1)), Heap.get?_update_other _ _ (Ne.symm nb)]
    exact Heap.get?_push_of_some _ b1
  · obtain ⟨sl, b1⟩ := S1.2.2 b o hb
    refine ⟨sl, ?_⟩
    rw [Heap.get?_update_other _ _ (Nat.ne_of_gt (Heap.lt_size b1)), Heap.get?_update_other _ _ (fun z => ne (by rw [z]; exact bf))]
    exact Heap.get?_push_of_some _ b1
  · rw [Heap.get?_update_other _ _ nT, e3, mapF hd]
  · rw [← lt]
    exact Heap.get?_none_of_le (Nat.le_refl _)
  · refine ⟨_, _, Heap.get?_update_self _ t3 (Obj.isFreed_of_fields (Obj.data_mapFields hoT _)), Obj.data_mapFields hoT _, ?_⟩
    first
      | (simp; done)
      | (rcases ip with rfl | ⟨_, _, _, _, _, _, _, rfl⟩ <;> simp)
/-- the entry of the trace that was made last, as it lies when the exception is on its way -/
def Trc (h : Heap) (e : Addr) (vs : Array Value) : Prop := vs[1]? = some .none ∨ ∃ T oT ts, vs[1]? = some (.ref T) ∧ T ≠ e ∧ h.get? T = some oT ∧ oT.data = .fields ts ∧ ts[3]? = some .none
theorem lft_note {base : Heap} {env : Env} {outer : List Env} {L e : Addr} {oe : Obj} {vs : Array Value} {Q : Unit → Shared → Prop} (fr : A.frames = some (env :: outer)) (fl : s.heap.FunFrames base (env :: outer))
    (hL : env.frame = some L) (he : s.heap.get? e = some oe) (hd : oe.data = .fields vs) (ht : Trc s.heap e vs) (k : ∀ h' T, Lft ((env :: outer).filterMap (·.frame)) e oe vs T s.heap h' → Q () { s with heap := h' }) :
    wpAny M A (noteFrame (.ref e) env) (fun _ s1 => wpAny M A (setFlight (.ref e) none) Q E s1) E s := by
  unfold noteFrame
  simp only [hL]
  rcases ht with h1 | ⟨T, oT, ts, h1, nT, hT, dT, h3⟩
  · refine wpAny_bind (wpAny_field he hd h1 ?_)
    rw [if_neg (by decide)]
    exact lft_new fr fl hL he hd (Array.getElem?_eq_some_iff.mp h1).1 k
  · refine wpAny_bind (wpAny_field he hd h1 ?_)
    rw [if_pos (by simp)]
    refine wpAny_bind (wpAny_field hT dT h3 ?_)
    rw [if_neg (by simp [rawInt])]
    refine wpAny_bind (wpAny_setField hT dT (Array.getElem?_eq_some_iff.mp h3).1 ?_)
    have same : ∀ b o, s.heap.get? b = some o → (s.heap.update T (Obj.mapFields (·.setIfInBounds 3 Value.none))).get? b = some o := fun b o hb => by
      by_cases z : b = T
      · subst z
        rw [hT] at hb
        cases hb
        rw [Heap.get?_update_self _ hT (Obj.isFreed_of_fields (Obj.data_mapFields dT _)), mapF_same dT h3]
      · rw [Heap.get?_update_other _ _ (Ne.symm z)]; exact hb
    have back : ∀ b, s.heap.get? b = none → (s.heap.update T (Obj.mapFields (·.setIfInBounds 3 Value.none))).get? b = none := fun b hb => by
      rw [Heap.get?_update_other _ _ (fun z => by rw [z, hb] at hT; cases hT)]; exact hb
    have back' : ∀ b, (s.heap.update T (Obj.mapFields (·.setIfInBounds 3 Value.none))).get? b = none → s.heap.get? b = none := fun b hb => by
      cases z : s.heap.get? b with
      | none => rfl
      | some o => rw [same b o z] at hb; cases hb
    refine lft_new (s := { s with heap := s.heap.update T (Obj.mapFields (·.setIfInBounds 3 Value.none)) }) fr (fl.of_keeps fun b o hb _ => ⟨o, same b o hb, rfl⟩) hL (same e oe he) hd (Array.getElem?_eq_some_iff.mp h1).1 fun h' T' l => k h' T' ?_
    exact ⟨fun b o hb => l.keep b o (same b o hb), fun b o hb => l.slot b o (same b o hb), l.exc, back' _ l.new, l.trc⟩
theorem lft_leave {base : Heap} {env : Env} {outer : List Env} {L e : Addr} {oe : Obj} {vs : Array Value} {Q : Unit → Shared → Prop} (fr : A.frames = some (env :: outer)) (fl : s.heap.FunFrames base (env :: outer))
    (hL : env.frame = some L) (he : s.heap.get? e = some oe) (hd : oe.data = .fields vs) (ht : Trc s.heap e vs) (k : ∀ h' T, Lft ((env :: outer).filterMap (·.frame)) e oe vs T s.heap h' → Q () { s with heap := h' }) :
    wpAny M A (leaving env (.ref e)) Q E s := by
  unfold leaving
  exact wpAny_bind (lft_note fr fl hL he hd ht k)
end
end L2
end

section
set_option Elab.async false
set_option linter.all false
set_option maxRecDepth 100000
set_option maxHeartbeats 4000000
namespace L2
open PySem PySem.Spec PyProof.Rows

theorem ObjOk.there {P : Program} {w : World} {H : Hp} {h : Heap} {a : Addr} {o : HO} (x : ObjOk P w H h a o) : ∃ ob, h.get? a = some ob := by
  cases o with
  | lst xs => obtain ⟨_, _, _, _, e⟩ := x; exact ⟨_, e⟩
  | tup xs => obtain ⟨_, _, _, ob, e, _⟩ := x; exact ⟨_, e⟩
  | dK kvs => obtain ⟨_, _, _, _, o, _, _, e, _⟩ := x; exact ⟨_, e⟩
  | dT kvs => obtain ⟨_, _, _, _, o, _, _, e, _⟩ := x; exact ⟨_, e⟩
  | set S n => obtain ⟨o, _, _, _, e, _⟩ := x; exact ⟨_, e⟩
  | ins C dx fs => obtain ⟨_, _, _, e, _⟩ := x; exact ⟨_, e⟩
  | own y => exact x
  | xd fs => obtain ⟨_, ⟨_, _, _, e, _⟩, _⟩ := x; exact ⟨_, e⟩
  | rng lo hi => obtain ⟨_, _, _, e⟩ := x; exact ⟨_, e⟩
  | frz ob u => obtain ⟨e, _⟩ := x; exact ⟨_, e⟩
  | tbl ps => exact ⟨_, x⟩
  | met f y => exact ⟨_, x⟩
  | ext φ => exact x.2.1
theorem HOk.free {P : Program} {w : World} {H : Hp} {h : Heap} {a : Addr} (x : HOk P w H h) (e : h.get? a = none) : H a = none := by
  cases q : H a with
  | none => rfl
  | some o =>
    obtain ⟨ob, z⟩ := (x a o q).there
    rw [e] at z
    cases z

/-- an exception on its way to the callers at outer: new, untracked, its record as it lies -/
def CXF (P : Program) (w : World) : CXT := fun outer H s E e s' => ∃ (a C : Addr) (dx : Option Addr) (H' : Hp) (o : Obj) (vs : Array Value), e = .ref a ∧ s'.os = s.os ∧ AllBare s'.gens ∧ Un (frs outer) [] H H' s.heap s'.heap ∧ HOk P w H' s'.heap ∧
  s.heap.get? a = none ∧ H' a = none ∧ s'.heap.get? a = some o ∧ o.cls = .ref C ∧ o.dict = dx ∧ o.data = .fields vs ∧ vs[2]? = some .none ∧ Trc s'.heap a vs ∧ E (.ref C) dx H'
/-- an exception that is raised here, or comes back to here, is wanted -/
def Flies (X : Cx) (E : XK) : Prop := ∀ (pins : List (Addr × Obj)) (σ : St) (H : Hp) (s : Shared) (a C : Addr) (dx : Option Addr) (o : Obj) (vs : Array Value), Inv X pins σ H s → X.s₀.heap.get? a = none → H a = none → s.heap.get? a = some o → o.cls = .ref C → o.dict = dx →
  o.data = .fields vs → vs[2]? = some .none → Trc s.heap a vs → E (.ref C) dx H → X.xe (.ref a) s
theorem Inv.gone {X : Cx} {pins : List (Addr × Obj)} {σ : St} {H : Hp} {s : Shared} {a : Addr} (I : Inv X pins σ H s) (hx : X.ex = []) (e : s.heap.get? a = none) : X.s₀.heap.get? a = none := by
  cases q : X.s₀.heap.get? a with
  | none => rfl
  | some o =>
    obtain ⟨o', z⟩ := I.base.there a o q (by rw [hx]; simp)
    rw [e] at z
    cases z
theorem isCell_slots {h h' : Heap} {c : Addr} {v : Option Value} (x : h.IsCell c v) (k : ∀ o, h.get? c = some o → ∃ sl, h'.get? c = some { o with slots := sl }) : h'.IsCell c v := by
  obtain ⟨o, e, d⟩ := x
  obtain ⟨sl, e'⟩ := k o e
  exact ⟨_, e', d⟩
section
variable {X : Cx} {pins : List (Addr × Obj)} {σ : St} {H : Hp} {s : Shared}
/-- an exception was looked at in this frame: the frame stands as it was -/
theorem Inv.lft {a T : Addr} {o : Obj} {vs : Array Value} {h' : Heap} (I : Inv X pins σ H s) (l : Lft (frs X.stack) a o vs T s.heap h') (ha : s.heap.get? a = some o) (hd : o.data = .fields vs) (haH : H a = none) (h0 : X.s₀.heap.get? a = none) (hp : ∀ p ∈ X.pn ++ pins, p.1 ≠ a) : Inv X pins σ H { s with heap := h' } := by
  have na : ∀ b ob, X.s₀.heap.get? b = some ob → b ≠ a := fun b ob e z => by rw [z, h0] at e; cases e
  have nl : ∀ b ob, X.s₀.heap.get? b = some ob → b ≠ X.env.locals := fun b ob e => Nat.ne_of_lt (Nat.lt_of_lt_of_le (Heap.lt_size e) I.ok.above)
  have any : ∀ b ob, s.heap.get? b = some ob → b ≠ a → ∃ sl, h'.get? b = some { ob with slots := sl } := fun b ob e n => by
    by_cases z : b ∈ frs X.stack
    · exact l.slot b ob e z
    · exact ⟨ob.slots, l.keep b ob e n z⟩
  have cel : ∀ c v, s.heap.IsCell c v → h'.IsCell c v := fun c v x => by
    refine isCell_slots x fun ob e => any c ob e fun z => ?_
    obtain ⟨oc, e1, d1⟩ := x
    rw [z, ha] at e1
    cases e1
    rw [hd] at d1
    cases d1
  refine ⟨I.ok, I.os, I.bare, ⟨fun b ob e n hb hx => ?_, fun b ob e n hb hx => ?_, I.base.free, fun b ob e hx => ?_, I.base.tups, I.base.frzs, I.base.tbls⟩, ?_, fun x c e => ?_, I.free, I.freeC, fun p q => ?_, fun b u q => ?_, I.len⟩
  · refine l.keep b ob (I.base.keep b ob e n hb hx) (na b ob e) fun z => ?_
    rcases List.mem_cons.mp (I.stkSub b z) with z | z
    · exact nl b ob e z
    · exact hb z
  · obtain ⟨sl, e1⟩ := I.base.slot b ob e n hb hx
    obtain ⟨sl2, e2⟩ := any b _ e1 (na b ob e)
    exact ⟨sl2, e2⟩
  · obtain ⟨o', e1⟩ := I.base.there b ob e hx
    obtain ⟨sl2, e2⟩ := any b _ e1 (na b ob e)
    exact ⟨_, e2⟩
  · obtain ⟨m, ⟨ol, es, ep, e, d, r⟩, q⟩ := I.loc
    have nla : X.env.locals ≠ a := fun z => by
      rw [z, ha] at e
      cases e
      rw [hd] at d
      cases d
    obtain ⟨sl, e2⟩ := any _ _ e nla
    refine ⟨m, ⟨_, es, ep, e2, d, r⟩, fun i x v h1 h2 vis => ?_⟩
    obtain ⟨u, rv, lk⟩ := q i x v h1 h2 vis
    refine ⟨u, rv, ?_⟩
    rcases lk with lk | ⟨k1, c, k2, k3⟩
    · exact .inl lk
    · exact .inr ⟨k1, c, k2, cel c _ k3⟩
  · obtain ⟨v, z⟩ := I.cell x c e
    exact ⟨v, cel c v z⟩
  · obtain ⟨e, n, ne, nf, d⟩ := I.pin p q
    refine ⟨l.keep _ _ e (hp p q) fun z => ?_, n, ne, nf, d⟩
    rcases List.mem_cons.mp (I.stkSub _ z) with z | z
    · exact ne z
    · exact nf z
  · refine (I.hok b u q).stay (fun c v hc r => l.keep c v r (fun z => ?_) fun z => ?_) (fun _ r => r) fun _ _ r => r
    · rcases hc with hc | hc
      · rw [hc] at z; rw [z, haH] at q; cases q
      · rw [z, haH] at hc; cases hc
    · have := I.stkFree c z
      rcases hc with hc | hc
      · rw [hc, q] at this; cases this
      · rw [hc] at this; cases this
end
theorem flies_of {X : Cx} {E : XK} (hex : X.ex = []) (hpn : X.pn = []) (hst : X.stack = X.env :: X.outer) (hfr : X.env.frame = some X.env.locals)
    (hxe : ∀ e s', wpAny (model X.prog X.w) X.A (leaving X.env e) (fun _ s'' => CXF X.prog X.w X.outer X.H₀ X.s₀ E e s'') (fun e' s'' => CXF X.prog X.w X.outer X.H₀ X.s₀ E e' s'') s' → X.xe e s') : Flies X E := by
  intro pins σ H s1 a C dx o vs I ha0 haH he hc hdx hd h2 ht hE
  apply hxe
  refine lft_leave (base := X.base) (env := X.env) (outer := X.outer) (by rw [← hst]; exact I.ok.frames) (by rw [← hst]; exact I.stack) hfr he hd ht fun h' T l => ?_
  have l' : Lft (frs X.stack) a o vs T s1.heap h' := by rw [hst]; exact l
  have I0 : Inv X [] σ H s1 := I.pins_of fun p hp => absurd hp (by simp)
  have J := I0.lft l' he hd haH ha0 fun p hp => absurd hp (by rw [hpn]; simp)
  have h1 : 1 < vs.size := by
    rcases ht with z | ⟨_, _, _, z, _⟩ <;> exact (Array.getElem?_eq_some_iff.mp z).1
  have jb := J.base
  rw [hex] at jb
  refine ⟨a, C, dx, H, _, _, rfl, J.os, J.bare, jb, J.hok, ha0, haH, l.exc, hc, hdx, rfl, ?_, ?_, hE⟩
  · rw [Array.getElem?_setIfInBounds_ne (by decide)]; exact h2
  · obtain ⟨oT, ts, t1, t2, t3⟩ := l.trc
    refine .inr ⟨T, oT, ts, by simp [h1], fun z => ?_, t1, t2, t3⟩
    have := l.new
    rw [z, he] at this
    cases this
theorem flies_cxOf {P : Program} {w : World} {K : PySem.W.Frag} {mg : Str → Option Value} {base : Heap} {N : List Str} {qual : Str} {scope : Scope} {f : Addr} {cd : Value} {A : Around} {outer : List Env} {s : Shared} {H₀ : Hp} {E : XK} :
    Flies (cxOf (CXF P w) P w K mg base N qual scope f cd A outer s H₀ E) E := flies_of rfl rfl rfl rfl fun _ _ h => h
theorem passF {X : Cx} {E : XK} (h : Flies X E) (hx : X.ex = [] := by rfl) : Passes (CXF X.prog X.w) X E := by
  rintro pins σ H s e s' I ⟨a, C, dx, H', o, vs, rfl, os, bare, un, hok, ha, haH, he, hc, hdx, hd, h2, ht, hE⟩
  have I' : Inv X pins σ H' s' := I.call' os un hok bare (fun b z => absurd z (by simp))
  exact h pins σ H' s' a C dx o vs I' (I.gone hx ha) haH he hc hdx hd h2 ht hE

/-- a class of one's own under ValueError, without an __init__ of its own -/
def ExcC (K : PySem.W.Frag) (C : Addr) : Prop := ∃ nm q N bs bm hdct sn sub ab col dd k0 k1 k2 k3 k5, K.lookup C = some (excClassObj nm q C N bs bm hdct sn sub ab col dd k0 k1 k2 k3 k5 "ValueError.__new__") ∧ bm.contains (.type "BaseException") = true ∧
  (∀ h : Heap, K.In h → ∃ mN, h.Ns N mN ∧ mN "__init__" = none) ∧ ∀ h : Heap, K.In h → OwnTail h [.type "ValueError", .type "Exception", .type "BaseException", .type "object"] bm
section
variable {X : Cx}
def tRaise (C : Addr) (E : XK) (ta : TA) : TS := fun _ σ H => ta σ H fun vs H1 => vs.length ≤ sizeLine ∧ E (.ref C) none H1
theorem ps_raise {E : XK} {C : Addr} {x : Str} {np cpos pos : Pos} {e : Expr} {es : List Expr} {ta : TA} (hF : Flies X E) (hc : X.calm = true) (c : ExcC X.K C) (hg : Gl X x) (hm : X.mg x = some (.ref C)) (ha : PA X (e :: es) ta) (hx : X.ex = [] := by rfl) (hdb : (x == ("__debug__" : Str)) = false := by decide)
    (he : starEach (e :: es) X.env = (false, eval e X.env) :: starEach es X.env := by rfl) (hpl : (backTo cpos (starEach es X.env)).any (·.1) = false := by rfl) :
    PS X (.Raise (some (.Call (.Name x np) (e :: es) [] cpos)) none pos) (tRaise C E ta) := by
  intro pins s σ H D I h
  obtain ⟨nm, q, N, bs, bm, hdct, sn, sub, ab, col, dd, k0, k1, k2, k3, k5, hK, hb, hN, hT⟩ := c
  obtain ⟨mN, hns, hni⟩ := hN X.base I.mod.kin
  have tl := hT X.base I.mod.kin
  have ha := ha cpos pins s σ H _ I h
  rw [he] at ha
  refine wpAny_Raise_call_subT (nm := nm) (q := q) (C := C) (N := N) (bs := bs) (bm := bm) (hdct := hdct) (sn := sn) (sub := sub) (ab := ab) (col := col) (dd := dd) (k0 := k0) (k1 := k1) (k2 := k2) (k3 := k3) (k5 := k5) PySem.F.excBase_ValueError hb (I.ok.hd hc) (by rw [he]; show (false || (backTo cpos (starEach es X.env)).any (·.1)) = false; rw [hpl]; rfl) hni (ld_glob I hg hm ⟨rfl, ?_⟩ hdb)
  rw [he]
  refine Calls.evalArgs_plain (thn ha fun us s2 ⟨vs, H1, I1, r, hl, hE⟩ => ?_)
  refine ⟨rfl, by rw [← r.length]; exact hl, I1.kIn _ _ hK, hns.keeps I1.bk, tl.keeps I1.bk, fun h' a hm' => ?_⟩
  obtain ⟨t, ht, _, _⟩ := hm'.there
  have I2 : Inv X pins σ H1 { s2 with heap := h' } := I1.kept (t' := s2.toks) hm'.keeps
  exact hF pins σ H1 _ a C none _ _ I2 (I1.gone hx hm'.new) (I1.hok.free hm'.new) ht rfl rfl rfl rfl (.inl rfl) hE
end
end L2
end

section
set_option Elab.async false
set_option linter.all false
set_option maxRecDepth 100000
set_option maxHeartbeats 4000000
namespace L2
open PySem PySem.Spec PyProof.Rows
/-! ### texts with fields in them -/
abbrev TJ := St → Hp → Str → (Str → Hp → Prop) → Prop
section
variable {X : Cx} {pos : Pos} {e e1 e2 : Expr} {es : List Expr} {te : TE} {t : TJ}
def PJ (X : Cx) (es : List Expr) (t : TJ) : Prop := ∀ (pins : List (Addr × Obj)) (s : Shared) (σ : St) (H : Hp) (acc : Str) (Q : Str → Hp → Prop), Inv X pins σ H s → t σ H acc Q →
  wpAny (model X.prog X.w) X.A (joinParts acc (evalEach es X.env)) (EP X pins σ fun v H1 => ∃ y, v = .str y ∧ Q y H1) X.xe s
def jNil : TJ := fun _ H acc Q => acc.length ≤ sizeLine ∧ Q acc H
def jCons (te : TE) (t : TJ) : TJ := fun σ H acc Q => te σ H fun v H1 => ∃ y, v = .str y ∧ (acc ++ y).length ≤ sizeLine ∧ t σ H1 (acc ++ y) Q
def tFstr (t : TJ) : TE := fun σ H Q => t σ H Str.empty fun out H1 => Q (.str out) H1
def tFmtI (te : TE) : TE := fun σ H Q => te σ H fun v H1 => ∃ i : Int, v = .int i ∧ i.natAbs.log2 < 1920 ∧ Q (.str (toString i)) H1
def tFmtS (te : TE) : TE := fun σ H Q => te σ H fun v H1 => ∃ y : Str, v = .str y ∧ y.length ≤ sizeLine ∧ Q (.str y) H1
end
end L2
end

section
set_option Elab.async false
set_option linter.all false
set_option maxRecDepth 100000
set_option maxHeartbeats 4000000
namespace L2
open PySem PySem.Spec PyProof.Rows
/-! ### code objects within a def: a table that grows -/
/-- a code object's record, by its name -/
def codeO (qual : Str) (c : Addr) : HO := .ext fun h => h.CodeRec (.ref c) qual
def Tbl (H : Hp) (P : Addr) (qual : Str) : Prop := ∃ ps, H P = some (.tbl ps) ∧ TriplesOk ps.toList ∧ ∀ pos cv, codeAmong pos ps.toList = some cv → ∃ c, cv = .ref c ∧ H c = some (codeO qual c)
/-- all but what stands at d is as it was -/
def Grown (d : Addr) (H H' : Hp) : Prop := ∀ b o, b ≠ d → H b = some o → H' b = some o
/-- the module's builtins, as a def that is made looks them up -/
def BmAt (mg : Str → Option Value) (base : Heap) : Prop := ∃ bm o, mg "__builtins__" = some (.ref bm) ∧ bm ≠ builtinsNs ∧ bm ≠ mainGlobals ∧ base.get? bm = some o ∧ o.cls = .type "module" ∧ o.dict = some builtinsNs ∧ o.data = .plain
section
variable {X : Cx} {pins : List (Addr × Obj)} {σ : St} {H : Hp} {s : Shared}
end
end L2
end

section
set_option Elab.async false
set_option linter.all false
set_option maxRecDepth 100000
set_option maxHeartbeats 4000000
namespace L2
open PySem PySem.Spec PyProof.Rows
/-! ### a lambda without parameters that reads the names around it -/
def lamOk (sc outer : Scope) : Bool := (sc.kind == .function) && !sc.isCoroutine && !sc.isGenerator && sc.names.all (fun p => p.2 != NameKind.cell && p.2 != NameKind.local) &&
  sc.names.all (fun p => p.2 != NameKind.free || (outer.names.lookup p.1 == some NameKind.cell || outer.names.lookup p.1 == some NameKind.free))
structure LamOk (sc outer : Scope) : Prop where
  kind : sc.kind = .function
  co : sc.isCoroutine = false
  gen : sc.isGenerator = false
  nocell : ∀ p ∈ sc.names, p.2 ≠ NameKind.cell
  noloc : ∀ p ∈ sc.names, p.2 ≠ NameKind.local
  free : ∀ p ∈ sc.names, p.2 = NameKind.free → outer.names.lookup p.1 = some NameKind.cell ∨ outer.names.lookup p.1 = some NameKind.free
/-- the context of such a lambda's body, called at s -/
abbrev lamEnv (X : Cx) (qual : Str) (sc : Scope) (f c' : Addr) (s : Shared) : Env := PySem.W.envX qual sc s.heap.objs.size f (.ref c') (closeL X.env sc.names [])
def lamCx (X : Cx) (qual : Str) (sc : Scope) (f c' : Addr) (A : Around) (outer : List Env) (s : Shared) (H : Hp) (E : XK) : Cx where
  prog := X.prog
  w := X.w
  K := X.K
  mg := X.mg
  base := X.base
  A := A.deeper (lamEnv X qual sc f c' s)
  N := X.N
  s₀ := s
  H₀ := H
  env := lamEnv X qual sc f c' s
  outer := outer
  stack := lamEnv X qual sc f c' s :: outer
  ex := []
  fn := fun _ => false
  calm := true
  pn := []
  xe := fun e s' => wpAny (model X.prog X.w) (A.deeper (lamEnv X qual sc f c' s)) (leaving (lamEnv X qual sc f c' s) e) (fun _ s'' => CXF X.prog X.w outer H s E e s'') (fun e' s'' => CXF X.prog X.w outer H s E e' s'') s'
/-- what is called stands at f; of s0 the untracked is there, up to slots -/
def DeedAt (P : Program) (w : World) (K : PySem.W.Frag) (mg : Str → Option Value) (base : Heap) (k : Nat) (f : Addr) (h0 : Heap) (H : Hp) (pre : VK → XK → Prop) : Prop :=
  ∀ (A : Around) (outer : List Env) (s : Shared) (Q : VK) (E : XK), Room k A → Env0 P w K mg base A outer s H → (∀ b o, h0.get? b = some o → H b = none → ∃ sl, s.heap.get? b = some { o with slots := sl }) → pre Q E →
    codeAny (model P w) A (.call (.ref f) ⟨[], []⟩) (CR (CXF P w) outer P w H s Q E) s
section
variable {X : Cx} {pins : List (Addr × Obj)} {σ : St} {H : Hp} {s : Shared}
end
end L2
end

section
set_option Elab.async false
set_option linter.all false
set_option maxRecDepth 100000
set_option maxHeartbeats 4000000
namespace L2
open PySem
section
variable {prog : Program} {w : World} {A : Around} {E : Value → Shared → Prop} {s : Shared}
end
end L2
end

section
set_option Elab.async false
set_option linter.all false
set_option maxRecDepth 100000
set_option maxHeartbeats 4000000
namespace L2
open PySem PySem.W
section
variable {prog : Program} {w : World} {A : Around} {E : Value → Shared → Prop} {s : Shared} {K : Frag} {x C : Addr} {ox : Obj} {odo : Option Obj}
/-- what isinstance asks of an exception of an own class -/
structure ExcIs (K : Frag) (C : Addr) : Prop where
  ga : findIn K (.ref C) "__getattribute__" = some (some (.builtin "BaseException.__getattribute__"))
  gh : findIn K (.ref C) "__getattr__" = some none
  ca : findIn K (.ref C) "__class__" = some (some (.builtin "object.__class__"))
  gn : specialIn K (.builtin "object.__class__") "__get__" = some (some (.builtin "getset_descriptor.__get__"))
  tk : takesIn K (.builtin "object.__class__") = some true
  ob : mroIn K C (.type "object") = some true
  be : mroIn K C (.type "BaseException") = some true
  cl : (clsIn K C).isSome = true
end
end L2
end

section
set_option Elab.async false
set_option linter.all false
set_option maxRecDepth 100000
set_option maxHeartbeats 4000000
namespace L2
open PySem PySem.Spec PyProof.Rows
section
variable {X : Cx} {pins : List (Addr × Obj)} {σ : St} {H : Hp} {s : Shared}
/-- the same within an except suite -/
abbrev Cx.marked (X : Cx) (A2 : Around) : Cx := { X with A := A2, calm := false, xe := fun _ _ => False }
end
/-! ### isinstance of an exception of an own class -/
/-- an exception that is handled: known to its object -/
def excH (o : Obj) : HO := .frz o (.ext fun _ => True)
structure ExcObj (o : Obj) (C : Addr) : Prop where
  cls : o.cls = .ref C
  dict : o.dict = none
  data : ∃ vs, o.data = .fields vs ∧ vs[2]? = some .none
section
variable {X : Cx}
def rIsiE (K : PySem.W.Frag) : List V → Hp → VK → Prop := fun xs H Q => ∃ (a : Addr) (o : Obj) (C : Addr) (c : V) (cv : Value) (b : Bool), xs = [.ref a, c] ∧ H a = some (excH o) ∧ ExcObj o C ∧ ExcIs K C ∧ (∀ u, RelV c u → u = cv) ∧ PySem.W.kitOne K (.ref C) cv = some b ∧ Q (.bl b) H
end
end L2
end

section
set_option Elab.async false
set_option linter.all false
set_option maxRecDepth 100000
set_option maxHeartbeats 4000000
namespace L2
open PySem PySem.Spec PyProof.Rows
/-! ### while an exception is handled -/
/-- the exception at e is handled here, and has been since the entry -/
def Sob (X : Cx) : Prop := ∃ (e C : Addr) (o : Obj), X.A.handled = some (.ref e) ∧ X.H₀ e = some (excH o) ∧ ExcObj o C
section
variable {X : Cx} {sc : Scope} {x : Str} {px pos : Pos} {elt iter : Expr} {ifs : List Expr} {tt : TT} {te tl : TE}
/-- sum(list of ints) while an exception is handled -/
def rSumH (K : PySem.W.Frag) : List V → Hp → VK → Prop := fun xs H Q => ∃ (a : Addr) (ns : List Int), xs = [.ref a] ∧ SqL K H a (ns.map V.int) ∧ Q (.int ns.sum) H
end
end L2
end

section
set_option Elab.async false
set_option linter.all false
set_option maxRecDepth 100000
set_option maxHeartbeats 4000000
namespace L2
open PySem PySem.Spec PyProof.Rows PySem.SeqAt
section
variable {X : Cx}
def rIndexT : V → List V → Hp → VK → Prop := fun x vs H Q => ∃ (l : Addr) (bs : List Bool) (j : Nat), x = .ref l ∧ vs = [.bl true] ∧ H l = some (.lst (bs.map V.bl)) ∧ bs[j]? = some true ∧ (∀ m, m < j → bs[m]? = some false) ∧ bs.length ≤ 1000 ∧ Q (.int (j : Nat)) H
end
/-! ### a def that is called while an exception is handled -/
structure FnH (P : Program) (w : World) (K : PySem.W.Frag) (mg : Str → Option Value) (base : Heap) (k : Nat) (f : Addr) (fd : FuncData) (ps : List Str) (sp : Sp) : Prop where
  len : ∀ vs H Q E, sp vs H Q E → vs.length = ps.length
  run : ∀ (A : Around) (outer : List Env) (s : Shared) (H : Hp) (args : Args) (us : List Value) (vs : List V) (Q : VK) (e C : Addr) (o : Obj), A.handled = some (.ref e) → H e = some (excH o) → ExcObj o C → A.depth + 3 * k + 5 < recursionLimit → A.units + 16 * k + 200 < cLine →
    Env0 P w K mg base A outer s H → BindsTo s fd args (ps.zip us) → Vals vs us → sp vs H Q E0 → codeAny (model P w) A (.call (.ref f) args) (CR CX0 outer P w H s Q E0) s
abbrev cxH (P : Program) (w : World) (K : PySem.W.Frag) (mg : Str → Option Value) (base : Heap) (N : List Str) (qual : Str) (scope : Scope) (f : Addr) (cd : Value) (A : Around) (outer : List Env) (s : Shared) (H : Hp) : Cx :=
  (cxOf CX0 P w K mg base N qual scope f cd { A with handled := none } outer s H E0).marked (A.deeper (envOfC qual scope s.heap.objs.size f cd))
section
variable {X : Cx}
/-- f(e, ..) while an exception is handled -/
def tCallH (ex : Addr) (o : Obj) (sp : Sp) (t : TA) : TE := fun σ H Q => t σ H fun vs H1 => H1 ex = some (excH o) ∧ sp vs H1 Q E0
end
end L2
end

section
set_option Elab.async false
set_option linter.all false
set_option maxRecDepth 100000
set_option maxHeartbeats 4000000
namespace L2
open PySem PySem.Spec PyProof.Rows
/-! ### try: return f() except C as x: .. -/
section
variable {prog : Program} {w : World} {A : Around} {E : Value → Shared → Prop} {s : Shared} {K : PySem.W.Frag}
end
section
variable {X : Cx} {pins : List (Addr × Obj)} {σ : St} {H : Hp} {s : Shared}
end
end L2
end

section
set_option Elab.async false
set_option linter.all false
set_option maxRecDepth 100000
set_option maxHeartbeats 4000000
namespace L2
open PySem PySem.Spec PyProof.Rows
abbrev NTold : List Str := ["_law_deed", "_law_e"]
abbrev toldCx (P : Program) (w : World) (K : PySem.W.Frag) (mg : Str → Option Value) (base : Heap) (st : Stmt) (ft : Addr) (cd : Value) (A : Around) (outer : List Env) (s : Shared) (H : Hp) : Cx := cxOf CX0 P w K mg base NTold "_law_told" (defScope st) ft cd A outer s H E0
section
variable {P : Program} {w : World} {K : PySem.W.Frag} {mg : Str → Option Value} {base : Heap} {A : Around} {outer : List Env} {s : Shared} {H : Hp}
/-- what told takes an exception for: its class under W, of which pre holds -/
def xWant (K : PySem.W.Frag) (W : Addr) (pre : Addr → Hp → Prop) : XK := fun cv dx H2 => ∃ C, cv = .ref C ∧ dx = none ∧ PySem.W.kitCls K (.ref C) (.ref W) = some true ∧ pre C H2
end
end L2
end

section
set_option Elab.async false
set_option linter.all false
set_option maxRecDepth 100000
set_option maxHeartbeats 4000000
namespace L2
open PySem PySem.Spec PyProof.Rows
/-- the words of the classes; what is wanted of a refusal that is told -/
def told (wd : Addr → Str → Prop) (Q : VK) : Addr → Hp → Prop := fun C H2 => ∃ wrd, wd C wrd ∧ ∀ (t : Addr) (H' : Hp), (∀ b o, H2 b = some o → H' b = some o) → H' t = some (.tup [.str "refused", .str wrd]) → Q (.ref t) H'
/-- all that is known of told: its def, its word -/
structure ToldOk (P : Program) (w : World) (K : PySem.W.Frag) (mg : Str → Option Value) (base : Heap) (kw : Nat) (ft W : Addr) (fdt : FuncData) (wd : Addr → Str → Prop) : Prop where
  run : ∀ (kd : Nat) (A : Around) (outer : List Env) (s : Shared) (H : Hp) (f : Addr) (Q : VK) (pr : VK → XK → Prop), kw ≤ kd → Room (kd + 1) A → Env0 P w K mg base A outer s H → DeedAt P w K mg base kd f s.heap H pr → PySem.W.FnAt f s.heap → H f = none → pr Q (xWant K W (told wd Q)) →
    codeAny (model P w) A (.call (.ref ft) ⟨[.ref f], []⟩) (CR CX0 outer P w H s Q E0) s
section
variable {X : Cx}
def tTold (P : Addr) (qual : Str) (wd : Addr → Str → Prop) (K : PySem.W.Frag) (W : Addr) (tb : XK → TE) : TE := fun σ H Q => Tbl H P qual ∧ ∀ H1, Grown P H H1 → Tbl H1 P qual → tb (xWant K W (told wd Q)) σ H1 Q
end
end L2
end

section
set_option Elab.async false
set_option linter.all false
set_option maxRecDepth 100000
set_option maxHeartbeats 4000000
namespace L2
open PySem PySem.Spec PyProof.Rows
/-! ### the head, where defs' tables may grow -/
def OnlyT (Ps : List Addr) (H : Hp) : Prop := ∀ b, H b = none ∨ (∃ o xs, H b = some (.frz o (.lst xs))) ∨ (b ∈ Ps ∧ H b = some (.tbl #[]))
section
variable {P : Program} {w : World} {K : PySem.W.Frag} {mg : Str → Option Value} {base : Heap}
theorem Fun.okX {x qual : Str} {st : Stmt} {f : Addr} {fd : FuncData} {N ps : List Str} {k : Nat} {sp : Sp} (F : Fun K x qual st f fd) (S : FnScope N ps (defScope st)) (len : ∀ vs H Q E, sp vs H Q E → vs.length = ps.length)
    (hbody : ∀ (cdv : Value) (A : Around) (outer : List Env) (s : Shared) (H : Hp) (vs : List V) (Q : VK) (E : XK), Room k (A.deeper (envOfC qual (defScope st) s.heap.objs.size f cdv)) → sp vs H Q E →
      ∃ t, PSs (cxOf (CXF P w) P w K mg base N qual (defScope st) f cdv A outer s H E) (defBody st) t ∧ t { nx := fun _ H' => Q .non H', rt := Q } (start N vs) H) : FnOk P w K mg base (CXF P w) (k + 1) f fd ps sp := by
  obtain ⟨oc, od, kV, doc, pm, an, cdv, ct, osl, rfl, lk, hcd⟩ := F.ex
  exact fn_of lk hcd S len fun A outer s H vs Q E hr hsp => hbody cdv A outer s H vs Q E hr hsp
end
/-- a def that may be called, and may refuse -/
structure CalX (P : Program) (w : World) (K : PySem.W.Frag) (mg : Str → Option Value) (base : Heap) (k : Nat) (x : Str) (f : Addr) (fd : FuncData) (ps : List Str) (sp : Sp) : Prop where
  ok : FnOk P w K mg base (CXF P w) k f fd ps sp
  mg : mg x = some (.ref f)
  kp : PySem.W.keepIn K (.ref f) = true
  bd : Binds K fd ps []
/-- nothing is raised -/
theorem passX {X : Cx} : Passes (CXF X.prog X.w) X E0 := fun _ _ _ _ _ _ _ ⟨_, _, _, _, _, _, _, _, _, _, _, _, _, _, _, _, _, _, _, h⟩ => h.elim
end L2
end

section
set_option Elab.async false
set_option linter.all false
set_option maxRecDepth 100000
set_option maxHeartbeats 4000000
namespace L2
open PySem PySem.Spec PyProof.Rows
section
variable {X : Cx}
/-- set(list of ints) -/
def rSetI (K : PySem.W.Frag) : List V → Hp → VK → Prop := fun xs H Q => ∃ (a : Addr) (ns : List Int), xs = [.ref a] ∧ SqL K H a (ns.map V.int) ∧ ns.length ≤ 1000 ∧ ∀ (p : Addr) (S : Int → Bool) (n : Nat), H p = none → n ≤ ns.length → (n = ns.length ↔ ns.Nodup) → Q (.ref p) (upd H p (.set S n))
end
end L2
end

section
set_option Elab.async false
set_option linter.all false
set_option maxRecDepth 100000
set_option maxHeartbeats 4000000
namespace L2
open PySem PySem.Spec PyProof.Rows
section
variable {prog : Program} {w : World} {A : Around} {E : Value → Shared → Prop} {s : Shared}
end
section
variable {X : Cx}
end
end L2
end

section
set_option Elab.async false
set_option linter.all false
set_option maxRecDepth 100000
set_option maxHeartbeats 4000000
namespace L2
open PySem PySem.Spec PyProof.Rows PySem.AutoSeq1
/-- a tuple times a count -/
def rRepT (K : PySem.W.Frag) : R2 := fun x y H Q => ∃ l k xs, x = .ref l ∧ y = .int k ∧ SqT K H l xs ∧ xs ≠ [] ∧ 2 ≤ k ∧ k ≤ 1000 ∧ xs.length ≤ 1000 ∧ ∀ p, H p = none → Q (.ref p) (upd H p (.tup (List.replicate k.toNat xs).flatten))
section
variable {X : Cx}
end
end L2
end

section
set_option Elab.async false
set_option linter.all false
set_option maxRecDepth 100000
set_option maxHeartbeats 4000000
namespace L2
open PySem PySem.Spec
section
variable {X : Cx} {es : List Expr} {t : TA} {te : TE}
end
end L2
end

section
set_option Elab.async false
set_option linter.all false
set_option maxRecDepth 100000
/-! # A small, total reading of the program's language

Values without addresses, a store of numbered objects, and for each piece of the syntax a plain function. What is not read gives `bad`. -/
namespace RF
open PySem

inductive D where
  | non | bl (b : Bool) | int (i : Int) | str (x : Str) | tup (xs : List D) | ref (n : Nat)

mutual
def D.dec : (a b : D) → Decidable (a = b)
  | .non, .non => .isTrue rfl
  | .bl a, .bl b => if h : a = b then .isTrue (h ▸ rfl) else .isFalse fun e => h (by cases e; rfl)
  | .int a, .int b => if h : a = b then .isTrue (h ▸ rfl) else .isFalse fun e => h (by cases e; rfl)
  | .str a, .str b => if h : a = b then .isTrue (h ▸ rfl) else .isFalse fun e => h (by cases e; rfl)
  | .tup a, .tup b => match D.decL a b with
    | .isTrue h => .isTrue (h ▸ rfl)
    | .isFalse h => .isFalse fun e => h (by cases e; rfl)
  | .ref a, .ref b => if h : a = b then .isTrue (h ▸ rfl) else .isFalse fun e => h (by cases e; rfl)
  | .non, .bl _ | .non, .int _ | .non, .str _ | .non, .tup _ | .non, .ref _ => .isFalse nofun
  | .bl _, .non | .bl _, .int _ | .bl _, .str _ | .bl _, .tup _ | .bl _, .ref _ => .isFalse nofun
  | .int _, .non | .int _, .bl _ | .int _, .str _ | .int _, .tup _ | .int _, .ref _ => .isFalse nofun
  | .str _, .non | .str _, .bl _ | .str _, .int _ | .str _, .tup _ | .str _, .ref _ => .isFalse nofun
  | .tup _, .non | .tup _, .bl _ | .tup _, .int _ | .tup _, .str _ | .tup _, .ref _ => .isFalse nofun
  | .ref _, .non | .ref _, .bl _ | .ref _, .int _ | .ref _, .str _ | .ref _, .tup _ => .isFalse nofun
def D.decL : (a b : List D) → Decidable (a = b)
  | [], [] => .isTrue rfl
  | [], _ :: _ => .isFalse nofun
  | _ :: _, [] => .isFalse nofun
  | x :: xs, y :: ys => match D.dec x y, D.decL xs ys with
    | .isTrue h1, .isTrue h2 => .isTrue (by rw [h1, h2])
    | .isFalse h, _ => .isFalse fun e => h (by cases e; rfl)
    | _, .isFalse h => .isFalse fun e => h (by cases e; rfl)
end
instance : DecidableEq D := D.dec

/-- an object: a list; a list that is only read; a dict; a dict that is walked just now; an instance (class, fields) -/
inductive O where
  | lst (xs : List D) | rol (xs : List D) | dic (kvs : List (D × D)) | fdc (kvs : List (D × D)) | obj (c : Nat) (fs : List (Nat × D))
abbrev Store := List O
inductive R (α : Type) where
  | ok (a : α) (S : Store) | ex (c : Nat) (pay : List D) (S : Store) | bad
def R.bind {α β : Type} (r : R α) (f : α → Store → R β) : R β := match r with
  | .ok a S => f a S
  | .ex c p S => .ex c p S
  | .bad => .bad
@[simp] theorem R.bind_ok {α β : Type} (a : α) (S : Store) (f : α → Store → R β) : (R.ok a S).bind f = f a S := rfl
@[simp] theorem R.bind_ex {α β : Type} (c : Nat) (p : List D) (S : Store) (f : α → Store → R β) : (R.ex c p S).bind f = .ex c p S := rfl
@[simp] theorem R.bind_bad {α β : Type} (f : α → Store → R β) : (R.bad).bind f = .bad := rfl
abbrev Env := List (Option D)
abbrev C (α : Type) := Env → Store → R α
def C.bind {α β : Type} (c : C α) (f : α → C β) : C β := fun ρ S => (c ρ S).bind fun a S1 => f a ρ S1
@[simp] theorem C.bind_run {α β : Type} (c : C α) (f : α → C β) (ρ : Env) (S : Store) : C.bind c f ρ S = (c ρ S).bind fun a S1 => f a ρ S1 := rfl
def badC {α : Type} : C α := fun _ _ => .bad

/-! ### values -/
def guardR {α : Type} (b : Bool) (r : R α) : R α := if b = true then r else .bad
/-- the items of what is walked: a list, a tuple -/
def itemsOf (S : Store) : D → Option (List D)
  | .tup xs => some xs
  | .ref n => match S[n]? with
    | some (.lst xs) => some xs
    | some (.rol xs) => some xs
    | _ => none
  | _ => none
def kvsOf (S : Store) : D → Option (List (D × D))
  | .ref n => match S[n]? with
    | some (.dic kvs) => some kvs
    | some (.fdc kvs) => some kvs
    | _ => none
  | _ => none
def truthD (S : Store) : D → Option Bool
  | .non => some false
  | .bl b => some b
  | .int i => some (i != 0)
  | .tup xs => some (!xs.isEmpty)
  | .ref n => match S[n]? with
    | some (.lst xs) => some (!xs.isEmpty)
    | some (.rol xs) => some (!xs.isEmpty)
    | _ => none
  | .str _ => none
/-- a flat value -/
def flatD : D → Bool
  | .non | .bl _ | .int _ | .str _ => true
  | _ => false
def eqFlat : D → D → Bool
  | .non, .non => true
  | .bl a, .bl b => a == b
  | .bl a, .int b => (if a then 1 else 0) == b
  | .int a, .bl b => a == (if b then 1 else 0)
  | .int a, .int b => a == b
  | .str a, .str b => a == b
  | _, _ => false
/-- all the pairs are compared; none if one of them can't be -/
def allO (f : D → D → Option Bool) : List D → List D → Option Bool
  | x :: xs, y :: ys => match f x y, allO f xs ys with
    | some a, some b => some (a && b)
    | _, _ => none
  | _, _ => some true
/-- == of two values, to a depth -/
def eqD (S : Store) : Nat → D → D → Option Bool
  | 0, _, _ => none
  | n + 1, .tup xs, .tup ys => (allO (eqD S n) xs ys).map fun b => b && xs.length == ys.length
  | _ + 1, .tup _, b => if b = .non then some false else none
  | n + 1, .ref i, .ref j => match S[i]?, S[j]? with
    | some (.lst xs), some (.lst ys) => if xs.length = ys.length then allO (eqD S n) xs ys else some false
    | _, _ => none
  | _ + 1, a, .tup _ => if a = .non then some false else none
  | _ + 1, a, b => if flatD a && flatD b then some (eqFlat a b) else none
/-- .. where the first may be a list that is only read, and the other is empty -/
def eqTop (S : Store) (n : Nat) (a b : D) : Option Bool := match a, b with
  | .ref i, .ref j => match S[i]?, S[j]? with
    | some (.rol xs), some (.lst []) => some xs.isEmpty
    | _, _ => eqD S n a b
  | _, _ => eqD S n a b
def ixI (n : Nat) (i : Int) : Option Nat := if 0 ≤ i then (if i < n then some i.toNat else none) else if -(n : Int) ≤ i then some (i + n).toNat else none
def getI (xs : List D) (i : Int) : Option D := (ixI xs.length i).bind fun j => xs[j]?
def sIx (n d : Nat) : Option Int → Nat
  | none => d
  | some v => if v < 0 then (v + (n : Int)).toNat else min v.toNat n
def cutD (xs : List D) (lo hi : Option Int) : List D := (xs.drop (sIx xs.length 0 lo)).take (sIx xs.length xs.length hi - sIx xs.length 0 lo)
def valD (kvs : List (D × D)) (k : D) : Option D := (kvs.find? fun kv => decide (kv.1 = k)).map (·.2)
def putD (kvs : List (D × D)) (k v : D) : List (D × D) := if (kvs.any fun kv => decide (kv.1 = k)) = true then kvs.map fun kv => if kv.1 = k then (kv.1, v) else kv else kvs ++ [(k, v)]
def dropD (kvs : List (D × D)) (k : D) : List (D × D) := kvs.filter fun kv => decide (kv.1 ≠ k)
/-- a key of a dict: a number, a text, a tuple of such -/
def keyFlat : D → Bool
  | .int _ | .str _ => true
  | _ => false
def keyTup : D → Bool
  | .tup xs => xs.all keyFlat
  | _ => false
/-- may stand beside the keys that are there -/
def keyFits (kvs : List (D × D)) (k : D) : Bool := (keyFlat k && kvs.all fun kv => keyFlat kv.1) || (keyTup k && kvs.all fun kv => keyTup kv.1)
/-- what a dict has at a key; none: that can't be asked -/
def lookD (S : Store) (a k : D) : Option (Option D) := match a with
  | .ref n => match S[n]? with
    | some (.dic kvs) => if keyFits kvs k then some (valD kvs k) else none
    | some (.fdc kvs) => if keyTup k then some (valD kvs k) else none
    | _ => none
  | _ => none
def isDict (S : Store) (a : D) : Bool := (kvsOf S a).isSome
def fputD (f : Nat) (v : D) : List (Nat × D) → List (Nat × D)
  | [] => [(f, v)]
  | (g, x) :: r => if g = f then (g, v) :: r else (g, x) :: fputD f v r
def newO (o : O) (S : Store) : R D := .ok (.ref S.length) (S ++ [o])

/-! ### operators -/
def big (n : Nat) : Bool := decide (n ≤ sizeLine)
def addD (a b : D) (S : Store) : R D := match a, b with
  | .int i, .int j => .ok (.int (i + j)) S
  | .tup xs, .tup ys => guardR (big (xs.length + ys.length)) (.ok (.tup (xs ++ ys)) S)
  | .ref m, .ref n => match S[m]?, S[n]? with
    | some (.lst xs), some (.lst ys) => guardR (big (xs.length + ys.length)) (newO (.lst (xs ++ ys)) S)
    | _, _ => .bad
  | _, _ => .bad
/-- a product that is reckoned: one factor is short, or both are not long -/
def mulOk (a b : Int) : Bool := decide (a.natAbs < 2 ^ 64) || decide (b.natAbs < 2 ^ 64) || (decide (a.natAbs < 2 ^ 250) && decide (b.natAbs < 2 ^ 250))
def opD (op : Operator) (a b : D) (S : Store) : R D := match op, a, b with
  | .Add, a, b => addD a b S
  | .Sub, .int i, .int j => .ok (.int (i - j)) S
  | .Mult, .int i, .int j => guardR (mulOk i j) (.ok (.int (i * j)) S)
  | .FloorDiv, .int i, .int j => guardR (decide (0 < j) && decide (j < 2 ^ 250)) (.ok (.int (i / j)) S)
  | .Mod, .int i, .int j => guardR (decide (0 < j)) (.ok (.int (i % j)) S)
  | .Pow, .int i, .int j => guardR (decide (i = 10) && decide (j = 18)) (.ok (.int (1000000000000000000)) S)
  | _, _, _ => .bad
def depth : Nat := 8
def inD (S : Store) (x : D) (y : D) : Option Bool := if isDict S y = true then (lookD S y x).map Option.isSome else match itemsOf S y with
  | some ys => if flatD x && ys.all flatD then some (ys.any fun z => eqFlat z x) else none
  | none => match x, y with
      | .str x, .str y => some (!(Builtin.Str.occurrences y x 0 y.length 1).isEmpty)
      | _, _ => none
def optB (o : Option Bool) (S : Store) : R D := match o with | some b => .ok (.bl b) S | none => .bad
def cmpD (op : CmpOp) (a b : D) (S : Store) : R D := match op with
  | .Eq => optB (eqTop S depth a b) S
  | .NotEq => optB ((eqTop S depth a b).map (! ·)) S
  | .Lt => match a, b with | .int i, .int j => .ok (.bl (decide (i < j))) S | _, _ => .bad
  | .LtE => match a, b with | .int i, .int j => .ok (.bl (decide (i ≤ j))) S | _, _ => .bad
  | .Gt => match a, b with | .int i, .int j => .ok (.bl (decide (j < i))) S | _, _ => .bad
  | .GtE => match a, b with | .int i, .int j => .ok (.bl (decide (j ≤ i))) S | _, _ => .bad
  | .Is => if b = .non then .ok (.bl (decide (a = .non))) S else .bad
  | .IsNot => if b = .non then .ok (.bl (!decide (a = .non))) S else .bad
  | .In => optB (inD S a b) S
  | .NotIn => optB ((inD S a b).map (! ·)) S
def getItemD (a i : D) (S : Store) : R D := if isDict S a = true then (match lookD S a i with | some (some v) => .ok v S | _ => .bad) else match itemsOf S a, i with
    | some xs, .int k => match getI xs k with | some v => .ok v S | none => .bad
    | _, _ => .bad
def sliceD (a : D) (lo hi : Option Int) (S : Store) : R D := match a with
  | .tup xs => guardR (!(sIx xs.length 0 lo == 0 && sIx xs.length xs.length hi == xs.length)) (.ok (.tup (cutD xs lo hi)) S)
  | .ref n => match itemsOf S (.ref n) with
    | some xs => newO (.lst (cutD xs lo hi)) S
    | none => .bad
  | _ => .bad
def setItemD (a i v : D) (S : Store) : R Unit := match a with
  | .ref n => match S[n]?, i with
    | some (.lst xs), .int k => match ixI xs.length k with | some j => .ok () (S.set n (.lst (xs.set j v))) | none => .bad
    | some (.dic kvs), k => guardR (keyFits kvs k && decide (kvs.length < sizeLine)) (.ok () (S.set n (.dic (putD kvs k v))))
    | _, _ => .bad
  | _ => .bad
def delItemD (a i : D) (S : Store) : R Unit := match a with
  | .ref n => match S[n]? with
    | some (.dic kvs) => guardR (keyFits kvs i && (valD kvs i).isSome) (.ok () (S.set n (.dic (dropD kvs i))))
    | _ => .bad
  | _ => .bad
def fieldD (a : D) (f : Nat) (S : Store) : R D := match a with
  | .ref n => match S[n]? with
    | some (.obj _ fs) => match fs.lookup f with | some v => .ok v S | none => .bad
    | _ => .bad
  | _ => .bad
def setFieldD (pl : Nat → Nat → Bool) (a : D) (f : Nat) (v : D) (S : Store) : R Unit := match a with
  | .ref n => match S[n]? with
    | some (.obj c fs) => guardR (decide (fs.length < 900) && pl c f) (.ok () (S.set n (.obj c (fputD f v fs))))
    | _ => .bad
  | _ => .bad

/-! ### builtin functions, methods -/
inductive Kd where | int | bool | str | tuple | list
  deriving DecidableEq
/-- isinstance of a value by a builtin kind -/
def isD (S : Store) (k : Kd) : D → Option Bool
  | .non => some false
  | .bl _ => some (k == .int || k == .bool)
  | .int _ => some (k == .int)
  | .str _ => some (k == .str)
  | .tup _ => some (k == .tuple)
  | .ref n => match S[n]? with
    | some (.lst _) => some (k == .list)
    | _ => none
def lenD (S : Store) : D → Option Nat
  | .str x => if x.length ≤ sizeLine then some x.length else none
  | a => match kvsOf S a with
    | some kvs => some kvs.length
    | none => (itemsOf S a).map List.length
def bools : List D → Option (List Bool)
  | [] => some []
  | .bl b :: r => (bools r).map (b :: ·)
  | _ => none
def intsD : List D → Option (List Int)
  | [] => some []
  | .int i :: r => (intsD r).map (i :: ·)
  | _ => none
inductive B where | len | all | max2 | min2 | tuple | list
  deriving DecidableEq
def callB (b : B) (vs : List D) (S : Store) : R D := match b, vs with
  | .len, [a] => match lenD S a with | some n => .ok (.int n) S | none => .bad
  | .all, [a] => match (itemsOf S a).bind bools, a with | some bs, .ref _ => .ok (.bl (bs.all id)) S | _, _ => .bad
  | .max2, [.int i, .int j] => .ok (.int (if j > i then j else i)) S
  | .min2, [.int i, .int j] => .ok (.int (if j < i then j else i)) S
  | .tuple, [a] => match itemsOf S a with | some xs => .ok (.tup xs) S | none => .bad
  | .list, [a] => match kvsOf S a with
    | some kvs => guardR ((kvs.all fun kv => keyTup kv.1) && !kvs.isEmpty) (newO (.lst (kvs.map (·.1))) S)
    | none => match itemsOf S a with | some xs => newO (.lst xs) S | none => .bad
  | _, _ => .bad
inductive Mt where | append | pop
  deriving DecidableEq
def mtFits : Mt → O → Bool
  | .append, .lst _ => true
  | .pop, .dic _ => true
  | _, _ => false
def methD (m : Mt) (a : D) (vs : List D) (S : Store) : R D := match a with
  | .ref n => match m, S[n]?, vs with
    | .append, some (.lst xs), [v] => guardR (decide (xs.length < sizeLine)) (.ok .non (S.set n (.lst (xs ++ [v]))))
    | .pop, some (.dic kvs), [k] => guardR (keyTup k && keyFits kvs k) (match valD kvs k with | some v => .ok v (S.set n (.dic (dropD kvs k))) | none => .bad)
    | _, _, _ => .bad
  | _ => .bad

/-! ### the pieces of an expression -/
def varE (i : Nat) : C D := fun ρ S => match ρ[i]? with
  | some (some d) => .ok d S
  | _ => .bad
def cE (d : D) : C D := fun _ S => .ok d S
def bin2 (f : D → D → Store → R D) (a b : C D) : C D := fun ρ S => (a ρ S).bind fun x S1 => (b ρ S1).bind fun y S2 => f x y S2
def binE (op : Operator) : C D → C D → C D := bin2 (opD op)
def cmpE (op : CmpOp) : C D → C D → C D := bin2 (cmpD op)
def boolOf (d : D) (S : Store) : R Bool := match d with | .bl b => .ok b S | _ => .bad
def truthOf (d : D) (S : Store) : R Bool := match truthD S d with | some b => .ok b S | none => .bad
def chainE (o1 o2 : CmpOp) (a b c : C D) : C D := fun ρ S => (a ρ S).bind fun x S1 => (b ρ S1).bind fun y S2 => (cmpD o1 x y S2).bind fun r S3 => (boolOf r S3).bind fun t S4 => if t = true then (c ρ S4).bind fun z S5 => cmpD o2 y z S5 else .ok (.bl false) S4
def negE (a : C D) : C D := fun ρ S => (a ρ S).bind fun x S1 => match x with | .int i => .ok (.int (-i)) S1 | _ => .bad
def notE (a : C D) : C D := fun ρ S => (a ρ S).bind fun x S1 => (boolOf x S1).bind fun b S2 => .ok (.bl (!b)) S2
def andE (a b : C D) : C D := fun ρ S => (a ρ S).bind fun x S1 => (boolOf x S1).bind fun t S2 => if t = true then b ρ S2 else .ok (.bl false) S2
def orE (a b : C D) : C D := fun ρ S => (a ρ S).bind fun x S1 => (boolOf x S1).bind fun t S2 => if t = true then .ok (.bl true) S2 else b ρ S2
def ifE (c : C Bool) (a b : C D) : C D := fun ρ S => (c ρ S).bind fun t S1 => if t = true then a ρ S1 else b ρ S1
def seqE : List (C D) → C (List D)
  | [] => fun _ S => .ok [] S
  | c :: cs => fun ρ S => (c ρ S).bind fun x S1 => (seqE cs ρ S1).bind fun xs S2 => .ok (x :: xs) S2
def tupE (cs : List (C D)) : C D := fun ρ S => guardR (big cs.length) ((seqE cs ρ S).bind fun xs S1 => .ok (.tup xs) S1)
def lstE (cs : List (C D)) : C D := fun ρ S => guardR (big cs.length) ((seqE cs ρ S).bind fun xs S1 => newO (.lst xs) S1)
def dictE : C D := fun _ S => newO (.dic []) S
def ixE (a b : C D) : C D := bin2 getItemD a b
def intPart (c : Option (C D)) : C (Option Int) := fun ρ S => match c with
  | none => .ok none S
  | some c => (c ρ S).bind fun x S1 => match x with | .int i => .ok (some i) S1 | _ => .bad
def sliceE (a : C D) (lo hi : Option (C D)) : C D := fun ρ S => (a ρ S).bind fun x S1 => (intPart lo ρ S1).bind fun l S2 => (intPart hi ρ S2).bind fun h S3 => sliceD x l h S3
def fldE (a : C D) (f : Nat) : C D := fun ρ S => (a ρ S).bind fun x S1 => fieldD x f S1
def callE (f : List D → Store → R D) (cs : List (C D)) : C D := fun ρ S => (seqE cs ρ S).bind fun xs S1 => f xs S1
def isE (k : Kd) (a : C D) : C D := fun ρ S => (a ρ S).bind fun x S1 => optB (isD S1 k x) S1
/-- a method: of an object of the program, or of a list or dict -/
def methE (has : Nat → Nat → Bool) (call : Nat → Nat → List D → Store → R D) (m : Option Nat) (bm : Option Mt) (a : C D) (cs : List (C D)) : C D := fun ρ S => (a ρ S).bind fun x S1 => match x with
  | .ref n => match S1[n]? with
    | some (.obj c fs) => match m with
      | some m => guardR ((fs.lookup m).isNone && has c m) ((seqE cs ρ S1).bind fun xs S2 => call c m (x :: xs) S2)
      | none => .bad
    | some o => match bm with
      | some b => guardR (mtFits b o) ((seqE cs ρ S1).bind fun xs S2 => methD b x xs S2)
      | none => .bad
    | none => .bad
  | _ => .bad
/-- len(..): of an object by its own def -/
def lenE (has : Nat → Nat → Bool) (call : Nat → Nat → List D → Store → R D) (m : Option Nat) (a : C D) : C D := fun ρ S => (a ρ S).bind fun x S1 => match x with
  | .ref n => match S1[n]? with
    | some (.obj c _) => match m with
      | some m => guardR (has c m) <| (call c m [x] S1).bind fun r S2 => match r with | .int i => guardR (decide (0 ≤ i) && decide (i.toNat ≤ sizeLine)) (.ok (.int i) S2) | _ => .bad
      | none => .bad
    | _ => callB .len [x] S1
  | _ => callB .len [x] S1
def makeE (init : List D → Store → R D) (c : Nat) (cs : List (C D)) : C D := fun ρ S => (seqE cs ρ S).bind fun xs S1 => (init (.ref S1.length :: xs) (S1 ++ [.obj c []])).bind fun r S2 => match r with | .non => .ok (.ref S1.length) S2 | _ => .bad
/-- what a loop walks -/
inductive Src where
  | dyn (a : C D)
  | range (a : C D)
def rangeL (lo : Int) (n : Nat) : List D := (List.range n).map fun (k : Nat) => .int (lo + (k : Int))
/-- a comprehension, item by item: the test, the element; the names around stand behind the item's; chk: what is walked stands as it stood -/
def compC (chk : Store → Bool) (t : C Bool) (e : C D) (ρ : Env) : List D → Store → R (List D)
  | [], S => if chk S = true then .ok [] S else .bad
  | x :: xs, S => if chk S = true then (t (some x :: ρ) S).bind fun b S1 => if b = true then (e (some x :: ρ) S1).bind fun y S2 => (compC chk t e ρ xs S2).bind fun ys S3 => .ok (y :: ys) S3 else compC chk t e ρ xs S1 else .bad
def compL : C Bool → C D → Env → List D → Store → R (List D) := compC fun _ => true
def stands (a : D) (all : List D) : Store → Bool := fun S => decide (itemsOf S a = some all)
def compLst (a : D) (all : List D) : C Bool → C D → Env → List D → Store → R (List D) := compC (stands a all)
def noEx {α : Type} (r : R α) : R α := match r with | .ex _ _ _ => .bad | r => r
def rangeOk (j : Int) : Bool := decide (-(2 ^ 62) ≤ j) && decide (j < 2 ^ 62)
/-- over what a value holds: the items of a list or tuple, the keys of a dict, the signs of a text -/
def compV (t : C Bool) (e : C D) (ρ : Env) (x : D) (S : Store) : R (List D) := match x with
  | .str z => guardR (decide (z.cps.size ≤ sizeLine)) (noEx (compL t e ρ (z.cps.toList.map fun c => .str ⟨#[c]⟩) S))
  | .tup xs => noEx (compL t e ρ xs S)
  | .ref n => match S[n]? with
    | some (.dic kvs) => guardR (kvs.all fun kv => keyTup kv.1) ((noEx (compL t e ρ (kvs.map (·.1)) (S.set n (.fdc kvs)))).bind fun ys S2 => match S2[n]? with | some (.fdc kvs') => .ok ys (S2.set n (.dic kvs')) | _ => .bad)
    | some (.lst xs) => noEx (compLst (.ref n) xs t e ρ xs S)
    | some (.rol xs) => noEx (compLst (.ref n) xs t e ρ xs S)
    | _ => .bad
  | _ => .bad
def compI (s : Src) (t : C Bool) (e : C D) : C (List D) := fun ρ S => match s with
  | .dyn a => (a ρ S).bind fun x S1 => compV t e ρ x S1
  | .range a => (a ρ S).bind fun x S1 => match x with
    | .int j => guardR (rangeOk j && decide (j.toNat ≤ sizeLine)) (noEx (compL t e ρ (rangeL 0 j.toNat) S1))
    | _ => .bad
def always : C Bool := fun _ S => .ok true S
def compE (s : Src) (t : C Bool) (e : C D) : C D := fun ρ S => (compI s t e ρ S).bind fun ys S1 => newO (.lst ys) S1
/-- all(..), tuple(..) of a comprehension: the list is no one's -/
def allE (c : C (List D)) : C D := fun ρ S => (c ρ S).bind fun ys S1 => match bools ys with | some bs => .ok (.bl (bs.all id)) S1 | none => .bad
def tupleE (c : C (List D)) : C D := fun ρ S => (c ρ S).bind fun ys S1 => .ok (.tup ys) S1
/-- a text with numbers in it; its value is no one's -/
def textsE (cs : List (C D)) : C D := fun ρ S => (seqE cs ρ S).bind fun xs S1 => guardR (xs.all fun x => match x with | .str y => decide (y.length ≤ 1000) | .int i => decide (i.natAbs < 2 ^ 64) | _ => false) (.ok (.str Str.empty) S1)
/-! tests -/
def testE (a : C D) : C Bool := fun ρ S => (a ρ S).bind fun x S1 => truthOf x S1
def testB (a : C D) : C Bool := fun ρ S => (a ρ S).bind fun x S1 => boolOf x S1
def notT (a : C Bool) : C Bool := fun ρ S => (a ρ S).bind fun b S1 => .ok (!b) S1
def andT (a b : C Bool) : C Bool := fun ρ S => (a ρ S).bind fun t S1 => if t = true then b ρ S1 else .ok false S1
def orT (a b : C Bool) : C Bool := fun ρ S => (a ρ S).bind fun t S1 => if t = true then .ok true S1 else b ρ S1

/-! ### statements -/
inductive F where
  | nx (ρ : Env) (S : Store) | rt (d : D) (S : Store) | bk (ρ : Env) (S : Store) | ct (ρ : Env) (S : Store) | ex (c : Nat) (pay : List D) (S : Store) | bad
abbrev CS := Env → Store → F
def onR {α : Type} (r : R α) (f : α → Store → F) : F := match r with
  | .ok a S => f a S
  | .ex c p S => .ex c p S
  | .bad => .bad
@[simp] theorem onR_ok {α : Type} (a : α) (S : Store) (f : α → Store → F) : onR (.ok a S) f = f a S := rfl
@[simp] theorem onR_ex {α : Type} (c : Nat) (p : List D) (S : Store) (f : α → Store → F) : onR (.ex c p S) f = .ex c p S := rfl
@[simp] theorem onR_bad {α : Type} (f : α → Store → F) : onR (.bad) f = .bad := rfl
def F.then (r : F) (k : CS) : F := match r with
  | .nx ρ S => k ρ S
  | r => r
@[simp] theorem F.then_nx (ρ : Env) (S : Store) (k : CS) : (F.nx ρ S).then k = k ρ S := rfl
@[simp] theorem F.then_rt (d : D) (S : Store) (k : CS) : (F.rt d S).then k = .rt d S := rfl
@[simp] theorem F.then_bk (ρ : Env) (S : Store) (k : CS) : (F.bk ρ S).then k = .bk ρ S := rfl
@[simp] theorem F.then_ct (ρ : Env) (S : Store) (k : CS) : (F.ct ρ S).then k = .ct ρ S := rfl
@[simp] theorem F.then_ex (c : Nat) (p : List D) (S : Store) (k : CS) : (F.ex c p S).then k = .ex c p S := rfl
@[simp] theorem F.then_bad (k : CS) : (F.bad).then k = .bad := rfl
def seqS : List CS → CS
  | [] => fun ρ S => .nx ρ S
  | c :: cs => fun ρ S => (c ρ S).then (seqS cs)
def passS : CS := fun ρ S => .nx ρ S
def breakS : CS := fun ρ S => .bk ρ S
def contS : CS := fun ρ S => .ct ρ S
def badS : CS := fun _ _ => .bad
def exprS (e : C D) : CS := fun ρ S => onR (e ρ S) fun _ S1 => .nx ρ S1
def retS (e : C D) : CS := fun ρ S => onR (e ρ S) fun d S1 => .rt d S1
def ifS (c : C Bool) (a b : CS) : CS := fun ρ S => onR (c ρ S) fun t S1 => if t = true then a ρ S1 else b ρ S1
def setS (i : Nat) (e : C D) : CS := fun ρ S => onR (e ρ S) fun d S1 => .nx (ρ.set i (some d)) S1
def setL : List Nat → List D → Env → Option Env
  | [], [], ρ => some ρ
  | i :: is, d :: ds, ρ => setL is ds (ρ.set i (some d))
  | _, _, _ => none
/-- a, b = (e, ..): the tuple is no one's -/
def parS (is : List Nat) (cs : List (C D)) : CS := fun ρ S => onR (seqE cs ρ S) fun ds S1 => match setL is ds ρ with | some ρ' => .nx ρ' S1 | none => .bad
/-- a, b = e -/
def tupS (is : List Nat) (e : C D) : CS := fun ρ S => onR (e ρ S) fun d S1 => match d with | .tup ds => (match setL is ds ρ with | some ρ' => .nx ρ' S1 | none => .bad) | _ => .bad
def fldS (pl : Nat → Nat → Bool) (o : C D) (f : Nat) (e : C D) : CS := fun ρ S => onR (e ρ S) fun v S1 => onR (o ρ S1) fun x S2 => onR (setFieldD pl x f v S2) fun _ S3 => .nx ρ S3
def subS (o i : C D) (e : C D) : CS := fun ρ S => onR (e ρ S) fun v S1 => onR (o ρ S1) fun x S2 => onR (i ρ S2) fun k S3 => onR (setItemD x k v S3) fun _ S4 => .nx ρ S4
def delS (o i : C D) : CS := fun ρ S => onR (o ρ S) fun x S1 => onR (i ρ S1) fun k S2 => onR (delItemD x k S2) fun _ S3 => .nx ρ S3
def raiseS (c : Nat) (cs : List (C D)) : CS := fun ρ S => onR (seqE cs ρ S) fun _ S1 => .ex c [] S1
/-- what a turn of a loop leaves: go on, or the loop's own end -/
def turnS (r : F) (k : Env → Store → F) : F := match r with
  | .nx ρ S => k ρ S
  | .ct ρ S => k ρ S
  | .bk ρ S => .nx ρ S
  | r => r
@[simp] theorem turnS_nx (ρ : Env) (S : Store) (k : Env → Store → F) : turnS (.nx ρ S) k = k ρ S := rfl
@[simp] theorem turnS_ct (ρ : Env) (S : Store) (k : Env → Store → F) : turnS (.ct ρ S) k = k ρ S := rfl
@[simp] theorem turnS_bk (ρ : Env) (S : Store) (k : Env → Store → F) : turnS (.bk ρ S) k = .nx ρ S := rfl
@[simp] theorem turnS_rt (d : D) (S : Store) (k : Env → Store → F) : turnS (.rt d S) k = .rt d S := rfl
@[simp] theorem turnS_ex (c : Nat) (p : List D) (S : Store) (k : Env → Store → F) : turnS (.ex c p S) k = .ex c p S := rfl
@[simp] theorem turnS_bad (k : Env → Store → F) : turnS .bad k = .bad := rfl
/-- what an item is stored to: a name, or the names of a tuple -/
def tgt (is : List Nat) (one : Bool) (d : D) (ρ : Env) : Option Env := if one then (match is with | [i] => some (ρ.set i (some d)) | _ => none) else (match d with | .tup ds => setL is ds ρ | _ => none)
def forC (chk : Store → Bool) (is : List Nat) (one : Bool) (b : CS) : List D → CS
  | [], ρ, S => if chk S = true then .nx ρ S else .bad
  | x :: xs, ρ, S => if chk S = true then (match tgt is one x ρ with
    | some ρ1 => turnS (b ρ1 S) (forC chk is one b xs)
    | none => .bad) else .bad
def forL : List Nat → Bool → CS → List D → CS := forC fun _ => true
def forLst (a : D) (all : List D) : List Nat → Bool → CS → List D → CS := forC (stands a all)
def forV (is : List Nat) (one : Bool) (b : CS) (x : D) : CS := fun ρ S => match x with
  | .tup xs => forL is one b xs ρ S
  | .ref n => match S[n]? with
    | some (.lst xs) => forLst (.ref n) xs is one b xs ρ S
    | some (.rol xs) => forLst (.ref n) xs is one b xs ρ S
    | _ => .bad
  | _ => .bad
def noExF (r : F) : F := match r with | .ex _ _ _ => .bad | r => r
def forG (s : Src) (is : List Nat) (one : Bool) (b : CS) : CS := fun ρ S => match s with
  | .dyn a => onR (a ρ S) fun x S1 => forV is one b x ρ S1
  | .range a => onR (a ρ S) fun x S1 => match x with
    | .int j => if rangeOk j = true then forL is one b (rangeL 0 j.toNat) ρ S1 else .bad
    | _ => .bad
/-- a loop, which no refusal leaves -/
def forS (s : Src) (is : List Nat) (one : Bool) (b : CS) : CS := fun ρ S => noExF (forG s is one b ρ S)

/-! ### the reading of the syntax -/
/-- the names of the text: constants; fields and methods; functions; classes; refusals -/
structure Tab where
  cons : List (Str × D)
  nams : List Str
  funs : List Str
  clss : List Str
  excs : List Str
  meths : List (Nat × Nat)
/-- no method of the class has this name -/
def Tab.isM (T : Tab) (c f : Nat) : Bool := T.meths.any fun p => p.1 == c && p.2 == f
def Tab.plain (T : Tab) (c f : Nat) : Bool := !T.isM c f
structure Calls where
  f : Nat → List D → Store → R D
  m : Nat → Nat → List D → Store → R D
/-- where a piece stands: the names by their places, the block's own table of names -/
structure Gm where
  N : List Str
  sc : Scope
structure Kit where
  e : Gm → Expr → C D
  t : Gm → Expr → C Bool
  s : Gm → Stmt → CS
def ixOf (l : List Str) (x : Str) : Option Nat := l.findIdx? fun y => decide (y = x)
def oddName (x : Str) : Bool := (x == ("__debug__" : Str)) || (x == ("__classdict__" : Str))
def nameE (T : Tab) (Γ : Gm) (x : Str) : C D := if oddName x = true then badC else match Γ.sc.names.lookup x with
  | some .local | some .cell | some .free => match ixOf Γ.N x with | some i => varE i | none => badC
  | some .globalImplicit => match T.cons.lookup x with | some d => cE d | none => badC
  | _ => badC
/-- a name of the top or a builtin one, as the block sees it -/
def isGl (Γ : Gm) (x : Str) : Bool := !oddName x && (Γ.sc.names.lookup x == some .globalImplicit)
def plainE : Expr → Bool
  | .Starred _ _ => false
  | _ => true
def noBase : Expr → Bool
  | .Call (.Name _ _) [] [] _ => false
  | _ => true
def noSet : Expr → Bool
  | .Set _ _ _ => false
  | _ => true
def noSlice : Expr → Bool
  | .Slice _ _ _ _ => false
  | _ => true
def isComp : Expr → Bool
  | .ListComp _ _ _ _ | .SetComp _ _ _ _ | .DictComp _ _ _ _ _ => true
  | _ => false
def kdOf (x : Str) : Option Kd := if x = ("int" : Str) then some .int else if x = ("bool" : Str) then some .bool else if x = ("str" : Str) then some .str else if x = ("tuple" : Str) then some .tuple else if x = ("list" : Str) then some .list else none
def bOf (x : Str) (n : Nat) : Option B := if x = ("all" : Str) ∧ n = 1 then some .all else if x = ("max" : Str) ∧ n = 2 then some .max2 else if x = ("min" : Str) ∧ n = 2 then some .min2 else
  if x = ("tuple" : Str) ∧ n = 1 then some .tuple else if x = ("list" : Str) ∧ n = 1 then some .list else none
def mtOf (x : Str) (n : Nat) : Option Mt := if x = ("append" : Str) ∧ n = 1 then some .append else if x = ("pop" : Str) ∧ n = 1 then some .pop else none
/-- the names around, but the one that is hidden -/
def shade (x : Str) (N : List Str) : List Str := N.map fun y => if y = x then Str.empty else y
def compOk (sc outer : Scope) (x : Str) (M : List Str) : Bool :=
  (sc.kind == .function) && sc.names.all (fun p => p.2 != NameKind.cell) && (sc.names.lookup x == some NameKind.local) && sc.names.all (fun p => p.2 != NameKind.local || sc.names.lookup p.1 == some NameKind.local) &&
  sc.names.all (fun p => p.2 != NameKind.free || (outer.names.lookup p.1 == some NameKind.cell || outer.names.lookup p.1 == some NameKind.free)) && M.all (fun y => sc.names.lookup y != some NameKind.local)
def nodupB : List Str → Bool
  | [] => true
  | x :: xs => !(xs.any fun y => decide (y = x)) && nodupB xs
def shadeOk (sc : Scope) (x : Str) (N : List Str) : Bool := nodupB (x :: shade x N) && !(sc.names.any fun p => decide (p.1 = Str.empty))
def srcOf (T : Tab) (k : Kit) (Γ : Gm) (it : Expr) : Option Src := match it with
  | .Call (.Name r _) [a] [] _ => if r = ("range" : Str) ∧ isGl Γ r = true ∧ plainE a = true then some (.range (k.e Γ a)) else if noSet it = true then some (.dyn (k.e Γ it)) else none
  | _ => if noSet it = true then some (.dyn (k.e Γ it)) else none
def compG (T : Tab) (k : Kit) (Γ : Gm) (e : Expr) : Option (C (List D)) := match e with
  | .ListComp elt [⟨.Name x _, it, ifs, 0⟩] sc _ =>
    if compOk sc Γ.sc x (shade x Γ.N) = true ∧ shadeOk sc x Γ.N = true then
      match srcOf T k Γ it with
      | some s => match ifs with
        | [] => some (compI s always (k.e ⟨x :: shade x Γ.N, sc⟩ elt))
        | [c] => some (compI s (k.t ⟨x :: shade x Γ.N, sc⟩ c) (k.e ⟨x :: shade x Γ.N, sc⟩ elt))
        | _ => none
      | none => none
    else none
  | _ => none
def callG (T : Tab) (cl : Calls) (k : Kit) (Γ : Gm) (x : Str) (args : List Expr) : C D :=
  if isGl Γ x = false ∨ args.all plainE = false then badC else
  match ixOf T.funs x with
  | some f => if args.isEmpty = true then badC else callE (cl.f f) (args.map (k.e Γ))
  | none => match ixOf T.clss x with
    | some c => match ixOf T.nams "__init__" with
      | some i => if T.isM c i = true then makeE (cl.m c i) c (args.map (k.e Γ)) else badC
      | none => badC
    | none => if (T.cons.lookup x).isSome = true ∨ (ixOf T.excs x).isSome = true then badC else
      if x = ("isinstance" : Str) then (match args with
        | [a, .Name t _] => match kdOf t with
          | some kd => if isGl Γ t = true ∧ (ixOf T.funs t).isNone = true ∧ (ixOf T.clss t).isNone = true ∧ (T.cons.lookup t).isNone = true ∧ (ixOf T.excs t).isNone = true then isE kd (k.e Γ a) else badC
          | none => badC
        | _ => badC)
      else match args with
        | [a] => if x = ("len" : Str) then lenE T.isM cl.m (ixOf T.nams "__len__") (k.e Γ a) else match compG T k Γ a with
          | some c => if x = ("all" : Str) then allE c else if x = ("tuple" : Str) then tupleE c else (match bOf x 1 with | some b => callE (callB b) [k.e Γ a] | none => badC)
          | none => match bOf x 1 with | some b => callE (callB b) [k.e Γ a] | none => badC
        | _ => match bOf x args.length with | some b => callE (callB b) (args.map (k.e Γ)) | none => badC
def stepE (T : Tab) (cl : Calls) (k : Kit) (Γ : Gm) (e : Expr) : C D := match e with
  | .Constant .none _ _ => cE .non
  | .Constant (.bool b) _ _ => cE (.bl b)
  | .Constant (.int i) _ _ => cE (.int i)
  | .Constant (.str x) _ _ => cE (.str x)
  | .Name x _ => nameE T Γ x
  | .BinOp a op b _ => binE op (k.e Γ a) (k.e Γ b)
  | .UnaryOp .Not a _ => notE (k.e Γ a)
  | .UnaryOp .USub a _ => negE (k.e Γ a)
  | .BoolOp _ [a] _ => k.e Γ a
  | .BoolOp .And (a :: b :: r) p => andE (k.e Γ a) (k.e Γ (.BoolOp .And (b :: r) p))
  | .BoolOp .Or (a :: b :: r) p => orE (k.e Γ a) (k.e Γ (.BoolOp .Or (b :: r) p))
  | .IfExp c a b _ => ifE (k.t Γ c) (k.e Γ a) (k.e Γ b)
  | .Compare a [op] [b] _ => if noSet b = true then cmpE op (k.e Γ a) (k.e Γ b) else badC
  | .Compare a [o1, o2] [b, c] _ => if noSet b = true ∧ noSet c = true then chainE o1 o2 (k.e Γ a) (k.e Γ b) (k.e Γ c) else badC
  | .Tuple es _ _ => if es.all plainE = true then tupE (es.map (k.e Γ)) else badC
  | .List es _ => if es.all plainE = true then lstE (es.map (k.e Γ)) else badC
  | .Dict [] [] _ => dictE
  | .Attribute a f _ => match ixOf T.nams f with | some i => if noBase a = true then fldE (k.e Γ a) i else badC | none => badC
  | .Subscript a (.Slice lo hi none _) _ => sliceE (k.e Γ a) (lo.map (k.e Γ)) (hi.map (k.e Γ))
  | .Subscript a b _ => if noSlice b = true then ixE (k.e Γ a) (k.e Γ b) else badC
  | .ListComp _ _ _ _ => match compG T k Γ e with | some c => fun ρ S => (c ρ S).bind fun ys S1 => newO (.lst ys) S1 | none => badC
  | .Call (.Name x _) args [] _ => callG T cl k Γ x args
  | .Call (.Attribute a m ap) args [] cp => if noBase a = true ∧ args.all plainE = true ∧ (ap.endLine == cp.line) = true ∧ args.length < 30 then methE T.isM cl.m (ixOf T.nams m) (mtOf m args.length) (k.e Γ a) (args.map (k.e Γ)) else badC
  | _ => badC
def stepT (T : Tab) (k : Kit) (Γ : Gm) (e : Expr) : C Bool := match e with
  | .UnaryOp .Not a _ => notT (k.t Γ a)
  | .BoolOp _ [a] _ => k.t Γ a
  | .BoolOp .And (a :: b :: r) p => andT (k.t Γ a) (k.t Γ (.BoolOp .And (b :: r) p))
  | .BoolOp .Or (a :: b :: r) p => orT (k.t Γ a) (k.t Γ (.BoolOp .Or (b :: r) p))
  | .BoolOp _ _ _ => badC
  | .IfExp _ _ _ _ => badC
  | .Compare _ [_] [_] _ => testB (k.e Γ e)
  | .Compare _ [_, _] [_, _] _ => testB (k.e Γ e)
  | .Compare _ _ _ _ => badC
  | .UnaryOp _ _ _ => badC
  | _ => testE (k.e Γ e)
/-- a name that may be stored -/
def slot (Γ : Gm) (x : Str) : Option Nat := if Γ.sc.names.lookup x == some .local || Γ.sc.names.lookup x == some .cell then ixOf Γ.N x else none
def slots (Γ : Gm) : List Expr → Option (List Nat)
  | [] => some []
  | .Name x _ :: r => match slot Γ x, slots Γ r with | some i, some is => if is.contains i then none else some (i :: is) | _, _ => none
  | _ => none
def isLoc (Γ : Gm) (l : Nat) : Expr → Bool
  | .Name id p => Γ.sc.names.lookup id == some .local && p.line == l
  | _ => false
/-- whether the stores of a, b = e, f go from the right (none: not read) -/
def swapB (Γ : Gm) (ts es : List Expr) : Option Bool :=
  if ts.all (isLoc Γ ((ts.head?.map (·.pos.line)).getD 0)) = false then some false
  else if es.all (foldedForSure 8) = true then some false else if es.all (constantsAlone 8) = true then none else some true
def stepS (T : Tab) (cl : Calls) (k : Kit) (Γ : Gm) (s : Stmt) : CS := match s with
  | .Pass _ => passS
  | .Break _ => breakS
  | .Continue _ => contS
  | .Expr e _ => if isComp e = true then badS else exprS (k.e Γ e)
  | .Return (some e) _ => retS (k.e Γ e)
  | .Return none _ => retS (cE .non)
  | .If c a b _ => ifS (k.t Γ c) (seqS (a.map (k.s Γ))) (seqS (b.map (k.s Γ)))
  | .Assign [.Name x _] e _ => match slot Γ x with | some i => setS i (k.e Γ e) | none => badS
  | .Assign [.Tuple ts _ _] (.Tuple es _ _) _ => match slots Γ ts with | some is => if es.all plainE = true ∧ (es.length = 2 ∨ es.length = 3) ∧ es.length = ts.length ∧ (swapB Γ ts es).isSome = true then parS is (es.map (k.e Γ)) else badS | none => badS
  | .Assign [.Tuple ts _ _] e _ => if isComp e = true then badS else match slots Γ ts with | some is => tupS is (k.e Γ e) | none => badS
  | .Assign [.Attribute a f _] e _ => match ixOf T.nams f with | some i => if isComp e = true then badS else fldS T.plain (k.e Γ a) i (k.e Γ e) | none => badS
  | .Assign [.Subscript a i _] e _ => if isComp e = true ∨ noSlice i = false then badS else subS (k.e Γ a) (k.e Γ i) (k.e Γ e)
  | .Delete [.Subscript a i _] _ => if noSlice i = true then delS (k.e Γ a) (k.e Γ i) else badS
  | .Raise (some (.Call (.Name x _) args [] _)) none _ => match ixOf T.excs x with
    | some c => if isGl Γ x = true ∧ args.all plainE = true ∧ args.isEmpty = false ∧ args.length ≤ 100 then raiseS c (args.map (k.e Γ)) else badS
    | none => badS
  | .For (.Name x _) it body [] _ => match slot Γ x, srcOf T k Γ it with | some i, some s => forS s [i] true (seqS (body.map (k.s Γ))) | _, _ => badS
  | .For (.Tuple ts _ _) it body [] _ => match slots Γ ts, srcOf T k Γ it with | some is, some s => forS s is false (seqS (body.map (k.s Γ))) | _, _ => badS
  | _ => badS
def kit (T : Tab) (cl : Calls) : Nat → Kit
  | 0 => ⟨fun _ _ => badC, fun _ _ => badC, fun _ _ => badS⟩
  | n + 1 => ⟨fun Γ e => stepE T cl (kit T cl n) Γ e, fun Γ e => stepT T (kit T cl n) Γ e, fun Γ s => stepS T cl (kit T cl n) Γ s⟩
/-! ### defs -/
structure Fn where
  ps : List Str
  N : List Str
  sc : Scope
  body : List Stmt
def sfx (s : Stmt) : Option (Arguments × List Stmt × Scope) := match s with
  | .FunctionDef _ a b _ _ _ sc _ _ _ => some (a, b, sc)
  | _ => none
/-- the names of a def: the parameters, then the others that it stores -/
def namesOf (ps : List Str) (sc : Scope) : List Str := ps ++ ((sc.names.filter fun p => (p.2 == .local || p.2 == .cell) && !(ps.any fun y => decide (y = p.1))).map (·.1))
def fnOf (s : Stmt) : Option Fn := match sfx s with
  | some (a, b, sc) => if a.posonlyargs.isEmpty ∧ a.vararg.isNone = true ∧ a.kwarg.isNone = true ∧ a.kwonlyargs.isEmpty ∧ a.defaults.isEmpty then some ⟨a.args.map (·.arg), namesOf (a.args.map (·.arg)) sc, sc, b⟩ else none
  | none => none
def startE (N : List Str) (vs : List D) : Env := vs.map some ++ List.replicate (N.length - vs.length) none
def endF (r : F) : R D := match r with
  | .nx _ S => .ok .non S
  | .rt d S => .ok d S
  | .ex c p S => .ex c p S
  | _ => .bad
/-- the depth to which a body is read -/
def far : Nat := 24
def runFn (T : Tab) (cl : Calls) (g : Fn) (vs : List D) (S : Store) : R D :=
  if vs.length = g.ps.length then endF (seqS (g.body.map ((kit T cl far).s ⟨g.N, g.sc⟩)) (startE g.N vs) S) else .bad
/-- the program: its names, its defs, its methods -/
structure Prog where
  T : Tab
  fs : List Stmt
  ms : List (Nat × Nat × Stmt)
def Prog.fn (P : Prog) (f : Nat) : Option Fn := (P.fs[f]?).bind fnOf
def Prog.mt (P : Prog) (c m : Nat) : Option Fn := (P.ms.find? fun x => x.1 == c && x.2.1 == m).bind fun x => fnOf x.2.2
def calls (P : Prog) : Nat → Calls
  | 0 => ⟨fun _ _ _ => .bad, fun _ _ _ _ => .bad⟩
  | n + 1 => ⟨fun f vs S => match P.fn f with | some g => runFn P.T (calls P n) g vs S | none => .bad,
      fun c m vs S => match P.mt c m with | some g => runFn P.T (calls P n) g vs S | none => .bad⟩
end RF
end

section
set_option Elab.async false
set_option linter.all false
set_option maxRecDepth 100000
set_option maxHeartbeats 1000000
/-! # What the small reading has to do with the hand layer: values, the store, names -/
namespace L2
open PySem PySem.Spec PyProof.Rows
open RF (D O Store Tab)

mutual
inductive RelD (M : List Addr) (H : Hp) : D → V → Prop
  | non : RelD M H .non .non
  | bl (b : Bool) : RelD M H (.bl b) (.bl b)
  | int (i : Int) : RelD M H (.int i) (.int i)
  | str (x : Str) : RelD M H (.str x) (.str x)
  | tup {xs : List D} {vs : List V} {a : Addr} : H a = some (.tup vs) → RelDs M H xs vs → RelD M H (.tup xs) (.ref a)
  | ref {n : Nat} {a : Addr} : M[n]? = some a → RelD M H (.ref n) (.ref a)
inductive RelDs (M : List Addr) (H : Hp) : List D → List V → Prop
  | nil : RelDs M H [] []
  | cons {x : D} {v : V} {xs : List D} {vs : List V} : RelD M H x v → RelDs M H xs vs → RelDs M H (x :: xs) (v :: vs)
end
/-- the objects stay where they are, the tuples stay -/
structure Up0 (M : List Addr) (H : Hp) (M' : List Addr) (H' : Hp) : Prop where
  pre : M <+: M'
  tups : ∀ b xs, H b = some (.tup xs) → H' b = some (.tup xs)
/-- .. and what is walked stays -/
structure Up (M : List Addr) (H : Hp) (M' : List Addr) (H' : Hp) : Prop extends Up0 M H M' H' where
  frzs : ∀ b o u, H b = some (.frz o u) → H' b = some (.frz o u)
theorem Up.refl (M : List Addr) (H : Hp) : Up M H M H := ⟨⟨List.prefix_rfl, fun _ _ h => h⟩, fun _ _ _ h => h⟩
theorem Up.trans {M M1 M2 : List Addr} {H H1 H2 : Hp} (a : Up M H M1 H1) (b : Up M1 H1 M2 H2) : Up M H M2 H2 := ⟨⟨a.pre.trans b.pre, fun c xs h => b.tups c xs (a.tups c xs h)⟩, fun c o u h => b.frzs c o u (a.frzs c o u h)⟩
theorem pre_get {M M' : List Addr} (h : M <+: M') {n : Nat} {a : Addr} (e : M[n]? = some a) : M'[n]? = some a := by
  obtain ⟨t, rfl⟩ := h
  rw [List.getElem?_append_left (List.getElem?_eq_some_iff.mp e).1]
  exact e
section
variable {M M' : List Addr} {H H' : Hp}
mutual
theorem RelD.up0 {d : D} {v : V} (r : RelD M H d v) (u : Up0 M H M' H') : RelD M' H' d v := by
  cases r with
  | non => exact .non
  | bl b => exact .bl b
  | int i => exact .int i
  | str x => exact .str x
  | tup h rs => exact .tup (u.tups _ _ h) (rs.up0 u)
  | ref h => exact .ref (pre_get u.pre h)
theorem RelDs.up0 {ds : List D} {vs : List V} (r : RelDs M H ds vs) (u : Up0 M H M' H') : RelDs M' H' ds vs := by
  cases r with
  | nil => exact .nil
  | cons h hs => exact .cons (h.up0 u) (hs.up0 u)
end
theorem RelD.up {d : D} {v : V} (r : RelD M H d v) (u : Up M H M' H') : RelD M' H' d v := r.up0 u.toUp0
theorem RelDs.up {ds : List D} {vs : List V} (r : RelDs M H ds vs) (u : Up M H M' H') : RelDs M' H' ds vs := r.up0 u.toUp0
theorem RelDs.length {ds : List D} {vs : List V} (r : RelDs M H ds vs) : ds.length = vs.length := by
  induction ds generalizing vs with
  | nil => cases r; rfl
  | cons d ds ih => cases r with | cons _ h => simp [ih h]
theorem RelDs.get {ds : List D} {vs : List V} (r : RelDs M H ds vs) {i : Nat} {d : D} (e : ds[i]? = some d) : ∃ v, vs[i]? = some v ∧ RelD M H d v := by
  induction ds generalizing vs i with
  | nil => simp at e
  | cons x xs ih =>
    cases r with
    | cons h hs =>
      cases i with
      | zero => simp at e; subst e; exact ⟨_, rfl, h⟩
      | succ i => exact ih hs (by simpa using e)
theorem RelDs.get' {ds : List D} {vs : List V} (r : RelDs M H ds vs) {i : Nat} {v : V} (e : vs[i]? = some v) : ∃ d, ds[i]? = some d ∧ RelD M H d v := by
  induction ds generalizing vs i with
  | nil => cases r; simp at e
  | cons x xs ih =>
    cases r with
    | cons h hs =>
      cases i with
      | zero => simp at e; subst e; exact ⟨_, rfl, h⟩
      | succ i => exact ih hs (by simpa using e)
theorem RelDs.append {ds es : List D} {vs ws : List V} (r : RelDs M H ds vs) (q : RelDs M H es ws) : RelDs M H (ds ++ es) (vs ++ ws) := by
  induction ds generalizing vs with
  | nil => cases r; exact q
  | cons d ds ih => cases r with | cons h hs => exact .cons h (ih hs)
theorem RelDs.set {ds : List D} {vs : List V} {d : D} {v : V} (r : RelDs M H ds vs) (q : RelD M H d v) (i : Nat) : RelDs M H (ds.set i d) (vs.set i v) := by
  induction ds generalizing vs i with
  | nil => cases r; exact .nil
  | cons x xs ih =>
    cases r with
    | cons h hs =>
      cases i with
      | zero => exact .cons q hs
      | succ i => exact .cons h (ih hs i)
theorem RelDs.drop {ds : List D} {vs : List V} (r : RelDs M H ds vs) (i : Nat) : RelDs M H (ds.drop i) (vs.drop i) := by
  induction i generalizing ds vs with
  | zero => exact r
  | succ i ih =>
    cases r with
    | nil => exact .nil
    | cons _ hs => exact ih hs
theorem RelDs.take {ds : List D} {vs : List V} (r : RelDs M H ds vs) (i : Nat) : RelDs M H (ds.take i) (vs.take i) := by
  induction i generalizing ds vs with
  | zero => exact .nil
  | succ i ih =>
    cases r with
    | nil => exact .nil
    | cons h hs => exact .cons h (ih hs)
theorem RelDs.nil_iff {ds : List D} {vs : List V} (r : RelDs M H ds vs) : vs.isEmpty = ds.isEmpty := by cases r <;> rfl
end

/-! ### keys -/
def ofKey : Key → D
  | .inl i => .int i
  | .inr x => .str x
def ofKeys (ks : List Key) : D := .tup (ks.map ofKey)
theorem ofKey_rel (M : List Addr) (H : Hp) (k : Key) : RelD M H (ofKey k) (kV k) := by cases k with | inl i => exact .int i | inr x => exact .str x
theorem ofKey_inj {a b : Key} (e : ofKey a = ofKey b) : a = b := by
  cases a <;> cases b <;> cases e <;> rfl
theorem ofKeyL_inj : ∀ {a b : List Key}, a.map ofKey = b.map ofKey → a = b
  | [], [], _ => rfl
  | [], _ :: _, e => by simp at e
  | _ :: _, [], e => by simp at e
  | x :: xs, y :: ys, e => by
    simp only [List.map_cons, List.cons.injEq] at e
    rw [ofKey_inj e.1, ofKeyL_inj e.2]
theorem ofKeys_inj {a b : List Key} (e : ofKeys a = ofKeys b) : a = b := ofKeyL_inj ((D.tup.injEq _ _).mp e)
theorem keyFlat_of {d : D} (h : RF.keyFlat d = true) : ∃ k, d = ofKey k := by
  cases d with
  | int i => exact ⟨.inl i, rfl⟩
  | str x => exact ⟨.inr x, rfl⟩
  | _ => simp [RF.keyFlat] at h
theorem keysFlat_of {ds : List D} (h : ds.all RF.keyFlat = true) : ∃ ks : List Key, ds = ks.map ofKey := by
  induction ds with
  | nil => exact ⟨[], rfl⟩
  | cons d ds ih =>
    simp only [List.all_cons, Bool.and_eq_true] at h
    obtain ⟨k, rfl⟩ := keyFlat_of h.1
    obtain ⟨ks, rfl⟩ := ih h.2
    exact ⟨k :: ks, rfl⟩
theorem keyTup_of {d : D} (h : RF.keyTup d = true) : ∃ ks, d = ofKeys ks := by
  cases d with
  | tup xs =>
    obtain ⟨ks, rfl⟩ := keysFlat_of (show xs.all RF.keyFlat = true from h)
    exact ⟨ks, rfl⟩
  | _ => simp [RF.keyTup] at h
theorem keyFlat_ofKey (k : Key) : RF.keyFlat (ofKey k) = true := by cases k <;> rfl
theorem keyTup_ofKeys (ks : List Key) : RF.keyTup (ofKeys ks) = true := by
  show (ks.map ofKey).all RF.keyFlat = true
  rw [List.all_map]
  exact List.all_eq_true.mpr fun k _ => keyFlat_ofKey k
theorem rel_kV {M : List Addr} {H : Hp} {k : Key} {v : V} (r : RelD M H (ofKey k) v) : v = kV k := by
  cases k <;> cases r <;> rfl
theorem rels_kV {M : List Addr} {H : Hp} {ks : List Key} {vs : List V} (r : RelDs M H (ks.map ofKey) vs) : vs = ks.map kV := by
  induction ks generalizing vs with
  | nil => cases r; rfl
  | cons k ks ih => cases r with | cons h hs => rw [rel_kV h, ih hs]; rfl

/-! ### objects -/
/-- the pairs of a dict, by its keys' kind -/
def KPair {κ : Type} (f : κ → D) (M : List Addr) (H : Hp) (p : D × D) (q : κ × V) : Prop := p.1 = f q.1 ∧ RelD M H p.2 q.2
/-- a list that is only read -/
def RolAt (K : PySem.W.Frag) (H : Hp) (a : Addr) (vs : List V) : Prop := (∃ o, H a = some (.frz o (.lst vs))) ∨
  ∃ (o : Obj) (its : Array Value) (n : Nat), K.lookup a = some o ∧ o.cls = .type "list" ∧ o.dict = none ∧ o.data = .seq its n ∧ its.size ≤ sizeLine ∧ Vals vs its.toList
theorem RolAt.sq {K : PySem.W.Frag} {H : Hp} {a : Addr} {vs : List V} (h : RolAt K H a vs) : SqL K H a vs := by
  rcases h with ⟨o, h⟩ | h
  · exact .inl (.inr ⟨o, h⟩)
  · exact .inr h
structure Adr where
  T : Tab
  c : Nat → Addr
  x : Nat → Addr
def RelOb (K : PySem.W.Frag) (W : Adr) (M : List Addr) (H : Hp) (a : Addr) : O → Prop
  | .lst xs => ∃ vs, H a = some (.lst vs) ∧ RelDs M H xs vs
  | .rol xs => ∃ vs, RolAt K H a vs ∧ RelDs M H xs vs
  | .dic kvs => (∃ ks : List (Key × V), H a = some (.dK ks) ∧ Paired (KPair ofKey M H) kvs ks) ∨ ∃ ts : List (List Key × V), H a = some (.dT ts) ∧ Paired (KPair ofKeys M H) kvs ts
  | .fdc kvs => ∃ (o : Obj) (ts : List (List Key × V)), H a = some (.frz o (.dT ts)) ∧ Paired (KPair ofKeys M H) kvs ts
  | .obj c fs => ∃ dx gs, H a = some (.ins (W.c c) dx gs) ∧ c < W.T.clss.length ∧ Paired (fun (p : Nat × D) (q : Str × V) => (W.T.nams[p.1]? = some q.1 ∧ W.T.plain c p.1 = true) ∧ RelD M H p.2 q.2) fs gs
def isRol : Option O → Bool
  | some (.rol _) => true
  | _ => false
structure Cn (K : PySem.W.Frag) (W : Adr) (M : List Addr) (S : Store) (H : Hp) : Prop where
  len : M.length = S.length
  nod : W.T.nams.Nodup
  sep : ∀ (i j : Nat) (a : Addr), M[i]? = some a → M[j]? = some a → isRol S[i]? = false → isRol S[j]? = false → i = j
  at_ : ∀ (i : Nat) (o : O) (a : Addr), S[i]? = some o → M[i]? = some a → RelOb K W M H a o
section
variable {K : PySem.W.Frag} {W : Adr} {M M' : List Addr} {S : Store} {H H' : Hp}
theorem KPair.up0 {κ : Type} {f : κ → D} {p : D × D} {q : κ × V} (h : KPair f M H p q) (u : Up0 M H M' H') : KPair f M' H' p q := ⟨h.1, h.2.up0 u⟩
theorem Paired.up0 {κ : Type} {f : κ → D} {ps : List (D × D)} {qs : List (κ × V)} (h : Paired (KPair f M H) ps qs) (u : Up0 M H M' H') : Paired (KPair f M' H') ps qs := Paired.mapP h fun _ _ z => z.up0 u
theorem Paired.up {κ : Type} {f : κ → D} {ps : List (D × D)} {qs : List (κ × V)} (h : Paired (KPair f M H) ps qs) (u : Up M H M' H') : Paired (KPair f M' H') ps qs := Paired.up0 h u.toUp0
/-- an object is described as before, if what stands at its place does -/
theorem RelOb.up0 {a : Addr} {o : O} (h : RelOb K W M H a o) (u : Up0 M H M' H') (e : ∀ u, H a = some u → H' a = some u) : RelOb K W M' H' a o := by
  cases o with
  | lst xs => obtain ⟨vs, h1, h2⟩ := h; exact ⟨vs, e _ h1, h2.up0 u⟩
  | rol xs =>
    obtain ⟨vs, h1, h2⟩ := h
    refine ⟨vs, ?_, h2.up0 u⟩
    rcases h1 with ⟨o, h1⟩ | h1
    · exact .inl ⟨o, e _ h1⟩
    · exact .inr h1
  | dic kvs =>
    rcases h with ⟨ks, h1, h2⟩ | ⟨ts, h1, h2⟩
    · exact .inl ⟨ks, e _ h1, Paired.up0 h2 u⟩
    · exact .inr ⟨ts, e _ h1, Paired.up0 h2 u⟩
  | fdc kvs => obtain ⟨ob, ts, h1, h2⟩ := h; exact ⟨ob, ts, e _ h1, Paired.up0 h2 u⟩
  | obj c fs => obtain ⟨dx, gs, h1, hc, h2⟩ := h; exact ⟨dx, gs, e _ h1, hc, Paired.mapP h2 fun _ _ z => ⟨z.1, z.2.up0 u⟩⟩
theorem RelOb.up {a : Addr} {o : O} (h : RelOb K W M H a o) (u : Up M H M' H') (e : ∀ u, H a = some u → H' a = some u) : RelOb K W M' H' a o := h.up0 u.toUp0 e
theorem Cn.obj (c : Cn K W M S H) {i : Nat} {a : Addr} (h : M[i]? = some a) : ∃ o, S[i]? = some o ∧ RelOb K W M H a o := by
  have hi : i < S.length := by rw [← c.len]; exact (List.getElem?_eq_some_iff.mp h).1
  exact ⟨S[i], by simp [hi], c.at_ i _ a (by simp [hi]) h⟩
theorem up_fresh {p : Addr} {o : HO} (hp : H p = none) : Up M H M (upd H p o) := ⟨⟨List.prefix_rfl, fun b xs h => by rw [upd_ne (ne_of_none h hp)]; exact h⟩, fun b ob u h => by rw [upd_ne (ne_of_none h hp)]; exact h⟩
/-- something new that is no one's (a tuple, a list that is dropped) -/
theorem Cn.fresh (c : Cn K W M S H) {p : Addr} {o : HO} (hp : H p = none) : Cn K W M S (upd H p o) :=
  ⟨c.len, c.nod, c.sep, fun i ob a h1 h2 => (c.at_ i ob a h1 h2).up (up_fresh hp) fun u h => by rw [upd_ne (ne_of_none h hp)]; exact h⟩
theorem up_new {p : Addr} {o : HO} (hp : H p = none) : Up M H (M ++ [p]) (upd H p o) := ⟨⟨List.prefix_append _ _, (up_fresh (M := M) hp).tups⟩, (up_fresh (M := M) hp).frzs⟩
/-- a new object of the store -/
theorem Cn.new (c : Cn K W M S H) {p : Addr} {ho : HO} {o : O} (hp : H p = none) (hr : isRol (some o) = false) (h : RelOb K W (M ++ [p]) (upd H p ho) p o) : Cn K W (M ++ [p]) (S ++ [o]) (upd H p ho) := by
  have old : ∀ i a, M[i]? = some a → isRol S[i]? = false → a ≠ p := fun i a e nr z => by
    obtain ⟨ob, h1, h2⟩ := c.obj e
    subst z
    rw [h1] at nr
    cases ob with
    | lst xs => obtain ⟨_, h, _⟩ := h2; rw [hp] at h; cases h
    | rol xs => simp [isRol] at nr
    | dic kvs => rcases h2 with ⟨_, h, _⟩ | ⟨_, h, _⟩ <;> (rw [hp] at h; cases h)
    | fdc kvs => obtain ⟨_, _, h, _⟩ := h2; rw [hp] at h; cases h
    | obj cc fs => obtain ⟨_, _, h, _⟩ := h2; rw [hp] at h; cases h
  refine ⟨by simp [c.len], c.nod, fun i j a h1 h2 r1 r2 => ?_, fun i ob a h1 h2 => ?_⟩
  · rcases Nat.lt_or_ge i M.length with hi | hi
    · rw [List.getElem?_append_left hi] at h1
      rw [List.getElem?_append_left (by rw [← c.len]; exact hi)] at r1
      rcases Nat.lt_or_ge j M.length with hj | hj
      · rw [List.getElem?_append_left hj] at h2
        rw [List.getElem?_append_left (by rw [← c.len]; exact hj)] at r2
        exact c.sep i j a h1 h2 r1 r2
      · rw [List.getElem?_append_right hj] at h2
        have : a = p := by
          cases e : j - M.length with
          | zero => rw [e] at h2; simpa using h2.symm
          | succ k => rw [e] at h2; simp at h2
        exact absurd this (old i a h1 r1)
    · rw [List.getElem?_append_right hi] at h1
      have ha : a = p ∧ i = M.length := by
        cases e : i - M.length with
        | zero => rw [e] at h1; exact ⟨by simpa using h1.symm, by omega⟩
        | succ k => rw [e] at h1; simp at h1
      rcases Nat.lt_or_ge j M.length with hj | hj
      · rw [List.getElem?_append_left hj] at h2
        rw [List.getElem?_append_left (by rw [← c.len]; exact hj)] at r2
        exact absurd ha.1 (old j a h2 r2)
      · rw [List.getElem?_append_right hj] at h2
        have : j = M.length := by
          cases e : j - M.length with
          | zero => omega
          | succ k => rw [e] at h2; simp at h2
        rw [ha.2, this]
  · rcases Nat.lt_or_ge i M.length with hi | hi
    · rw [List.getElem?_append_left hi] at h2
      rw [List.getElem?_append_left (by rw [← c.len]; exact hi)] at h1
      exact (c.at_ i ob a h1 h2).up (up_new hp) fun u q => by rw [upd_ne (ne_of_none q hp)]; exact q
    · rw [List.getElem?_append_right hi] at h2
      rw [List.getElem?_append_right (by rw [← c.len]; exact hi)] at h1
      cases e : i - M.length with
      | zero =>
        rw [e] at h2
        rw [← c.len, e] at h1
        have h1 : o = ob := by simpa using h1
        have h2 : p = a := by simpa using h2
        subst h1 h2
        exact h
      | succ k => rw [e] at h2; simp at h2
/-- what may be written, or was frozen and is free again: no tuple -/
def NoTup (o : Option HO) : Prop := ∀ xs, o ≠ some (.tup xs)
def isFix : HO → Bool
  | .tup _ => true
  | .frz _ _ => true
  | _ => false
def NoFix (o : Option HO) : Prop := ∀ u, o = some u → isFix u = false
theorem nofix {a : Addr} {o : HO} (e : H a = some o) (h : isFix o = false) : NoFix (H a) := fun u z => by rw [e] at z; cases z; exact h
theorem NoFix.tup {o : Option HO} (h : NoFix o) : NoTup o := fun xs z => by cases h _ z
theorem up_put0 {a : Addr} {ho : HO} (hn : NoTup (H a)) : Up0 M H M (upd H a ho) := ⟨List.prefix_rfl, fun b xs h => by
  rw [upd_ne fun z => by subst z; exact hn xs h]; exact h⟩
theorem up_put {a : Addr} {ho : HO} (hn : NoFix (H a)) : Up M H M (upd H a ho) := ⟨up_put0 hn.tup, fun b o u h => by
  rw [upd_ne fun z => by subst z; cases hn _ h]; exact h⟩
/-- an object is changed -/
theorem Cn.put0 (c : Cn K W M S H) {i : Nat} {a : Addr} {o o' : O} {ho' : HO} (hS : S[i]? = some o) (hM : M[i]? = some a) (hr : isRol (some o) = false) (hr' : isRol (some o') = false) (hn : NoTup (H a)) (hf : ∀ ob vs, H a ≠ some (.frz ob (.lst vs)))
    (h : RelOb K W M (upd H a ho') a o') : Cn K W M (S.set i o') (upd H a ho') := by
  have hi : i < S.length := (List.getElem?_eq_some_iff.mp hS).1
  refine ⟨by simp [c.len], c.nod, fun j k b h1 h2 r1 r2 => c.sep j k b h1 h2 ?_ ?_, fun j ob b h1 h2 => ?_⟩
  · by_cases e : j = i
    · subst e; rw [hS]; exact hr
    · rwa [List.getElem?_set_ne (Ne.symm e)] at r1
  · by_cases e : k = i
    · subst e; rw [hS]; exact hr
    · rwa [List.getElem?_set_ne (Ne.symm e)] at r2
  · by_cases e : j = i
    · subst e
      rw [List.getElem?_set_self hi] at h1
      rw [hM] at h2
      cases h1
      cases h2
      exact h
    · rw [List.getElem?_set_ne (Ne.symm e)] at h1
      have q := c.at_ j ob b h1 h2
      by_cases z : b = a
      · subst z
        cases ob with
        | rol xs =>
          obtain ⟨vs, g1, g2⟩ := q
          rcases g1 with ⟨o1, g1⟩ | g1
          · exact absurd g1 (hf o1 vs)
          · exact ⟨vs, .inr g1, g2.up0 (up_put0 hn)⟩
        | _ => exact absurd (c.sep j i b h2 hM (by rw [h1]; rfl) (by rw [hS]; exact hr)) e
      · exact q.up0 (up_put0 hn) fun u g => by rw [upd_ne z]; exact g
theorem Cn.put (c : Cn K W M S H) {i : Nat} {a : Addr} {o o' : O} {ho' : HO} (hS : S[i]? = some o) (hM : M[i]? = some a) (hr : isRol (some o) = false) (hr' : isRol (some o') = false) (hn : NoFix (H a))
    (h : RelOb K W M (upd H a ho') a o') : Cn K W M (S.set i o') (upd H a ho') := c.put0 hS hM hr hr' hn.tup (fun ob vs z => by cases hn _ z) h
/-- the names -/
def REnv (M : List Addr) (H : Hp) (ρ : RF.Env) (σ : St) : Prop := ∀ (i : Nat) (d : D), ρ[i]? = some (some d) → ∃ v, σ[i]? = some (some v) ∧ RelD M H d v
theorem REnv.up {ρ : RF.Env} {σ : St} (h : REnv M H ρ σ) (u : Up M H M' H') : REnv M' H' ρ σ := fun i d e => let ⟨v, a, b⟩ := h i d e; ⟨v, a, b.up u⟩
theorem REnv.set {ρ : RF.Env} {σ : St} {i : Nat} {d : D} {v : V} (h : REnv M H ρ σ) (r : RelD M H d v) (hl : ρ.length ≤ σ.length) : REnv M H (ρ.set i (some d)) (σ.set i (some v)) := fun j x e => by
  by_cases z : i = j
  · subst z
    have hi : i < ρ.length := by have := (List.getElem?_eq_some_iff.mp e).1; simpa using this
    rw [List.getElem?_set_self hi] at e
    cases e
    exact ⟨v, by rw [List.getElem?_set_self (by omega)], r⟩
  · rw [List.getElem?_set_ne z] at e
    obtain ⟨u, a, b⟩ := h j x e
    exact ⟨u, by rw [List.getElem?_set_ne z]; exact a, b⟩
theorem REnv.cons {ρ : RF.Env} {σ : St} {d : D} {v : V} (h : REnv M H ρ σ) (r : RelD M H d v) : REnv M H (some d :: ρ) (some v :: σ) := fun j x e => by
  cases j with
  | zero => simp at e; subst e; exact ⟨v, rfl, r⟩
  | succ j => exact h j x (by simpa using e)
end
end L2
end

section
set_option Elab.async false
set_option linter.all false
set_option maxRecDepth 100000
set_option maxHeartbeats 1000000
/-! # The readings as transformers -/
namespace L2
open PySem PySem.Spec PyProof.Rows
open RF (D O Store Tab)

structure Sm (K : PySem.W.Frag) (W : Adr) (M : List Addr) (S : Store) (H : Hp) (ρ : RF.Env) (σ : St) : Prop where
  con : Cn K W M S H
  env : REnv M H ρ σ
  len : ρ.length = σ.length
section
variable {K : PySem.W.Frag} {W : Adr} {M M1 M2 : List Addr} {S S1 S2 : Store} {H H1 H2 : Hp} {ρ : RF.Env} {σ : St} {E : XK}
theorem Sm.to (s : Sm K W M S H ρ σ) (c : Cn K W M1 S1 H1) (u : Up M H M1 H1) : Sm K W M1 S1 H1 ρ σ := ⟨c, s.env.up u, s.len⟩
def GlG {α β : Type} (K : PySem.W.Frag) (W : Adr) (rel : List Addr → Hp → α → β → Prop) (E : XK) (M : List Addr) (H : Hp) (r : RF.R α) (Q : β → Hp → Prop) : Prop := match r with
  | .ok a S' => ∀ M' H' b, Cn K W M' S' H' → Up M H M' H' → rel M' H' a b → Q b H'
  | .ex x p S' => p = [] ∧ ∀ M' H', Cn K W M' S' H' → Up M H M' H' → E (.ref (W.x x)) none H'
  | .bad => False
theorem GlG.up {α β : Type} {rel : List Addr → Hp → α → β → Prop} {r : RF.R α} {Q : β → Hp → Prop} (h : GlG K W rel E M H r Q) (u : Up M H M1 H1) : GlG K W rel E M1 H1 r Q := by
  cases r with
  | ok a S' => exact fun M' H' b c u' => h M' H' b c (u.trans u')
  | ex x p S' => exact ⟨h.1, fun M' H' c u' => h.2 M' H' c (u.trans u')⟩
  | bad => exact h
/-- the value is there already -/
theorem GlG.now {α β : Type} {rel : List Addr → Hp → α → β → Prop} {a : α} {b : β} {Q : β → Hp → Prop} (h : GlG K W rel E M H (.ok a S) Q) (c : Cn K W M S H) (r : rel M H a b) : Q b H := h M H b c (Up.refl _ _) r
theorem GlG.at_ {α β : Type} {rel : List Addr → Hp → α → β → Prop} {a : α} {b : β} {Q : β → Hp → Prop} (h : GlG K W rel E M H (.ok a S1) Q) (c : Cn K W M1 S1 H1) (u : Up M H M1 H1) (r : rel M1 H1 a b) : Q b H1 := h M1 H1 b c u r
def tG {α β : Type} (K : PySem.W.Frag) (W : Adr) (rel : List Addr → Hp → α → β → Prop) (E : XK) (c : RF.C α) : St → Hp → (β → Hp → Prop) → Prop := fun σ H Q => ∃ M ρ S, Sm K W M S H ρ σ ∧ GlG K W rel E M H (c ρ S) Q
theorem seqR {α β γ δ : Type} {rel : List Addr → Hp → α → β → Prop} {rel' : List Addr → Hp → γ → δ → Prop} {r : RF.R α} {g : α → Store → RF.R γ} {Q : δ → Hp → Prop} {Q1 : β → Hp → Prop}
    (h : GlG K W rel' E M H (r.bind g) Q) (k : ∀ M1 H1 a b S1, Cn K W M1 S1 H1 → Up M H M1 H1 → rel M1 H1 a b → GlG K W rel' E M1 H1 (g a S1) Q → Q1 b H1) : GlG K W rel E M H r Q1 := by
  cases r with
  | ok a S1 => exact fun M1 H1 b c1 u1 r1 => k M1 H1 a b S1 c1 u1 r1 (GlG.up h u1)
  | ex x p S1 => exact h
  | bad => exact h
theorem seqG {α β γ δ : Type} {rel : List Addr → Hp → α → β → Prop} {rel' : List Addr → Hp → γ → δ → Prop} {c : RF.C α} {g : α → Store → RF.R γ} {Q : δ → Hp → Prop} {Q1 : β → Hp → Prop} (s : Sm K W M S H ρ σ)
    (h : GlG K W rel' E M H ((c ρ S).bind g) Q) (k : ∀ M1 H1 a b S1, Sm K W M1 S1 H1 ρ σ → Up M H M1 H1 → rel M1 H1 a b → GlG K W rel' E M1 H1 (g a S1) Q → Q1 b H1) : tG K W rel E c σ H Q1 :=
  ⟨M, ρ, S, s, seqR h fun M1 H1 a b S1 c1 u1 r1 g1 => k M1 H1 a b S1 (s.to c1 u1) u1 r1 g1⟩
theorem GlG.guard {α β : Type} {rel : List Addr → Hp → α → β → Prop} {b : Bool} {r : RF.R α} {Q : β → Hp → Prop} (h : GlG K W rel E M H (RF.guardR b r) Q) : b = true ∧ GlG K W rel E M H r Q := by
  unfold RF.guardR at h
  cases b with
  | true => exact ⟨rfl, h⟩
  | false => exact h.elim
theorem GlG.noEx {α β : Type} {rel : List Addr → Hp → α → β → Prop} {r : RF.R α} {Q : β → Hp → Prop} (h : GlG K W rel E M H (RF.noEx r) Q) : GlG K W rel E0 M H r Q := by
  cases r with
  | ok a S' => exact h
  | ex x p S' => exact h.elim
  | bad => exact h
end
abbrev tE (K : PySem.W.Frag) (W : Adr) (E : XK) (c : RF.C D) : TE := tG K W RelD E c
abbrev tT (K : PySem.W.Frag) (W : Adr) (E : XK) (c : RF.C Bool) : TT := tG K W (fun _ _ a b => a = b) E c
abbrev tA (K : PySem.W.Frag) (W : Adr) (E : XK) (c : RF.C (List D)) : TA := tG K W RelDs E c
theorem PE.imp {X : Cx} {e : Expr} {t t' : TE} (h : PE X e t) (i : ∀ σ H Q, t' σ H Q → t σ H Q) : PE X e t' := fun pins s σ H Q I q => h pins s σ H Q I (i σ H Q q)
theorem PT.imp {X : Cx} {e : Expr} {t t' : TT} (h : PT X e t) (i : ∀ σ H Q, t' σ H Q → t σ H Q) : PT X e t' := fun pins s σ H Q I q => h pins s σ H Q I (i σ H Q q)
theorem PW.imp {X : Cx} {e : Expr} {t t' : TT} (h : PW X e t) (i : ∀ σ H Q, t' σ H Q → t σ H Q) : PW X e t' := fun wh pins s σ H Q I q => h wh pins s σ H Q I (i σ H Q q)
theorem PA.imp {X : Cx} {es : List Expr} {t t' : TA} (h : PA X es t) (i : ∀ σ H Q, t' σ H Q → t σ H Q) : PA X es t' := fun pos pins s σ H Q I q => h pos pins s σ H Q I (i σ H Q q)
theorem PS.imp {X : Cx} {st : Stmt} {t t' : TS} (h : PS X st t) (i : ∀ D σ H, t' D σ H → t D σ H) : PS X st t' := fun pins s σ H D I q => h pins s σ H D I (i D σ H q)
theorem PSs.imp {X : Cx} {st : List Stmt} {t t' : TS} (h : PSs X st t) (i : ∀ D σ H, t' D σ H → t D σ H) : PSs X st t' := fun pins s σ H D I q => h pins s σ H D I (i D σ H q)
/-- what is never read -/
theorem tG_bad {K : PySem.W.Frag} {W : Adr} {α β : Type} {rel : List Addr → Hp → α → β → Prop} {E : XK} {σ : St} {H : Hp} {Q : β → Hp → Prop} (h : tG K W rel E RF.badC σ H Q) : False := by
  obtain ⟨M, ρ, S, s, g⟩ := h
  exact g
theorem pe_bad {X : Cx} {K : PySem.W.Frag} {W : Adr} {e : Expr} {E : XK} : PE X e (tE K W E RF.badC) := fun _ _ _ _ _ _ h => (tG_bad h).elim
theorem pt_bad {X : Cx} {K : PySem.W.Frag} {W : Adr} {e : Expr} {E : XK} : PT X e (tT K W E RF.badC) := fun _ _ _ _ _ _ h => (tG_bad h).elim

/-! ### operators -/
section
variable {X : Cx} {W : Adr} {E : XK} {a b c : Expr} {ca cb cc : RF.C D} {pos : Pos}
/-- an operation on two values is read by f -/
def OpS (X : Cx) (W : Adr) (E : XK) (f : D → D → Store → RF.R D) (r : R2) : Prop := ∀ (M : List Addr) (S : Store) (H : Hp) (x y : D) (u v : V) (Q : VK), Cn X.K W M S H → RelD M H x u → RelD M H y v → GlG X.K W RelD E M H (f x y S) Q → r u v H Q
theorem op2 {f : D → D → Store → RF.R D} {r : R2} (hr : OpS X W E f r) {σ : St} {H : Hp} {Q : VK} (h : tE X.K W E (RF.bin2 f ca cb) σ H Q) : tOp r (tE X.K W E ca) (tE X.K W E cb) σ H Q := by
  obtain ⟨M, ρ, S, s, g⟩ := h
  exact seqG s g fun M1 H1 x u S1 s1 u1 r1 g1 => seqG s1 g1 fun M2 H2 y v S2 s2 u2 r2 g2 => hr M2 S2 H2 x y u v Q s2.con (r1.up u2) r2 g2
theorem sn_bin {op : Operator} {r : R2} (ho : OpR X (binaryOp op) r) (hr : OpS X W E (RF.opD op) r) (ha : PE X a (tE X.K W E ca)) (hb : PE X b (tE X.K W E cb)) : PE X (.BinOp a op b pos) (tE X.K W E (RF.binE op ca cb)) :=
  (pe_op ho ha hb).imp fun _ _ _ h => op2 hr h
theorem sn_cmp {op : CmpOp} {r : R2} (ho : OpR X (compareOp op) r) (hr : OpS X W E (RF.cmpD op) r) (ha : PE X a (tE X.K W E ca)) (hb : PE X b (tE X.K W E cb)) (hm : behindInMarks op b = false) : PE X (.Compare a [op] [b] pos) (tE X.K W E (RF.cmpE op ca cb)) :=
  (pe_cmpR ho ha hb hm).imp fun _ _ _ h => op2 hr h
/-- a value that is known is told as a truth -/
theorem bool_gl {α β : Type} {rel : List Addr → Hp → α → β → Prop} {K : PySem.W.Frag} {M : List Addr} {H : Hp} {d : D} {S : Store} {g : Bool → Store → RF.R α} {Q : β → Hp → Prop} (h : GlG K W rel E M H ((RF.boolOf d S).bind g) Q) : ∃ b, d = .bl b ∧ GlG K W rel E M H (g b S) Q := by
  cases d with
  | bl b => exact ⟨b, rfl, h⟩
  | _ => exact h.elim
theorem sn_testCmp {op : CmpOp} {r : R2} (ho : OpR X (compareOp op) r) (hr : OpS X W E (RF.cmpD op) r) (ha : PE X a (tE X.K W E ca)) (hb : PE X b (tE X.K W E cb)) (hm : behindInMarks op b = false) : PT X (.Compare a [op] [b] pos) (tT X.K W E (RF.testB (RF.cmpE op ca cb))) := by
  refine (pt_cmpR ho ha hb hm).imp fun σ H Q h => ?_
  obtain ⟨M, ρ, S, s, g⟩ := h
  refine op2 hr (Q := fun x H' => ∃ k, x = .bl k ∧ Q k H') ⟨M, ρ, S, s, ?_⟩
  refine seqR g fun M1 H1 d v S1 c1 u1 r1 g1 => ?_
  cases d with
  | bl k => cases r1; exact ⟨k, rfl, GlG.now g1 c1 rfl⟩
  | _ => exact g1.elim
theorem chain_rd {o1 o2 : CmpOp} {r1 r2 : R2} (h1 : OpS X W E (RF.cmpD o1) r1) (h2 : OpS X W E (RF.cmpD o2) r2) {σ : St} {H : Hp} {Q : VK} (h : tE X.K W E (RF.chainE o1 o2 ca cb cc) σ H Q) : tChain r1 r2 (tE X.K W E ca) (tE X.K W E cb) (tE X.K W E cc) σ H Q := by
  obtain ⟨M, ρ, S, s, g⟩ := h
  refine seqG s g fun M1 H1 x u S1 s1 u1 rx g1 => seqG s1 g1 fun M2 H2 y v S2 s2 u2 ry g2 => ?_
  refine h1 M2 S2 H2 x y u v _ s2.con (rx.up u2) ry (seqR g2 fun M3 H3 d w S3 c3 u3 rd g3 => ?_)
  obtain ⟨k, rfl, g3⟩ := bool_gl g3
  cases rd
  refine ⟨k, rfl, ?_⟩
  have s3 := s2.to c3 u3
  cases k with
  | false => exact iteF (GlG.now g3 c3 (.bl false))
  | true => exact iteT (seqG s3 g3 fun M4 H4 z w' S4 s4 u4 rz g4 => h2 M4 S4 H4 y z v w' Q s4.con ((ry.up u3).up u4) rz g4)
theorem lastMarks_no {o1 o2 : CmpOp} {b c : Expr} (hc : RF.noSet c = true) : lastMarks [o1, o2] [b, c] = false := by
  cases c <;> first | rfl | (simp [RF.noSet] at hc)
theorem mark_no {op : CmpOp} {b : Expr} (h : RF.noSet b = true) : behindInMarks op b = false := by
  cases b <;> first | rfl | (simp [RF.noSet] at h)
theorem sn_chain {o1 o2 : CmpOp} {r1 r2 : R2} (q1 : OpR X (compareOp o1) r1) (q2 : OpR X (compareOp o2) r2) (h1 : OpS X W E (RF.cmpD o1) r1) (h2 : OpS X W E (RF.cmpD o2) r2) (ha : PE X a (tE X.K W E ca)) (hb : PE X b (tE X.K W E cb)) (hc : PE X c (tE X.K W E cc)) (hs : RF.noSet c = true) :
    PE X (.Compare a [o1, o2] [b, c] pos) (tE X.K W E (RF.chainE o1 o2 ca cb cc)) :=
  (pe_chain q1 q2 ha hb hc (lastMarks_no hs)).imp fun _ _ _ h => chain_rd h1 h2 h
theorem sn_testChain {o1 o2 : CmpOp} {r1 r2 : R2} (q1 : OpR X (compareOp o1) r1) (q2 : OpR X (compareOp o2) r2) (h1 : OpS X W E (RF.cmpD o1) r1) (h2 : OpS X W E (RF.cmpD o2) r2) (ha : PE X a (tE X.K W E ca)) (hb : PE X b (tE X.K W E cb)) (hc : PE X c (tE X.K W E cc)) (hs : RF.noSet c = true) :
    PT X (.Compare a [o1, o2] [b, c] pos) (tT X.K W E (RF.testB (RF.chainE o1 o2 ca cb cc))) := by
  refine (pt_chain q1 q2 ha hb hc (lastMarks_no hs)).imp fun σ H Q h => ?_
  obtain ⟨M, ρ, S, s, g⟩ := h
  refine chain_rd h1 h2 (Q := fun x H' => ∃ k, x = .bl k ∧ Q k H') ⟨M, ρ, S, s, ?_⟩
  refine seqR g fun M1 H1 d v S1 c1 u1 r1 g1 => ?_
  cases d with
  | bl k => cases r1; exact ⟨k, rfl, GlG.now g1 c1 rfl⟩
  | _ => exact g1.elim
end
end L2
end

section
set_option Elab.async false
set_option linter.all false
set_option maxRecDepth 100000
set_option maxHeartbeats 1000000
/-! # Operators -/
namespace L2
open PySem PySem.Spec PyProof.Rows
open RF (D O Store Tab)
section
variable {X : Cx} {W : Adr} {E : XK}
theorem rel_tup {M : List Addr} {H : Hp} {xs : List D} {v : V} (r : RelD M H (.tup xs) v) : ∃ a vs, v = .ref a ∧ H a = some (.tup vs) ∧ RelDs M H xs vs := by
  cases r with | tup h hs => exact ⟨_, _, rfl, h, hs⟩
theorem rel_ref {M : List Addr} {H : Hp} {n : Nat} {v : V} (r : RelD M H (.ref n) v) : ∃ a, v = .ref a ∧ M[n]? = some a := by
  cases r with | ref h => exact ⟨_, rfl, h⟩
theorem new_at {M : List Addr} {p : Addr} {H H' : Hp} {S : Store} {K : PySem.W.Frag} (c : Cn K W M S H) : RelD (M ++ [p]) (H') (.ref S.length) (.ref p) := .ref (by rw [← c.len]; simp)
/-- a new list of values that are known -/
theorem Cn.newL {K : PySem.W.Frag} {M : List Addr} {S : Store} {H : Hp} (c : Cn K W M S H) {p : Addr} {xs : List D} {vs : List V} (hp : H p = none) (r : RelDs M H xs vs) : Cn K W (M ++ [p]) (S ++ [.lst xs]) (upd H p (.lst vs)) :=
  c.new hp rfl ⟨vs, upd_same, r.up (up_new hp)⟩
theorem gl_newL {K : PySem.W.Frag} {M : List Addr} {S : Store} {H : Hp} {Q : VK} {xs : List D} {vs : List V} (g : GlG K W RelD E M H (RF.newO (.lst xs) S) Q) (c : Cn K W M S H) (r : RelDs M H xs vs) : ∀ p, H p = none → Q (.ref p) (upd H p (.lst vs)) := fun p hp =>
  GlG.at_ g (c.newL hp r) (up_new hp) (new_at c)
/-! + -/
def rAddA (K : PySem.W.Frag) : R2 := fun x y H Q => rI0 (fun i j => .int (i + j)) x y H Q ∨ rCatA K x y H Q ∨ rCat x y H Q
theorem op_addA : OpR X (binaryOp .Add) (rAddA X.K) := op_add.or (op_catA.or op_cat)
theorem Cn.lst {K : PySem.W.Frag} {M : List Addr} {S : Store} {H : Hp} (c : Cn K W M S H) {n : Nat} {a : Addr} {xs : List D} (h : S[n]? = some (.lst xs)) (e : M[n]? = some a) : ∃ vs, H a = some (.lst vs) ∧ RelDs M H xs vs := c.at_ n _ a h e
/-- a list that is read -/
theorem Cn.items {K : PySem.W.Frag} {M : List Addr} {S : Store} {H : Hp} (c : Cn K W M S H) {n : Nat} {a : Addr} {xs : List D} (h : RF.itemsOf S (.ref n) = some xs) (e : M[n]? = some a) : ∃ vs, SqL K H a vs ∧ RelDs M H xs vs := by
  unfold RF.itemsOf at h
  dsimp only at h
  split at h
  · rename_i ys hS
    cases h
    obtain ⟨vs, h1, h2⟩ := c.lst hS e
    exact ⟨vs, SqL.of h1, h2⟩
  · rename_i ys hS
    cases h
    obtain ⟨vs, h1, h2⟩ := c.at_ n _ a hS e
    exact ⟨vs, h1.sq, h2⟩
  · cases h
theorem os_add : OpS X W E (RF.opD .Add) (rAddA X.K) := by
  intro M S H x y u v Q c rx ry g
  change GlG X.K W RelD E M H (RF.addD x y S) Q at g
  unfold RF.addD at g
  split at g
  · cases rx; cases ry
    exact .inl ⟨_, _, rfl, rfl, GlG.now g c (.int _)⟩
  · rename_i xs ys
    obtain ⟨a, vs, rfl, ha, hx⟩ := rel_tup rx
    obtain ⟨b, ws, rfl, hb, hy⟩ := rel_tup ry
    obtain ⟨hz, g⟩ := GlG.guard g
    have hz : xs.length + ys.length ≤ sizeLine := of_decide_eq_true hz
    refine .inr (.inl ⟨a, b, vs, ws, rfl, rfl, SqT.of ha, SqT.of hb, by rw [← hx.length, ← hy.length]; exact hz, fun e => ?_, fun _ e => ?_, fun _ _ p hp => ?_⟩)
    · subst e
      cases hx
      exact GlG.now g c (.tup hb hy)
    · subst e
      cases hy
      rw [List.append_nil] at g
      exact GlG.now g c (.tup ha hx)
    · exact GlG.at_ g (c.fresh hp) (up_fresh hp) (.tup upd_same ((hx.append hy).up (up_fresh hp)))
  · rename_i m n
    split at g
    · rename_i xs ys h1 h2
      obtain ⟨a, rfl, ea⟩ := rel_ref rx
      obtain ⟨b, rfl, eb⟩ := rel_ref ry
      obtain ⟨vs, ha, hx⟩ := c.lst h1 ea
      obtain ⟨ws, hb, hy⟩ := c.lst h2 eb
      obtain ⟨hz, g⟩ := GlG.guard g
      have hz : xs.length + ys.length ≤ sizeLine := of_decide_eq_true hz
      exact .inr (.inr ⟨a, b, vs, ws, rfl, rfl, ha, hb, by rw [← hx.length, ← hy.length]; exact hz, gl_newL g c (hx.append hy)⟩)
    · exact g.elim
  · exact g.elim
/-! the other ints' operators -/
theorem bitsN {z : Int} {m : Nat} (h : z.natAbs < 2 ^ m) : Builtin.Int.intBits z ≤ m := (PySem.intBits_le_iff (x := z) (m := m)).mpr h
theorem mulOk_of {a b : Int} (h : RF.mulOk a b = true) : IntMulOk a b := by
  unfold RF.mulOk at h
  simp only [Bool.or_eq_true, Bool.and_eq_true, decide_eq_true_eq] at h
  rcases h with (h | h) | ⟨h1, h2⟩
  · exact .of_left (bitsN h)
  · exact .of_right (bitsN h)
  · exact PySem.IntMulOk.of_bits (Nat.le_trans (bitsN h1) (by decide)) (Nat.le_trans (bitsN h2) (by decide))
theorem os_int {op : Operator} {C : Int → Int → Prop} {f : Int → Int → Int} (h : ∀ (x y : D) (S : Store), RF.opD op x y S = .bad ∨ ∃ i j, x = .int i ∧ y = .int j ∧ C i j ∧ RF.opD op x y S = .ok (.int (f i j)) S) : OpS X W E (RF.opD op) (rI C fun i j => .int (f i j)) := by
  intro M S H x y u v Q c rx ry g
  rcases h x y S with e | ⟨i, j, rfl, rfl, hc, e⟩
  · rw [e] at g; exact g.elim
  · rw [e] at g
    cases rx; cases ry
    exact ⟨i, j, rfl, rfl, hc, GlG.now g c (.int _)⟩
def yes : Int → Int → Prop := fun _ _ => True
theorem op_subY : OpR X (binaryOp .Sub) (rI yes fun i j => .int (i - j)) := fun pins s σ H x y v u Q I rx ry ⟨i, j, e1, e2, _, q⟩ => op_sub pins s σ H x y v u Q I rx ry ⟨i, j, e1, e2, q⟩
theorem os_sub : OpS X W E (RF.opD .Sub) (rI yes fun i j => .int (i - j)) := os_int fun x y S => by
  cases x <;> cases y <;> first | exact .inl rfl | exact .inr ⟨_, _, rfl, rfl, trivial, rfl⟩
theorem os_mul : OpS X W E (RF.opD .Mult) (rI IntMulOk fun i j => .int (i * j)) := os_int fun x y S => by
  cases x <;> cases y <;> first | exact .inl rfl | skip
  rename_i i j
  cases e : RF.mulOk i j with
  | false => left; show RF.guardR _ _ = _; rw [e]; rfl
  | true => exact .inr ⟨i, j, rfl, rfl, mulOk_of e, by show RF.guardR _ _ = _; rw [e]; rfl⟩
theorem os_fdiv : OpS X W E (RF.opD .FloorDiv) (rI CDivX fun i j => .int (i / j)) := os_int fun x y S => by
  cases x <;> cases y <;> first | exact .inl rfl | skip
  rename_i i j
  cases e : (decide (0 < j) && decide (j < 2 ^ 250)) with
  | false => left; show RF.guardR _ _ = _; rw [e]; rfl
  | true =>
    refine .inr ⟨i, j, rfl, rfl, ?_, by show RF.guardR _ _ = _; rw [e]; rfl⟩
    simp only [Bool.and_eq_true, decide_eq_true_eq] at e
    refine ⟨e.1, ?_⟩
    have h2 : j.natAbs < 2 ^ 250 := by omega
    exact Nat.lt_of_lt_of_le ((Nat.log2_lt (by omega)).mpr h2) (by decide)
theorem os_mod : OpS X W E (RF.opD .Mod) (rI (fun _ j => 0 < j) fun i j => .int (i % j)) := os_int fun x y S => by
  cases x <;> cases y <;> first | exact .inl rfl | skip
  rename_i i j
  cases e : decide (0 < j) with
  | false => left; show RF.guardR _ _ = _; rw [e]; rfl
  | true => exact .inr ⟨i, j, rfl, rfl, of_decide_eq_true e, by show RF.guardR _ _ = _; rw [e]; rfl⟩
theorem os_pow : OpS X W E (RF.opD .Pow) (rI CPow fun i j => .int (i ^ j.toNat)) := os_int fun x y S => by
  cases x <;> cases y <;> first | exact .inl rfl | skip
  rename_i i j
  cases e : (decide (i = 10) && decide (j = 18)) with
  | false => left; show RF.guardR _ _ = _; rw [e]; rfl
  | true =>
    refine .inr ⟨i, j, rfl, rfl, ?_, ?_⟩
    · simp only [Bool.and_eq_true, decide_eq_true_eq] at e
      obtain ⟨rfl, rfl⟩ := e
      exact ⟨by decide, by decide, by decide⟩
    · show RF.guardR _ _ = _
      rw [e]
      simp only [Bool.and_eq_true, decide_eq_true_eq] at e
      obtain ⟨rfl, rfl⟩ := e
      rfl
/-- each operator by one rule -/
theorem bin_ok (op : Operator) : ∃ r, OpR X (binaryOp op) r ∧ OpS X W E (RF.opD op) r := by
  have no : ∀ op : Operator, (∀ x y S, RF.opD op x y S = .bad) → ∃ r, OpR X (binaryOp op) r ∧ OpS X W E (RF.opD op) r := fun op h =>
    ⟨fun _ _ _ _ => False, fun _ _ _ _ _ _ _ _ _ _ _ _ z => z.elim, fun M S H x y u v Q c rx ry g => by rw [h] at g; exact g.elim⟩
  cases op with
  | Add => exact ⟨_, op_addA, os_add⟩
  | Sub => exact ⟨_, op_subY, os_sub⟩
  | Mult => exact ⟨_, op_mulX, os_mul⟩
  | FloorDiv => exact ⟨_, op_fdivX, os_fdiv⟩
  | Mod => exact ⟨_, op_mod, os_mod⟩
  | Pow => exact ⟨_, op_pow, os_pow⟩
  | _ => exact no _ fun x y S => by cases x <;> cases y <;> rfl
end
end L2
end

section
set_option Elab.async false
set_option linter.all false
set_option maxRecDepth 100000
set_option maxHeartbeats 1000000
/-! # Comparisons -/
namespace L2
open PySem PySem.Spec PyProof.Rows
open RF (D O Store Tab)
section
variable {X : Cx} {W : Adr} {E : XK} {K : PySem.W.Frag} {M : List Addr} {S : Store} {H : Hp}
theorem flat_rel {d : D} {v : V} (f : RF.flatD d = true) (r : RelD M H d v) : flatV v = true := by
  cases r <;> first | rfl | (simp [RF.flatD] at f)
theorem flat_eq {x y : D} {u v : V} (fx : RF.flatD x = true) (fy : RF.flatD y = true) (rx : RelD M H x u) (ry : RelD M H y v) : eqV u v = RF.eqFlat x y := by
  cases rx <;> cases ry <;> first | rfl | (simp [RF.flatD] at fx; done) | (simp [RF.flatD] at fy; done)
theorem allO_len {f : D → D → Option Bool} : ∀ {xs ys : List D} {b : Bool}, RF.allO f xs ys = some b → ∃ e : Nat → Bool, (∀ j x y, xs[j]? = some x → ys[j]? = some y → f x y = some (e j)) ∧ b = (List.range (min xs.length ys.length)).all e
  | [], _, b, h => ⟨fun _ => true, fun j x y h1 => by simp at h1, by simp [RF.allO] at h; simp [← h]⟩
  | x :: xs, [], b, h => ⟨fun _ => true, fun j x y _ h2 => by simp at h2, by simp [RF.allO] at h; simp [← h]⟩
  | x :: xs, y :: ys, b, h => by
    unfold RF.allO at h
    split at h
    · rename_i p q h1 h2
      cases h
      obtain ⟨e, e1, e2⟩ := allO_len h2
      refine ⟨fun j => match j with | 0 => p | j + 1 => e j, fun j x' y' g1 g2 => ?_, ?_⟩
      · cases j with
        | zero => simp at g1 g2; subst g1 g2; exact h1
        | succ j => exact e1 j x' y' (by simpa using g1) (by simpa using g2)
      · have : min (x :: xs).length (y :: ys).length = min xs.length ys.length + 1 := by simp only [List.length_cons]; omega
        rw [this, List.range_succ_eq_map, List.all_cons, List.all_map, e2]
        rfl
    · cases h
theorem lst_obj (c : Cn K W M S H) {n : Nat} {xs : List D} {v : V} (h : S[n]? = some (.lst xs)) (r : RelD M H (.ref n) v) : ∃ a vs, v = .ref a ∧ M[n]? = some a ∧ H a = some (.lst vs) ∧ RelDs M H xs vs := by
  obtain ⟨a, rfl, e⟩ := rel_ref r
  obtain ⟨vs, h1, h2⟩ := c.lst h e
  exact ⟨a, vs, rfl, e, h1, h2⟩
theorem RelDs.at2 {ds es : List D} {vs : List V} (r : RelDs M H ds vs) (q : RelDs M H es vs) {j : Nat} {x y : D} (h1 : ds[j]? = some x) (h2 : es[j]? = some y) : ∃ v, RelD M H x v ∧ RelD M H y v := by
  obtain ⟨v, g1, g2⟩ := r.get h1
  obtain ⟨w, k1, k2⟩ := q.get h2
  rw [g1] at k1
  cases k1
  exact ⟨v, g2, k2⟩
theorem range_all_true {n : Nat} {e : Nat → Bool} (h : ∀ j, j < n → e j = true) : (List.range n).all e = true := List.all_eq_true.mpr fun j hj => h j (List.mem_range.mp hj)
/-- what stands for the same value is told equal -/
theorem eqD_same (c : Cn K W M S H) : ∀ (n : Nat) (x y : D) (v : V) (b : Bool), RelD M H x v → RelD M H y v → RF.eqD S n x y = some b → b = true
  | 0, _, _, _, _, _, _, h => by simp [RF.eqD] at h
  | n + 1, x, y, v, b, rx, ry, h => by
    cases rx with
    | non => cases ry; simp [RF.eqD, RF.flatD, RF.eqFlat] at h; exact h
    | bl k => cases ry; simp [RF.eqD, RF.flatD, RF.eqFlat] at h; exact h
    | int i => cases ry; simp [RF.eqD, RF.flatD, RF.eqFlat] at h; exact h
    | str z => cases ry; simp [RF.eqD, RF.flatD, RF.eqFlat] at h; exact h
    | tup ha hx =>
      cases ry with
      | tup hb hy =>
        rw [ha] at hb
        cases hb
        unfold RF.eqD at h
        cases q : RF.allO (RF.eqD S n) _ _ with
        | none => rw [q] at h; cases h
        | some b0 =>
          rw [q] at h
          cases h
          obtain ⟨e, e1, e2⟩ := allO_len q
          have hl := hx.length.trans hy.length.symm
          rw [e2, Bool.and_eq_true]
          refine ⟨range_all_true fun j hj => ?_, by simp [hl]⟩
          have j1 : j < _ := Nat.lt_of_lt_of_le hj (Nat.min_le_left _ _)
          have j2 : j < _ := Nat.lt_of_lt_of_le hj (Nat.min_le_right _ _)
          obtain ⟨w, r1, r2⟩ := hx.at2 hy (List.getElem?_eq_getElem j1) (List.getElem?_eq_getElem j2)
          exact eqD_same c n _ _ w _ r1 r2 (e1 j _ _ (List.getElem?_eq_getElem j1) (List.getElem?_eq_getElem j2))
      | ref hm =>
        unfold RF.eqD at h
        split at h
        · rename_i z; cases z
        · cases h
    | ref hm =>
      cases ry with
      | tup hb hy =>
        unfold RF.eqD at h
        split at h
        · rename_i z; cases z
        · cases h
      | ref hm' =>
        rename_i n1 a n2
        unfold RF.eqD at h
        split at h
        · rename_i xs ys h1 h2
          have e : n1 = n2 := c.sep n1 n2 a hm hm' (by rw [h1]; rfl) (by rw [h2]; rfl)
          subst e
          rw [h1] at h2
          cases h2
          rw [if_pos rfl] at h
          obtain ⟨e, e1, e2⟩ := allO_len h
          rw [e2]
          refine range_all_true fun j hj => ?_
          have j1 : j < xs.length := Nat.lt_of_lt_of_le hj (Nat.min_le_left _ _)
          obtain ⟨vs, _, hx⟩ := c.lst h1 hm
          obtain ⟨w, r1, r2⟩ := hx.at2 hx (List.getElem?_eq_getElem j1) (List.getElem?_eq_getElem j1)
          exact eqD_same c n _ _ w _ r1 r2 (e1 j _ _ (List.getElem?_eq_getElem j1) (List.getElem?_eq_getElem j1))
        · cases h
theorem eqD_cmp (c : Cn K W M S H) : ∀ (n : Nat) (x y : D) (u v : V) (b : Bool), RelD M H x u → RelD M H y v → RF.eqD S n x y = some b → Cmp K H n u v b
  | 0, _, _, _, _, _, _, _, h => by simp [RF.eqD] at h
  | n + 1, x, y, u, v, b, rx, ry, h => by
    by_cases hf : (RF.flatD x && RF.flatD y) = true
    · have hf' := hf
      simp only [Bool.and_eq_true] at hf'
      have e : RF.eqD S (n + 1) x y = some (RF.eqFlat x y) := by
        cases x <;> cases y <;> first | rfl | (simp [RF.flatD] at hf'; done)
      rw [e] at h
      cases h
      rw [← flat_eq hf'.1 hf'.2 rx ry]
      exact cmp_flat (flat_rel hf'.1 rx) (flat_rel hf'.2 ry)
    · cases x with
      | tup xs =>
        obtain ⟨a, vs, rfl, ha, hx⟩ := rel_tup rx
        cases y with
        | tup ys =>
          obtain ⟨b', ws, rfl, hb, hy⟩ := rel_tup ry
          have same := h
          unfold RF.eqD at h
          cases q : RF.allO (RF.eqD S n) xs ys with
          | none => rw [q] at h; cases h
          | some b0 =>
            rw [q] at h
            obtain ⟨e, e1, e2⟩ := allO_len q
            have hb' : b = ((List.range (min vs.length ws.length)).all e && vs.length == ws.length) := by
              rw [← hx.length, ← hy.length, ← e2]
              exact (Option.some.inj h).symm
            subst hb'
            refine cmp_tuples (SqT.of ha) (SqT.of hb) (fun z => ?_) fun j p q' h1 h2 => ?_
            · subst z
              rw [hb] at ha
              cases ha
              exact eqD_same c (n + 1) _ _ (.ref a) _ (.tup hb hx) (.tup hb hy) same
            · obtain ⟨dx, g1, g2⟩ := hx.get' h1
              obtain ⟨dy, k1, k2⟩ := hy.get' h2
              exact eqD_cmp c n dx dy p q' _ g2 k2 (e1 j dx dy g1 k1)
        | non =>
          cases ry
          have : b = false := by simp [RF.eqD] at h; exact h
          subst this
          exact cmp_tup_non (SqT.of ha)
        | _ => simp [RF.eqD] at h
      | ref i =>
        cases y with
        | ref j =>
          have same := h
          unfold RF.eqD at h
          split at h
          · rename_i xs ys h1 h2
            obtain ⟨a, vs, rfl, ea, ha, hx⟩ := lst_obj c h1 rx
            obtain ⟨b', ws, rfl, eb, hb, hy⟩ := lst_obj c h2 ry
            split at h
            · rename_i hl
              obtain ⟨e, e1, e2⟩ := allO_len h
              have hb' : b = (List.range vs.length).all e := by
                rw [e2, ← hx.length, hl, Nat.min_self]
              subst hb'
              refine cmp_lists (SqL.of ha) (SqL.of hb) (by rw [← hx.length, ← hy.length]; exact hl) (fun z => ?_) fun j p q' g1 g2 => ?_
              · subst z
                exact eqD_same c (n + 1) _ _ (.ref a) _ (.ref ea) (.ref eb) same
              · obtain ⟨dx, k1, k2⟩ := hx.get' g1
                obtain ⟨dy, l1, l2⟩ := hy.get' g2
                exact eqD_cmp c n dx dy p q' _ k2 l2 (e1 j dx dy k1 l1)
            · rename_i hl
              cases h
              exact cmp_lists_len (SqL.of ha) (SqL.of hb) (by rw [← hx.length, ← hy.length]; exact hl)
          · cases h
        | tup ys => simp [RF.eqD] at h
        | _ => simp [RF.eqD, RF.flatD] at h
      | non =>
        cases rx
        cases y with
        | tup ys =>
          obtain ⟨a, vs, rfl, ha, hx⟩ := rel_tup ry
          have : b = false := by simp [RF.eqD] at h; exact h
          subst this
          exact cmp_non_tup (SqT.of ha)
        | _ => simp [RF.eqD, RF.flatD] at h hf
      | _ => cases y <;> simp [RF.eqD, RF.flatD] at h hf
theorem eqTop_cmp (c : Cn K W M S H) {x y : D} {u v : V} {b : Bool} (rx : RelD M H x u) (ry : RelD M H y v) (h : RF.eqTop S RF.depth x y = some b) : Cmp K H RF.depth u v b := by
  unfold RF.eqTop at h
  split at h
  · rename_i i j
    split at h
    · rename_i xs h1 h2
      cases h
      obtain ⟨a, rfl, ea⟩ := rel_ref rx
      obtain ⟨b', ws, rfl, eb, hb, hy⟩ := lst_obj c h2 ry
      cases hy
      obtain ⟨vs, ha, hx⟩ := c.at_ i _ a h1 ea
      cases hx with
      | nil => exact cmp_up (n := 1) (cmp_lists (n := 0) (e := fun _ => true) ha.sq (SqL.of hb) rfl (fun _ => rfl) fun j p q g1 => by simp at g1) (by decide)
      | cons _ _ => exact cmp_lists_len ha.sq (SqL.of hb) (by simp)
    · exact eqD_cmp c _ _ _ _ _ _ rx ry h
  · exact eqD_cmp c _ _ _ _ _ _ rx ry h
theorem optB_gl {o : Option Bool} {Q : VK} (g : GlG K W RelD E M H (RF.optB o S) Q) (c : Cn K W M S H) : ∃ b, o = some b ∧ Q (.bl b) H := by
  cases o with
  | none => exact g.elim
  | some b => exact ⟨b, rfl, GlG.now g c (.bl b)⟩
theorem os_eq : OpS X W E (RF.cmpD .Eq) (rEqC X.K RF.depth) := by
  intro M S H x y u v Q c rx ry g
  obtain ⟨b, h, q⟩ := optB_gl g c
  exact ⟨b, eqTop_cmp c rx ry h, q⟩
theorem os_ne : OpS X W E (RF.cmpD .NotEq) (rNeC X.K RF.depth) := by
  intro M S H x y u v Q c rx ry g
  obtain ⟨b, h, q⟩ := optB_gl g c
  obtain ⟨b', h', e⟩ := Option.map_eq_some_iff.mp h
  subst e
  exact ⟨b', eqTop_cmp c rx ry h', q⟩
theorem os_rel {op : CmpOp} {f : Int → Int → Bool} (h : ∀ (x y : D) (S : Store), RF.cmpD op x y S = .bad ∨ ∃ i j, x = .int i ∧ y = .int j ∧ RF.cmpD op x y S = .ok (.bl (f i j)) S) : OpS X W E (RF.cmpD op) (rI0 fun i j => .bl (f i j)) := by
  intro M S H x y u v Q c rx ry g
  rcases h x y S with e | ⟨i, j, rfl, rfl, e⟩
  · rw [e] at g; exact g.elim
  · rw [e] at g
    cases rx; cases ry
    exact ⟨i, j, rfl, rfl, GlG.now g c (.bl _)⟩
theorem rel_non {d : D} {v : V} (r : RelD M H d v) : decide (v = .non) = decide (d = .non) := by
  cases r <;> simp
theorem os_is : OpS X W E (RF.cmpD .Is) (fun x y H Q => y = .non ∧ Q (.bl (decide (x = .non))) H) := by
  intro M S H x y u v Q c rx ry g
  change GlG X.K W RelD E M H (if y = .non then .ok (.bl (decide (x = .non))) S else .bad) Q at g
  split at g
  · rename_i e
    subst e
    cases ry
    rw [rel_non rx]
    exact ⟨rfl, GlG.now g c (.bl _)⟩
  · exact g.elim
theorem os_isnot : OpS X W E (RF.cmpD .IsNot) (fun x y H Q => y = .non ∧ Q (.bl (!decide (x = .non))) H) := by
  intro M S H x y u v Q c rx ry g
  change GlG X.K W RelD E M H (if y = .non then .ok (.bl (!decide (x = .non))) S else .bad) Q at g
  split at g
  · rename_i e
    subst e
    cases ry
    rw [rel_non rx]
    exact ⟨rfl, GlG.now g c (.bl _)⟩
  · exact g.elim
/-! dicts: what is read of them -/
theorem val_pair {κ : Type} [DecidableEq κ] {f : κ → D} (hf : ∀ a b, f a = f b → a = b) {kvs : List (D × D)} {ks : List (κ × V)} (h : Paired (KPair f M H) kvs ks) (k : κ) :
    (RF.valD kvs (f k) = none ∧ valV ks k = none) ∨ ∃ d v, RF.valD kvs (f k) = some d ∧ valV ks k = some v ∧ RelD M H d v := by
  induction h with
  | nil => exact .inl ⟨rfl, rfl⟩
  | @cons p q kvs ks r t ih =>
    obtain ⟨r1, r2⟩ := r
    by_cases e : q.1 = k
    · refine .inr ⟨p.2, q.2, ?_, valV_pos e, r2⟩
      simp [RF.valD, List.find?_cons, r1, e]
    · have e' : ¬ p.1 = f k := fun z => e (hf _ _ (r1.symm.trans z))
      have h1 : RF.valD (p :: kvs) (f k) = RF.valD kvs (f k) := by simp [RF.valD, List.find?_cons, e']
      rw [h1, valV_neg e]
      exact ih
theorem val_cross {f : D → Bool} {kvs : List (D × D)} {k : D} (h : (kvs.all fun kv => f kv.1) = true) (hk : f k = false) : RF.valD kvs k = none := by
  unfold RF.valD
  rw [List.find?_eq_none.mpr]
  · rfl
  · intro p hp e
    have := List.all_eq_true.mp h p hp
    rw [of_decide_eq_true e, hk] at this
    cases this
theorem flat_tup_no {k : D} (h : RF.keyFlat k = true) : RF.keyTup k = false := by cases k <;> first | rfl | (simp [RF.keyFlat] at h)
theorem tup_flat_no {k : D} (h : RF.keyTup k = true) : RF.keyFlat k = false := by cases k <;> first | rfl | (simp [RF.keyTup] at h)
theorem keys_flat {kvs : List (D × D)} {ks : List (Key × V)} (h : Paired (KPair ofKey M H) kvs ks) : (kvs.all fun kv => RF.keyFlat kv.1) = true := by
  induction h with
  | nil => rfl
  | cons r _ ih => rw [List.all_cons, r.1, keyFlat_ofKey, ih]; rfl
theorem keys_tup {kvs : List (D × D)} {ts : List (List Key × V)} (h : Paired (KPair ofKeys M H) kvs ts) : (kvs.all fun kv => RF.keyTup kv.1) = true := by
  induction h with
  | nil => rfl
  | cons r _ ih => rw [List.all_cons, r.1, keyTup_ofKeys, ih]; rfl
/-- a dict as it is read -/
theorem Cn.kvs (c : Cn K W M S H) {d : D} {u : V} {kvs : List (D × D)} (h : RF.kvsOf S d = some kvs) (r : RelD M H d u) : ∃ n a, d = .ref n ∧ u = .ref a ∧ M[n]? = some a ∧
    ((∃ ks : List (Key × V), Rd H a (.dK ks) ∧ Paired (KPair ofKey M H) kvs ks) ∨ ∃ ts : List (List Key × V), Rd H a (.dT ts) ∧ Paired (KPair ofKeys M H) kvs ts) := by
  unfold RF.kvsOf at h
  split at h
  · rename_i n
    obtain ⟨a, rfl, e⟩ := rel_ref r
    refine ⟨n, a, rfl, rfl, e, ?_⟩
    split at h
    · rename_i hS
      cases h
      rcases c.at_ n _ a hS e with ⟨ks, h1, h2⟩ | ⟨ts, h1, h2⟩
      · exact .inl ⟨ks, .inl h1, h2⟩
      · exact .inr ⟨ts, .inl h1, h2⟩
    · rename_i hS
      cases h
      obtain ⟨o, ts, h1, h2⟩ := c.at_ n _ a hS e
      exact .inr ⟨ts, .inr ⟨o, h1⟩, h2⟩
    · cases h
  · cases h
end
end L2
end

section
set_option Elab.async false
set_option linter.all false
set_option maxRecDepth 100000
set_option maxHeartbeats 1000000
/-! # Dicts and items -/
namespace L2
open PySem PySem.Spec PyProof.Rows
open RF (D O Store Tab)
/-- an empty dict has keys of either kind -/
def Ret (H : Hp) (a : Addr) (H' : Hp) : Prop := (H a = some (.dK []) ∧ H' = upd H a (.dT [])) ∨ (H a = some (.dT []) ∧ H' = upd H a (.dK []))
section
variable {X : Cx} {pins : List (Addr × Obj)} {σ : St} {H H' : Hp} {s : Shared} {a : Addr}
theorem Inv.ret (I : Inv X pins σ H s) (h : Ret H a H') : Inv X pins σ H' s := by
  rcases h with ⟨e, rfl⟩ | ⟨e, rfl⟩
  · obtain ⟨z, y, vs, r, o, es, ep, g, ex, d, kf, ps, nd⟩ := I.hok a _ e
    have hv : vs = [] := by cases r; rfl
    subst hv
    have he : es.toList = [] := by
      revert ps
      generalize es.toList = l
      intro ps
      cases ps
      rfl
    exact I.write (h' := s.heap) (t' := s.toks) (e := a) (by rw [e]; trivial) (.inl rfl) (fun b u _ q => q) ⟨o, g⟩ ⟨Nat.zero_le _, y, [], .nil, o, es, ep, g, ex, d, he, List.nodup_nil⟩
  · obtain ⟨z, y, xs, r, o, es, ep, g, ex, d, he, nd⟩ := I.hok a _ e
    have hv : xs = [] := by cases r; rfl
    subst hv
    have he : es = #[] := by
      have : es.toList = [] := he
      exact Array.toList_eq_nil_iff.mp this
    subst he
    have y' : (a == sysModules) = false := y
    refine I.write (h' := s.heap) (t' := s.toks) (e := a) (by rw [e]; trivial) (.inl rfl) (fun b u _ q => q) ⟨o, g⟩ ⟨Nat.zero_le _, y', [], .nil, o, #[], ep, g, ex, d, ?_, .nil, List.nodup_nil⟩
    first | exact fun _ hx => by simp at hx | (intro i; simp) | (constructor <;> simp) | simp [KeysOf]
end
section
variable {X : Cx} {W : Adr} {E : XK} {K : PySem.W.Frag} {M : List Addr} {S : Store} {H H' : Hp}
theorem Cn.ret (c : Cn K W M S H) {n : Nat} {a : Addr} (hS : S[n]? = some (.dic [])) (hM : M[n]? = some a) (h : Ret H a H') : Cn K W M S H' ∧ Up M H M H' := by
  have hs : S.set n (.dic []) = S := by
    refine List.ext_getElem? fun i => ?_
    by_cases e : n = i
    · subst e; rw [List.getElem?_set_self (List.getElem?_eq_some_iff.mp hS).1, hS]
    · rw [List.getElem?_set_ne e]
  rcases h with ⟨e, rfl⟩ | ⟨e, rfl⟩
  · have nt : NoFix (H a) := nofix e rfl
    have := c.put (o' := .dic []) (ho' := .dT []) hS hM rfl rfl nt (.inr ⟨[], upd_same, .nil⟩)
    rw [hs] at this
    exact ⟨this, up_put nt⟩
  · have nt : NoFix (H a) := nofix e rfl
    have := c.put (o' := .dic []) (ho' := .dK []) hS hM rfl rfl nt (.inl ⟨[], upd_same, .nil⟩)
    rw [hs] at this
    exact ⟨this, up_put nt⟩
theorem all_nil {f g : D → Bool} {kvs : List (D × D)} (h1 : (kvs.all fun kv => f kv.1) = true) (h2 : (kvs.all fun kv => g kv.1) = true) (hd : ∀ k, f k = true → g k = false) : kvs = [] := by
  cases kvs with
  | nil => rfl
  | cons p r =>
    simp only [List.all_cons, Bool.and_eq_true] at h1 h2
    rw [hd _ h1.1] at h2
    cases h2.1
/-- a key that fits: the dict as it is, or turned to its kind -/
theorem fits_dic (c : Cn K W M S H) {n : Nat} {a : Addr} {kvs : List (D × D)} {k : D} {u : V} (hS : S[n]? = some (.dic kvs)) (hM : M[n]? = some a) (hf : RF.keyFits kvs k = true) (r : RelD M H k u) :
    ∃ H', (H' = H ∨ Ret H a H') ∧ Cn K W M S H' ∧ Up M H M H' ∧
      ((∃ (ks : List (Key × V)) (q : Key), H' a = some (.dK ks) ∧ Paired (KPair ofKey M H') kvs ks ∧ k = ofKey q ∧ u = kV q) ∨
       ∃ (ts : List (List Key × V)) (q : List Key) (b : Addr), H' a = some (.dT ts) ∧ Paired (KPair ofKeys M H') kvs ts ∧ k = ofKeys q ∧ u = .ref b ∧ H' b = some (.tup (q.map kV))) := by
  have tupk : ∀ {H' : Hp} (q : List Key), RelD M H' (ofKeys q) u → ∃ b, u = .ref b ∧ H' b = some (.tup (q.map kV)) := fun q r => by
    obtain ⟨b, vs, e, hb, hs⟩ := rel_tup r
    rw [rels_kV hs] at hb
    exact ⟨b, e, hb⟩
  unfold RF.keyFits at hf
  simp only [Bool.or_eq_true, Bool.and_eq_true] at hf
  rcases c.at_ n _ a hS hM with ⟨ks, h1, h2⟩ | ⟨ts, h1, h2⟩
  · rcases hf with ⟨f1, f2⟩ | ⟨f1, f2⟩
    · obtain ⟨q, rfl⟩ := keyFlat_of f1
      exact ⟨H, .inl rfl, c, Up.refl _ _, .inl ⟨ks, q, h1, h2, rfl, rel_kV r⟩⟩
    · have := all_nil (keys_flat h2) f2 (fun k => flat_tup_no)
      subst this
      cases h2
      obtain ⟨q, rfl⟩ := keyTup_of f1
      have re : Ret H a (upd H a (.dT [])) := .inl ⟨h1, rfl⟩
      obtain ⟨c', u'⟩ := c.ret hS hM re
      obtain ⟨b, e, hb⟩ := tupk q (r.up u')
      exact ⟨_, .inr re, c', u', .inr ⟨[], q, b, upd_same, .nil, rfl, e, hb⟩⟩
  · rcases hf with ⟨f1, f2⟩ | ⟨f1, f2⟩
    · have := all_nil (keys_tup h2) f2 (fun k => tup_flat_no)
      subst this
      cases h2
      obtain ⟨q, rfl⟩ := keyFlat_of f1
      have re : Ret H a (upd H a (.dK [])) := .inr ⟨h1, rfl⟩
      obtain ⟨c', u'⟩ := c.ret hS hM re
      exact ⟨_, .inr re, c', u', .inl ⟨[], q, upd_same, .nil, rfl, rel_kV r⟩⟩
    · obtain ⟨q, rfl⟩ := keyTup_of f1
      obtain ⟨b, e, hb⟩ := tupk q r
      exact ⟨H, .inl rfl, c, Up.refl _ _, .inr ⟨ts, q, b, h1, h2, rfl, e, hb⟩⟩
/-- asked at a key -/
theorem look_dic (c : Cn K W M S H) {x k : D} {u v : V} {o : Option D} (rx : RelD M H x u) (rk : RelD M H k v) (h : RF.lookD S x k = some o) :
    ∃ a H' p, u = .ref a ∧ (H' = H ∨ Ret H a H') ∧ Cn K W M S H' ∧ Up M H M H' ∧ DGet H' a v p ∧ ((o = none ∧ p = none) ∨ ∃ d w, o = some d ∧ p = some w ∧ RelD M H' d w) := by
  unfold RF.lookD at h
  split at h
  · rename_i n
    obtain ⟨a, rfl, e⟩ := rel_ref rx
    split at h
    · rename_i kvs hS
      split at h
      · rename_i hf
        cases h
        obtain ⟨H', hr, c', u', g⟩ := fits_dic c hS e hf rk
        rcases g with ⟨ks, q, g1, g2, rfl, rfl⟩ | ⟨ts, q, b, g1, g2, rfl, rfl, g3⟩
        · refine ⟨a, H', _, rfl, hr, c', u', DGet.k g1, ?_⟩
          rcases val_pair (fun _ _ => ofKey_inj) g2 q with ⟨z1, z2⟩ | ⟨d, w, z1, z2, z3⟩
          · exact .inl ⟨z1, z2⟩
          · exact .inr ⟨d, w, z1, z2, z3⟩
        · refine ⟨a, H', _, rfl, hr, c', u', DGet.t g1 g3, ?_⟩
          rcases val_pair (fun _ _ => ofKeys_inj) g2 q with ⟨z1, z2⟩ | ⟨d, w, z1, z2, z3⟩
          · exact .inl ⟨z1, z2⟩
          · exact .inr ⟨d, w, z1, z2, z3⟩
      · cases h
    · rename_i kvs hS
      split at h
      · rename_i hf
        cases h
        obtain ⟨ob, ts, g1, g2⟩ := c.at_ n _ a hS e
        obtain ⟨q, rfl⟩ := keyTup_of hf
        obtain ⟨b, vs, rfl, hb, hs⟩ := rel_tup rk
        rw [rels_kV hs] at hb
        refine ⟨a, H, valV ts q, rfl, .inl rfl, c, Up.refl _ _, .inr ⟨ts, q, b, .inr ⟨ob, g1⟩, rfl, hb, rfl⟩, ?_⟩
        rcases val_pair (fun _ _ => ofKeys_inj) g2 q with ⟨z1, z2⟩ | ⟨d, w, z1, z2, z3⟩
        · exact .inl ⟨z1, z2⟩
        · exact .inr ⟨d, w, z1, z2, z3⟩
      · cases h
    · cases h
  · cases h
/-! in, not in -/
def rInD (neg : Bool) : R2 := fun x y H Q => ∃ a H' o, y = .ref a ∧ (H' = H ∨ Ret H a H') ∧ DGet H' a x o ∧ Q (.bl (if neg then !o.isSome else o.isSome)) H'
theorem op_inD (hu : X.A.units + 1 < cLine) : OpR X (compareOp .In) (rInD false) := by
  intro pins s σ H x y v u Q I rx ry h
  obtain ⟨a, H', o, rfl, hr, g, q⟩ := h
  cases ry
  have I' : Inv X pins σ H' s := by
    rcases hr with rfl | hr
    · exact I
    · exact I.ret hr
  exact d_in hu I' g rx fun s' I'' => ⟨.bl o.isSome, H', I'', rfl, q⟩
theorem op_notInD (hu : X.A.units + 1 < cLine) : OpR X (compareOp .NotIn) (rInD true) := by
  intro pins s σ H x y v u Q I rx ry h
  obtain ⟨a, H', o, rfl, hr, g, q⟩ := h
  cases ry
  have I' : Inv X pins σ H' s := by
    rcases hr with rfl | hr
    · exact I
    · exact I.ret hr
  exact d_notIn hu I' g rx fun s' I'' => ⟨.bl (!o.isSome), H', I'', rfl, q⟩
def rStrIn (neg : Bool) : R2 := fun x y H Q => ∃ i j, x = .str i ∧ y = .str j ∧ Q (.bl (if neg then !(!(Builtin.Str.occurrences j i 0 j.length 1).isEmpty) else !(Builtin.Str.occurrences j i 0 j.length 1).isEmpty)) H
def rInA (K : PySem.W.Frag) (neg : Bool) : R2 := fun x y H Q => rInD neg x y H Q ∨ rIn K neg x y H Q ∨ rStrIn neg x y H Q
theorem op_inA (hu : X.A.units + 1 < cLine) : OpR X (compareOp .In) (rInA X.K false) := (op_inD hu).or (op_in_seq.or op_in_str)
theorem op_notInA (hu : X.A.units + 1 < cLine) : OpR X (compareOp .NotIn) (rInA X.K true) := (op_notInD hu).or (op_notIn_seq.or op_notIn_str)
theorem items_sq (c : Cn K W M S H) {x : D} {u : V} {xs : List D} (h : RF.itemsOf S x = some xs) (r : RelD M H x u) : ∃ a vs, u = .ref a ∧ (SqL K H a vs ∨ SqT K H a vs) ∧ RelDs M H xs vs := by
  cases x with
  | tup ys =>
    cases h
    obtain ⟨a, vs, rfl, ha, hx⟩ := rel_tup r
    exact ⟨a, vs, rfl, .inr (SqT.of ha), hx⟩
  | ref n =>
    obtain ⟨a, rfl, e⟩ := rel_ref r
    obtain ⟨vs, h1, h2⟩ := c.items h e
    exact ⟨a, vs, rfl, .inl h1, h2⟩
  | _ => cases h
theorem flats_rel {xs : List D} {vs : List V} (r : RelDs M H xs vs) (f : xs.all RF.flatD = true) : vs.all flatV = true := by
  induction xs generalizing vs with
  | nil => cases r; rfl
  | cons x xs ih =>
    cases r with
    | cons h hs =>
      simp only [List.all_cons, Bool.and_eq_true] at f ⊢
      exact ⟨flat_rel f.1 h, ih hs f.2⟩
theorem any_rel {x : D} {u : V} (rx : RelD M H x u) (fx : RF.flatD x = true) {xs : List D} {vs : List V} (r : RelDs M H xs vs) (f : xs.all RF.flatD = true) : inV u vs = xs.any fun z => RF.eqFlat z x := by
  induction xs generalizing vs with
  | nil => cases r; rfl
  | cons y ys ih =>
    cases r with
    | cons h hs =>
      simp only [List.all_cons, Bool.and_eq_true] at f
      have := ih hs f.2
      unfold inV at this ⊢
      rw [List.any_cons, List.any_cons, this, flat_eq f.1 fx h rx]
theorem in_rd (c : Cn K W M S H) {x y : D} {u v : V} {b : Bool} {neg : Bool} {Q : VK} (rx : RelD M H x u) (ry : RelD M H y v) (h : RF.inD S x y = some b) (q : ∀ H', Cn K W M S H' → Up M H M H' → Q (.bl (if neg then !b else b)) H') : rInA K neg u v H Q := by
  unfold RF.inD at h
  split at h
  · obtain ⟨o, h1, h2⟩ := Option.map_eq_some_iff.mp h
    obtain ⟨a, H', p, e, hr, c', u', g, z⟩ := look_dic c ry rx h1
    refine .inl ⟨a, H', p, e, hr, g, ?_⟩
    have : p.isSome = b := by
      rw [← h2]
      rcases z with ⟨rfl, rfl⟩ | ⟨d, w, rfl, rfl, _⟩ <;> rfl
    rw [this]
    exact q H' c' u'
  · split at h
    · rename_i ys hi
      split at h
      · rename_i hf
        simp only [Bool.and_eq_true] at hf
        cases h
        obtain ⟨a, vs, rfl, hs, hv⟩ := items_sq c hi ry
        refine .inr (.inl ⟨a, vs, rfl, hs, flat_rel hf.1 rx, flats_rel hv hf.2, ?_⟩)
        rw [any_rel rx hf.1 hv hf.2]
        exact q H c (Up.refl _ _)
      · cases h
    · split at h
      · cases h
        cases rx; cases ry
        exact .inr (.inr ⟨_, _, rfl, rfl, q H c (Up.refl _ _)⟩)
      · cases h
theorem os_in : OpS X W E (RF.cmpD .In) (rInA X.K false) := by
  intro M S H x y u v Q c rx ry g
  have g : GlG X.K W RelD E M H (RF.optB (RF.inD S x y) S) Q := g
  cases h : RF.inD S x y with
  | none => rw [h] at g; exact g.elim
  | some b => rw [h] at g; exact in_rd c rx ry h fun H' c' u' => GlG.at_ g c' u' (.bl b)
theorem os_notIn : OpS X W E (RF.cmpD .NotIn) (rInA X.K true) := by
  intro M S H x y u v Q c rx ry g
  have g : GlG X.K W RelD E M H (RF.optB ((RF.inD S x y).map (! ·)) S) Q := g
  cases h : RF.inD S x y with
  | none => rw [h] at g; exact g.elim
  | some b => rw [h] at g; exact in_rd c rx ry h fun H' c' u' => GlG.at_ g c' u' (.bl !b)
/-- each comparison by one rule -/
theorem cmp_ok (hu : X.A.units + RF.depth < cLine) (op : CmpOp) : ∃ r, OpR X (compareOp op) r ∧ OpS X W E (RF.cmpD op) r := by
  have hu1 : X.A.units + 1 < cLine := Nat.lt_of_le_of_lt (Nat.add_le_add_left (by decide) _) hu
  cases op with
  | Eq => exact ⟨_, op_eqC hu, os_eq⟩
  | NotEq => exact ⟨_, op_neC hu, os_ne⟩
  | Lt => exact ⟨_, op_lt, os_rel fun x y S => by cases x <;> cases y <;> first | exact .inl rfl | exact .inr ⟨_, _, rfl, rfl, rfl⟩⟩
  | LtE => exact ⟨_, op_le, os_rel fun x y S => by cases x <;> cases y <;> first | exact .inl rfl | exact .inr ⟨_, _, rfl, rfl, rfl⟩⟩
  | Gt => exact ⟨_, op_gt, os_rel fun x y S => by cases x <;> cases y <;> first | exact .inl rfl | exact .inr ⟨_, _, rfl, rfl, rfl⟩⟩
  | GtE => exact ⟨_, op_ge, os_rel fun x y S => by cases x <;> cases y <;> first | exact .inl rfl | exact .inr ⟨_, _, rfl, rfl, rfl⟩⟩
  | Is => exact ⟨_, op_isN, os_is⟩
  | IsNot => exact ⟨_, op_notN, os_isnot⟩
  | In => exact ⟨_, op_inA hu1, os_in⟩
  | NotIn => exact ⟨_, op_notInA hu1, os_notIn⟩
end
end L2
end

section
set_option Elab.async false
set_option linter.all false
set_option maxRecDepth 100000
set_option maxHeartbeats 1000000
/-! # Expressions -/
namespace L2
open PySem PySem.Spec PyProof.Rows
open RF (D O Store Tab)
/-! ### what is seen of the text -/
theorem star_plain {e : Expr} {es : List Expr} {env : Env} (h : RF.plainE e = true) : starEach (e :: es) env = (false, eval e env) :: starEach es env := by
  cases e <;> first | rfl | (simp [RF.plainE] at h)
theorem star_none {env : Env} {pos : Pos} : ∀ {es : List Expr}, es.all RF.plainE = true → (backTo pos (starEach es env)).any (·.1) = false
  | [], _ => rfl
  | e :: es, h => by
    simp only [List.all_cons, Bool.and_eq_true] at h
    rw [star_plain h.1]
    show (false || (backTo pos (starEach es env)).any (·.1)) = false
    rw [star_none h.2]
    rfl
theorem star_all {env : Env} {pos : Pos} : ∀ {es : List Expr}, es.all RF.plainE = true → (backTo pos (starEach es env)).all (fun x => !x.1) = true
  | [], _ => rfl
  | e :: es, h => by
    simp only [List.all_cons, Bool.and_eq_true] at h
    rw [star_plain h.1]
    show (true && (backTo pos (starEach es env)).all (fun x => !x.1)) = true
    rw [star_all h.2]
    rfl
theorem base_no {o : Expr} {m : Str} {env : Env} {w : Sem Value} (h : RF.noBase o = true) : attributeBase o m env w = w := by
  unfold attributeBase
  split
  · simp [RF.noBase] at h
  · rfl
theorem few_ok {env : Env} {pos : Pos} {es : List Expr} (h : es.all RF.plainE = true) (hn : es.length < 30) :
    ((backTo pos (starEach es env)).all (fun x => !x.1) && (backToKw pos (keywordEach [] env)).all (fun x => x.1.isSome) && decide (es.length + ([] : List Keyword).length + (if ([] : List Keyword).isEmpty then 0 else 1) < 30)) = true := by
  rw [star_all h]
  simp [backToKw, keywordEach, hn]
theorem meth_eval {o : Expr} {m : Str} {apos pos : Pos} {args : List Expr} {env : Env} (hb : RF.noBase o = true) (hp : args.all RF.plainE = true) (hn : args.length < 30) (hl : (apos.endLine == pos.line) = true) :
    eval (.Call (.Attribute o m apos) args [] pos) env = (do
      let ov ← eval o env
      standAt apos.atName
      let (f, first) ← holding [ov] (getMethod ov m (do return (← importBound o env).getD true))
      callWith pos f first (backTo pos (starEach args env)) (backToKw pos (keywordEach [] env))) := by
  have hf : methodCallForm (args.length + ([] : List Keyword).length) (backTo pos (starEach args env)) (backToKw pos (keywordEach [] env)) = true := few_ok hp hn
  rw [arm_eval_Call, base_no hb]
  unfold methodCall
  rw [hf]
  simp only [calleeOf, methodCallPos, hl, if_true, Bool.not_true, Bool.false_or, pure_bind]
theorem ixOf_get {l : List Str} {x : Str} {i : Nat} (h : RF.ixOf l x = some i) : l[i]? = some x := by
  unfold RF.ixOf at h
  obtain ⟨hi, h1, _⟩ := List.findIdx?_eq_some_iff_getElem.mp h
  rw [List.getElem?_eq_getElem hi]
  exact congrArg some (of_decide_eq_true h1)
/-- the kinds of the names: a block may have a free one as a cell -/
def Kin (sc sc' : Scope) : Prop := ∀ x : Str, sc'.names.lookup x = sc.names.lookup x ∨ (sc.names.lookup x = some .free ∧ sc'.names.lookup x = some .cell)
theorem Kin.refl (sc : Scope) : Kin sc sc := fun _ => .inl rfl
theorem Kin.vis {sc sc' : Scope} (k : Kin sc sc') {x : Str} (h : Vis sc x) : Vis sc' x := by
  rcases k x with e | ⟨_, e⟩
  · unfold Vis; rw [e]; exact h
  · exact .inr (.inl e)
theorem Kin.glob {sc sc' : Scope} (k : Kin sc sc') {x : Str} (h : sc.names.lookup x = some .globalImplicit) : sc'.names.lookup x = some .globalImplicit := by
  rcases k x with e | ⟨e, _⟩
  · rw [e]; exact h
  · rw [h] at e; cases e

/-! ### calls: what is known of the defs -/
def spC (K : PySem.W.Frag) (W : Adr) (f : List D → Store → RF.R D) (n : Nat) : Sp := fun vs H Q E => vs.length = n ∧ ∃ M S ds, Cn K W M S H ∧ RelDs M H ds vs ∧ GlG K W RelD E M H (f ds S) Q
def bNames : List Str := ["isinstance", "int", "bool", "str", "tuple", "list", "len", "all", "max", "min", "range"]
structure TopK (P : Program) (w : World) (K : PySem.W.Frag) (mg : Str → Option Value) (base : Heap) (W : Adr) (cl : RF.Calls) (k : Nat) : Prop where
  cons : ∀ x d, W.T.cons.lookup x = some d → ∃ u v, mg x = some u ∧ RelV v u ∧ ∀ M H, RelD M H d v
  fn : ∀ x i, RF.ixOf W.T.funs x = some i → ∃ f fd ps, FnOk P w K mg base (CXF P w) k f fd ps (spC K W (cl.f i) ps.length) ∧ (∀ ds S, ds.length ≠ ps.length → cl.f i ds S = .bad) ∧ mg x = some (.ref f) ∧ PySem.W.keepIn K (.ref f) = true ∧ Binds K fd ps []
  clsG : ∀ x c, RF.ixOf W.T.clss x = some c → mg x = some (.ref (W.c c))
  clsK : ∀ c, c < W.T.clss.length → Cls K (W.c c)
  plain : ∀ c f x, c < W.T.clss.length → W.T.plain c f = true → W.T.nams[f]? = some x → NoAttr K (W.c c) x
  mt : ∀ c m x, W.T.isM c m = true → W.T.nams[m]? = some x → ∃ f fd ps, FnOk P w K mg base (CXF P w) k f fd ps (spC K W (cl.m c m) ps.length) ∧ (∀ ds S, ds.length ≠ ps.length → cl.m c m ds S = .bad) ∧ Meth K (W.c c) x f ∧ Binds K fd ps [] ∧ (x = "__init__" → Mk K (W.c c) f) ∧ Cls K (W.c c)
  exc : ∀ x c, RF.ixOf W.T.excs x = some c → ExcC K (W.x c) ∧ mg x = some (.ref (W.x c))
  blt : ∀ x ∈ bNames, mg x = none
structure CxK (X : Cx) (W : Adr) (Γ : RF.Gm) (E : XK) (cl : RF.Calls) (k : Nat) : Prop where
  N : X.N = Γ.N
  nd : X.N.Nodup
  kin : Kin Γ.sc X.env.scope
  calm : X.calm = true
  room : Room (k + 1) X.A
  pass : Passes (CXF X.prog X.w) X E
  top : TopK X.prog X.w X.K X.mg X.base W cl k
section
variable {X : Cx} {W : Adr} {Γ : RF.Gm} {E : XK} {cl : RF.Calls} {k : Nat} {a b c e : Expr} {ca cb cc : RF.C D} {pos : Pos}
theorem CxK.units (C : CxK X W Γ E cl k) : X.A.units + RF.depth < cLine := Nat.lt_of_le_of_lt (Nat.add_le_add_left (by decide : RF.depth ≤ 64) _) C.room.units
theorem CxK.units1 (C : CxK X W Γ E cl k) : X.A.units + 1 < cLine := hu_of C.room
theorem CxK.units2 (C : CxK X W Γ E cl k) : X.A.units + 2 < cLine := Nat.lt_of_le_of_lt (Nat.add_le_add_left (by decide : 2 ≤ 64) _) C.room.units
theorem CxK.gl (C : CxK X W Γ E cl k) {x : Str} (h : RF.isGl Γ x = true) : Gl X x ∧ (x == ("__debug__" : Str)) = false := by
  unfold RF.isGl RF.oddName at h
  simp only [Bool.and_eq_true, Bool.not_eq_true', Bool.or_eq_false_iff] at h
  exact ⟨C.kin.glob (eq_of_beq h.2), h.1.1⟩
/-! names, constants -/
theorem sn_con {d : D} {v : V} {t : TE} (h : PE X e (tC v)) (r : ∀ M H, RelD M H d v) : PE X e (tE X.K W E (RF.cE d)) :=
  h.imp fun σ H Q ⟨M, ρ, S, s, g⟩ => GlG.now g s.con (r M H)
theorem sn_var {i : Nat} {x : Str} (hN : X.N[i]? = some x) (hv : Vis X.env.scope x) (hd : (x == ("__debug__" : Str)) = false) (hc : (x == ("__classdict__" : Str)) = false) : PE X (.Name x pos) (tE X.K W E (RF.varE i)) := by
  refine (pe_var hN hv hd hc).imp fun σ H Q ⟨M, ρ, S, s, g⟩ => ?_
  unfold RF.varE at g
  split at g
  · rename_i d hd
    obtain ⟨v, h1, h2⟩ := s.env i d hd
    exact ⟨v, h1, GlG.now g s.con h2⟩
  · exact g.elim
theorem sn_name (C : CxK X W Γ E cl k) (x : Str) : PE X (.Name x pos) (tE X.K W E (RF.nameE W.T Γ x)) := by
  unfold RF.nameE
  split
  · exact pe_bad
  · rename_i ho
    unfold RF.oddName at ho
    simp only [Bool.or_eq_true, not_or, Bool.not_eq_true] at ho
    have loc : Vis Γ.sc x → PE X (.Name x pos) (tE X.K W E (match RF.ixOf Γ.N x with | some i => RF.varE i | none => RF.badC)) := fun hv => by
      split
      · rename_i i hi
        exact sn_var (by rw [C.N]; exact ixOf_get hi) (C.kin.vis hv) ho.1 ho.2
      · exact pe_bad
    split
    · rename_i h; exact loc (.inl h)
    · rename_i h; exact loc (.inr (.inl h))
    · rename_i h; exact loc (.inr (.inr h))
    · rename_i h
      split
      · rename_i d hd
        obtain ⟨u, v, h1, h2, h3⟩ := C.top.cons x d hd
        exact sn_con (t := tC v) (pe_glob (C.kin.glob h) h1 h2 ho.1) h3
      · exact pe_bad
    · exact pe_bad
/-! truths -/
theorem sn_not (ha : PE X a (tE X.K W E ca)) : PE X (.UnaryOp .Not a pos) (tE X.K W E (RF.notE ca)) := by
  refine (pe_not ha).imp fun σ H Q ⟨M, ρ, S, s, g⟩ => ?_
  refine seqG s g fun M1 H1 x u S1 s1 u1 r1 g1 => ?_
  obtain ⟨t, rfl, g1⟩ := bool_gl g1
  cases r1
  exact ⟨t, rfl, GlG.now g1 s1.con (.bl _)⟩
theorem sn_neg (ha : PE X a (tE X.K W E ca)) : PE X (.UnaryOp .USub a pos) (tE X.K W E (RF.negE ca)) := by
  refine (pe_un un_neg ha).imp fun σ H Q ⟨M, ρ, S, s, g⟩ => ?_
  refine seqG s g fun M1 H1 x u S1 s1 u1 r1 g1 => ?_
  cases x with
  | int i => cases r1; exact ⟨i, rfl, GlG.now g1 s1.con (.int _)⟩
  | _ => exact g1.elim
theorem sn_and {r : List Expr} (ha : PE X a (tE X.K W E ca)) (hb : PE X (.BoolOp .And (b :: r) pos) (tE X.K W E cb)) : PE X (.BoolOp .And (a :: b :: r) pos) (tE X.K W E (RF.andE ca cb)) := by
  refine (pe_and ha hb).imp fun σ H Q ⟨M, ρ, S, s, g⟩ => ?_
  refine seqG s g fun M1 H1 x u S1 s1 u1 r1 g1 => ?_
  obtain ⟨t, rfl, g1⟩ := bool_gl g1
  cases r1
  refine ⟨t, rfl, ?_⟩
  cases t with
  | true => exact iteT ⟨M1, ρ, S1, s1, g1⟩
  | false => exact iteF (GlG.now g1 s1.con (.bl _))
theorem sn_or {r : List Expr} (ha : PE X a (tE X.K W E ca)) (hb : PE X (.BoolOp .Or (b :: r) pos) (tE X.K W E cb)) : PE X (.BoolOp .Or (a :: b :: r) pos) (tE X.K W E (RF.orE ca cb)) := by
  refine (pe_or ha hb).imp fun σ H Q ⟨M, ρ, S, s, g⟩ => ?_
  refine seqG s g fun M1 H1 x u S1 s1 u1 r1 g1 => ?_
  obtain ⟨t, rfl, g1⟩ := bool_gl g1
  cases r1
  refine ⟨t, rfl, ?_⟩
  cases t with
  | true => exact iteT (GlG.now g1 s1.con (.bl _))
  | false => exact iteF ⟨M1, ρ, S1, s1, g1⟩
theorem sn_if {ct : RF.C Bool} (hc : PT X c (tT X.K W E ct)) (ha : PE X a (tE X.K W E ca)) (hb : PE X b (tE X.K W E cb)) : PE X (.IfExp c a b pos) (tE X.K W E (RF.ifE ct ca cb)) := by
  refine (pe_ifExp hc ha hb).imp fun σ H Q ⟨M, ρ, S, s, g⟩ => ?_
  refine seqG s g fun M1 H1 x u S1 s1 u1 r1 g1 => ?_
  subst r1
  cases x with
  | true => exact iteT ⟨M1, ρ, S1, s1, g1⟩
  | false => exact iteF ⟨M1, ρ, S1, s1, g1⟩
/-! tests -/
theorem sn_notT {ct : RF.C Bool} (ha : PT X a (tT X.K W E ct)) : PT X (.UnaryOp .Not a pos) (tT X.K W E (RF.notT ct)) := by
  refine (pt_not ha).imp fun σ H Q ⟨M, ρ, S, s, g⟩ => ?_
  refine seqG s g fun M1 H1 x u S1 s1 u1 r1 g1 => ?_
  subst r1
  exact GlG.now g1 s1.con rfl
theorem sn_andT {r : List Expr} {ct cu : RF.C Bool} (ha : PT X a (tT X.K W E ct)) (hb : PW X (.BoolOp .And (b :: r) pos) (tT X.K W E cu)) : PW X (.BoolOp .And (a :: b :: r) pos) (tT X.K W E (RF.andT ct cu)) := by
  refine (pw_and ha hb).imp fun σ H Q ⟨M, ρ, S, s, g⟩ => ?_
  refine seqG s g fun M1 H1 x u S1 s1 u1 r1 g1 => ?_
  subst r1
  cases x with
  | true => exact iteT ⟨M1, ρ, S1, s1, g1⟩
  | false => exact iteF (GlG.now g1 s1.con rfl)
theorem sn_orT {r : List Expr} {ct cu : RF.C Bool} (ha : PT X a (tT X.K W E ct)) (hb : PW X (.BoolOp .Or (b :: r) pos) (tT X.K W E cu)) : PW X (.BoolOp .Or (a :: b :: r) pos) (tT X.K W E (RF.orT ct cu)) := by
  refine (pw_or ha hb).imp fun σ H Q ⟨M, ρ, S, s, g⟩ => ?_
  refine seqG s g fun M1 H1 x u S1 s1 u1 r1 g1 => ?_
  subst r1
  cases x with
  | true => exact iteT (GlG.now g1 s1.con rfl)
  | false => exact iteF ⟨M1, ρ, S1, s1, g1⟩
theorem tru_rel {K : PySem.W.Frag} {M : List Addr} {S : Store} {H : Hp} (cn : Cn K W M S H) {x : D} {u : V} {t : Bool} (r : RelD M H x u) (h : RF.truthD S x = some t) : TruV K u H t := by
  cases r with
  | non => cases h; rfl
  | bl b => cases h; rfl
  | int i => cases h; rfl
  | str z => cases h
  | tup ha hx =>
    cases h
    exact .inr (.inl ⟨_, SqT.of ha, by rw [hx.nil_iff]⟩)
  | ref hm =>
    rename_i n p
    simp only [RF.truthD] at h
    split at h
    · rename_i xs hS
      cases h
      obtain ⟨vs, h1, h2⟩ := cn.lst hS hm
      exact .inl ⟨vs, SqL.of h1, by rw [h2.nil_iff]⟩
    · rename_i xs hS
      cases h
      obtain ⟨vs, h1, h2⟩ := cn.at_ n _ p hS hm
      exact .inl ⟨vs, h1.sq, by rw [h2.nil_iff]⟩
    · cases h
theorem sn_test (ha : PE X a (tE X.K W E ca)) (he : ∀ whole, isTrue a X.env whole = (do let v ← whole; standAt a.pos; holding [v] (truthy v))) : PT X a (tT X.K W E (RF.testE ca)) := by
  refine (pt_truth ha he).imp fun σ H Q ⟨M, ρ, S, s, g⟩ => ?_
  refine seqG s g fun M1 H1 x u S1 s1 u1 r1 g1 => ?_
  unfold RF.truthOf at g1
  split at g1
  · rename_i t ht
    exact ⟨t, tru_rel s1.con r1 ht, GlG.now g1 s1.con rfl⟩
  · exact g1.elim
/-! arguments, displays -/
theorem sn_args {f : Expr → RF.C D} : ∀ {es : List Expr}, (∀ e ∈ es, PE X e (tE X.K W E (f e))) → es.all RF.plainE = true → PA X es (tA X.K W E (RF.seqE (es.map f)))
  | [], _, _ => pa_nil.imp fun σ H Q ⟨M, ρ, S, s, g⟩ => GlG.now g s.con .nil
  | e :: es, h, hp => by
    simp only [List.all_cons, Bool.and_eq_true] at hp
    refine (pa_cons (h e List.mem_cons_self) (sn_args (fun e' he' => h e' (List.mem_cons_of_mem _ he')) hp.2) (star_plain hp.1)).imp fun σ H Q ⟨M, ρ, S, s, g⟩ => ?_
    refine seqG s g fun M1 H1 x u S1 s1 u1 r1 g1 => seqG s1 g1 fun M2 H2 xs us S2 s2 u2 r2 g2 => ?_
    exact GlG.now g2 s2.con (.cons (r1.up u2) r2)
theorem seqE_len {cs : List (RF.C D)} {ρ : RF.Env} {S S' : Store} {xs : List D} (h : RF.seqE cs ρ S = .ok xs S') : xs.length = cs.length := by
  induction cs generalizing S S' xs with
  | nil => cases h; rfl
  | cons c cs ih =>
    unfold RF.seqE at h
    cases e : c ρ S with
    | ok x S1 =>
      rw [e, RF.R.bind_ok] at h
      cases e2 : RF.seqE cs ρ S1 with
      | ok ys S2 =>
        rw [e2, RF.R.bind_ok] at h
        cases h
        simp [ih e2]
      | ex _ _ _ => rw [e2] at h; cases h
      | bad => rw [e2] at h; cases h
    | ex _ _ _ => rw [e] at h; cases h
    | bad => rw [e] at h; cases h
theorem sn_tup {f : Expr → RF.C D} {es : List Expr} {kk : Nat} (h : ∀ e ∈ es, PE X e (tE X.K W E (f e))) (hp : es.all RF.plainE = true) : PE X (.Tuple es kk pos) (tE X.K W E (RF.tupE (es.map f))) := by
  refine (pe_tup (sn_args h hp)).imp fun σ H Q ⟨M, ρ, S, s, g⟩ => ?_
  obtain ⟨hz, g⟩ := GlG.guard g
  have hz : (es.map f).length ≤ sizeLine := of_decide_eq_true hz
  refine ⟨M, ρ, S, s, ?_⟩
  cases e : RF.seqE (es.map f) ρ S with
  | ok xs S1 =>
    rw [e, RF.R.bind_ok] at g
    intro M1 H1 us c1 u1 r1
    refine ⟨by rw [← r1.length, seqE_len e]; exact hz, fun p hp => ?_⟩
    exact GlG.at_ (g.up u1) (c1.fresh hp) (up_fresh hp) (.tup upd_same (r1.up (up_fresh hp)))
  | ex x p S1 => rw [e] at g; exact g
  | bad => rw [e] at g; exact g
theorem sn_lst {f : Expr → RF.C D} {es : List Expr} (h : ∀ e ∈ es, PE X e (tE X.K W E (f e))) (hp : es.all RF.plainE = true) : PE X (.List es pos) (tE X.K W E (RF.lstE (es.map f))) := by
  refine (pe_lst (sn_args h hp)).imp fun σ H Q ⟨M, ρ, S, s, g⟩ => ?_
  obtain ⟨hz, g⟩ := GlG.guard g
  have hz : (es.map f).length ≤ sizeLine := of_decide_eq_true hz
  refine ⟨M, ρ, S, s, ?_⟩
  cases e : RF.seqE (es.map f) ρ S with
  | ok xs S1 =>
    rw [e, RF.R.bind_ok] at g
    intro M1 H1 us c1 u1 r1
    exact ⟨by rw [← r1.length, seqE_len e]; exact hz, gl_newL (g.up u1) c1 r1⟩
  | ex x p S1 => rw [e] at g; exact g
  | bad => rw [e] at g; exact g
theorem sn_dict : PE X (.Dict [] [] pos) (tE X.K W E RF.dictE) :=
  pe_dnewT.imp fun σ H Q ⟨M, ρ, S, s, g⟩ p hp => GlG.at_ g (s.con.new hp rfl (.inr ⟨[], upd_same, .nil⟩)) (up_new hp) (new_at s.con)
end
end L2
end

section
set_option Elab.async false
set_option linter.all false
set_option maxRecDepth 100000
set_option maxHeartbeats 1000000
/-! # Items, fields, calls -/
namespace L2
open PySem PySem.Spec PyProof.Rows
open RF (D O Store Tab)
section
variable {K : PySem.W.Frag} {W : Adr} {M M1 M2 : List Addr} {S S1 S2 : Store} {H H1 H2 : Hp} {ρ : RF.Env} {σ : St} {E : XK}
theorem tG_ok {α β : Type} {rel : List Addr → Hp → α → β → Prop} {c : RF.C α} {x : α} {Q1 : β → Hp → Prop} (s : Sm K W M S H ρ σ) (e : c ρ S = .ok x S1) (k : ∀ M1 H1 u, Sm K W M1 S1 H1 ρ σ → Up M H M1 H1 → rel M1 H1 x u → Q1 u H1) : tG K W rel E c σ H Q1 :=
  ⟨M, ρ, S, s, by rw [e]; exact fun M1 H1 u c1 u1 r1 => k M1 H1 u (s.to c1 u1) u1 r1⟩
theorem tG_ex {α β γ δ : Type} {rel : List Addr → Hp → α → β → Prop} {rel' : List Addr → Hp → γ → δ → Prop} {c : RF.C α} {x : Nat} {p : List D} {Q1 : β → Hp → Prop} {Q : δ → Hp → Prop} (s : Sm K W M S H ρ σ) (e : c ρ S = .ex x p S1) (g : GlG K W rel' E M H (.ex x p S1) Q) : tG K W rel E c σ H Q1 :=
  ⟨M, ρ, S, s, by rw [e]; exact g⟩
end
section
variable {X : Cx} {W : Adr} {Γ : RF.Gm} {E : XK} {cl : RF.Calls} {k : Nat} {a b c e : Expr} {ca cb cc : RF.C D} {pos : Pos}
/-! o[i] -/
theorem getI_at {M : List Addr} {H : Hp} {xs : List D} {vs : List V} (r : RelDs M H xs vs) {i : Int} {d : D} (h : RF.getI xs i = some d) : ∃ v, atI vs i = some v ∧ RelD M H d v := by
  unfold RF.getI at h
  unfold atI
  obtain ⟨j, h1, h2⟩ := Option.bind_eq_some_iff.mp h
  obtain ⟨v, g1, g2⟩ := r.get h2
  refine ⟨v, ?_, g2⟩
  have : ixN vs.length i = some j := by rw [← r.length]; exact h1
  rw [this]
  exact g1
theorem noSl_of {i : Expr} (h : RF.noSlice i = true) : ∀ ov iv, subscripted i false ov iv = operate [ov, iv] (getItem ov iv) := by
  intro ov iv
  cases i <;> first | rfl | (simp [RF.noSlice] at h)
def rIxD : R2 := fun x y H Q => ∃ a v, x = .ref a ∧ DGet H a y (some v) ∧ Q v H
theorem ix_dict (hu : X.A.units + 1 < cLine) : IxR X rIxD := by
  intro value slice pins s σ H x y v u Q I rx ry h hs
  obtain ⟨a, w', rfl, g, q⟩ := h
  cases rx
  exact tail_any (dict_typeIs I g) PySem.F.slot_dict_getitem.lookup (d_getItem hu I g ry fun z s3 I3 rz => ⟨w', H, I3, rz, q⟩) hs
def rIxA (K : PySem.W.Frag) : R2 := fun x y H Q => rIxD x y H Q ∨ rIxL K x y H Q ∨ rIxT K x y H Q
theorem os_ix : OpS X W E RF.getItemD (rIxA X.K) := by
  intro M S H x y u v Q cn rx ry g
  unfold RF.getItemD at g
  split at g
  · split at g
    · rename_i hd d hl
      obtain ⟨p, H', o, e, hr, c', u', dg, z⟩ := look_dic cn rx ry hl
      rcases z with ⟨z, _⟩ | ⟨d', w, z1, rfl, z3⟩
      · cases z
      · cases z1
        rcases hr with rfl | hr
        · exact .inl ⟨p, w, e, dg, GlG.now g cn z3⟩
        · exfalso
          rcases hr with ⟨q, rfl⟩ | ⟨q, rfl⟩
          · rcases dg with ⟨kvs, kk, q1, _, q3⟩ | ⟨kvs, kk, bb, q1, _, _, q3⟩
            · rcases q1 with q1 | ⟨_, q1⟩ <;> (rw [upd_same] at q1; cases q1)
            · rcases q1 with q1 | ⟨_, q1⟩ <;> (rw [upd_same] at q1; cases q1)
              cases q3
          · rcases dg with ⟨kvs, kk, q1, _, q3⟩ | ⟨kvs, kk, bb, q1, _, _, q3⟩
            · rcases q1 with q1 | ⟨_, q1⟩ <;> (rw [upd_same] at q1; cases q1)
              cases q3
            · rcases q1 with q1 | ⟨_, q1⟩ <;> (rw [upd_same] at q1; cases q1)
    · exact g.elim
  · split at g
    · rename_i xs i hi
      split at g
      · rename_i d hd
        cases ry
        obtain ⟨p, vs, rfl, hs, hv⟩ := items_sq cn hi rx
        obtain ⟨w, e1, e2⟩ := getI_at hv hd
        rcases hs with hs | hs
        · exact .inr (.inl ⟨p, vs, i, w, rfl, rfl, hs, e1, GlG.now g cn e2⟩)
        · exact .inr (.inr ⟨p, vs, i, w, rfl, rfl, hs, e1, GlG.now g cn e2⟩)
      · exact g.elim
    · exact g.elim
theorem sn_ix (C : CxK X W Γ E cl k) (ha : PE X a (tE X.K W E ca)) (hb : PE X b (tE X.K W E cb)) (hs : RF.noSlice b = true) : PE X (.Subscript a b pos) (tE X.K W E (RF.ixE ca cb)) :=
  (pe_ix (r := rIxA X.K) ((ix_dict C.units1).or (ix_list.or ix_tup)) ha hb (noSl_of hs)).imp fun _ _ _ h => op2 os_ix h
/-! slices -/
theorem cut_rel {M : List Addr} {H : Hp} {xs : List D} {vs : List V} (r : RelDs M H xs vs) (lo hi : Option Int) : RelDs M H (RF.cutD xs lo hi) (cutV vs lo hi) := by
  unfold RF.cutD cutV
  rw [← r.length]
  exact (r.drop _).take _
theorem sn_part {f : Expr → RF.C D} {o : Option Expr} (h : ∀ e ∈ o, PE X e (tE X.K W E (f e))) : PO X o (tG X.K W (fun _ _ x y => x = y) E (RF.intPart (o.map f))) := by
  cases o with
  | none =>
    intro pins s σ H Q I ⟨M, ρ, S, sm, g⟩
    exact po_none pins s σ H Q I (GlG.now g sm.con rfl)
  | some e =>
    intro pins s σ H Q I ⟨M, ρ, S, sm, g⟩
    refine po_some (h e rfl) pins s σ H Q I ?_
    refine seqG sm g fun M1 H1 x u S1 s1 u1 r1 g1 => ?_
    cases x with
    | int i => cases r1; exact ⟨i, rfl, GlG.now g1 s1.con rfl⟩
    | _ => exact g1.elim
theorem sn_slice {f : Expr → RF.C D} {lo hi : Option Expr} {p2 : Pos} (ha : PE X a (tE X.K W E ca)) (hl : ∀ e ∈ lo, PE X e (tE X.K W E (f e))) (hh : ∀ e ∈ hi, PE X e (tE X.K W E (f e))) :
    PE X (.Subscript a (.Slice lo hi none p2) pos) (tE X.K W E (RF.sliceE ca (lo.map f) (hi.map f))) := by
  refine (pe_slice (sl_tup.or sl_list) ha (sn_part hl) (sn_part hh)).imp fun σ H Q ⟨M, ρ, S, s, g⟩ => ?_
  refine seqG s g fun M1 H1 x u S1 s1 u1 r1 g1 => seqG s1 g1 fun M2 H2 l l' S2 s2 u2 r2 g2 => seqG s2 g2 fun M3 H3 h h' S3 s3 u3 r3 g3 => ?_
  subst r2 r3
  have rx := (r1.up u2).up u3
  unfold RF.sliceD at g3
  split at g3
  · obtain ⟨p, vs, rfl, hp, hv⟩ := rel_tup rx
    obtain ⟨hw, g3⟩ := GlG.guard g3
    refine .inl ⟨p, vs, rfl, SqT.of hp, fun z => ?_, fun q hq => ?_⟩
    · rw [← hv.length] at z
      have z1 := z.1
      have z2 := z.2
      change RF.sIx _ 0 _ = 0 at z1
      change RF.sIx _ _ _ = _ at z2
      rw [z1, z2] at hw
      simp at hw
    · exact GlG.at_ g3 (s3.con.fresh hq) (up_fresh hq) (.tup upd_same ((cut_rel hv l h).up (up_fresh hq)))
  · rename_i n
    split at g3
    · rename_i xs hi
      obtain ⟨p, rfl, e⟩ := rel_ref rx
      obtain ⟨vs, h1, h2⟩ := s3.con.items hi e
      exact .inr ⟨p, vs, rfl, h1, gl_newL g3 s3.con (cut_rel h2 l h)⟩
    · exact g3.elim
  · exact g3.elim
/-! fields -/
theorem fld_at {K : PySem.W.Frag} {M : List Addr} {H : Hp} {W : Adr} {cc : Nat} (nd : W.T.nams.Nodup) {fs : List (Nat × D)} {gs : List (Str × V)} (h : Paired (fun (p : Nat × D) (q : Str × V) => (W.T.nams[p.1]? = some q.1 ∧ W.T.plain cc p.1 = true) ∧ RelD M H p.2 q.2) fs gs) {f : Nat} {x : Str} (hx : W.T.nams[f]? = some x) :
    (fs.lookup f = none ∧ gs.lookup x = none) ∨ ∃ d v, fs.lookup f = some d ∧ gs.lookup x = some v ∧ RelD M H d v ∧ W.T.plain cc f = true := by
  induction h with
  | nil => exact .inl ⟨rfl, rfl⟩
  | @cons p q fs gs r t ih =>
    obtain ⟨pf, pd⟩ := p
    obtain ⟨qf, qv⟩ := q
    obtain ⟨⟨r1, r2⟩, r3⟩ := r
    by_cases e : f = pf
    · subst e
      have e2 : x = qf := Option.some.inj (hx.symm.trans r1)
      subst e2
      exact .inr ⟨pd, qv, by simp [List.lookup], by simp [List.lookup], r3, r2⟩
    · have e2 : ¬ x = qf := fun z => e (by
        subst z
        exact (List.getElem?_inj (List.getElem?_eq_some_iff.mp hx).1 nd).mp (hx.trans r1.symm))
      have b1 : (f == pf) = false := by simpa using e
      have b2 : (x == qf) = false := by simpa using e2
      simp only [List.lookup, b1, b2]
      exact ih
theorem sn_fld (C : CxK X W Γ E cl k) {f : Str} {i : Nat} (ha : PE X a (tE X.K W E ca)) (hi : RF.ixOf W.T.nams f = some i) (hb : RF.noBase a = true) : PE X (.Attribute a f pos) (tE X.K W E (RF.fldE ca i)) := by
  refine (pe_fld ha (base_no hb)).imp fun σ H Q ⟨M, ρ, S, s, g⟩ => ?_
  refine seqG s g fun M1 H1 x u S1 s1 u1 r1 g1 => ?_
  unfold RF.fieldD at g1
  split at g1
  · rename_i n
    split at g1
    · rename_i cc fs hS
      split at g1
      · rename_i d hd
        obtain ⟨p, rfl, e⟩ := rel_ref r1
        obtain ⟨dx, gs, h1, hc, h2⟩ := s1.con.at_ n _ p hS e
        rcases fld_at (K := X.K) s1.con.nod h2 (ixOf_get hi) with ⟨z, _⟩ | ⟨d', v, z1, z2, z3, z4⟩
        · rw [z] at hd; cases hd
        · rw [z1] at hd
          cases hd
          exact ⟨p, W.c cc, dx, gs, v, rfl, h1, C.top.clsK cc hc, C.top.plain cc i f hc z4 (ixOf_get hi), z2, GlG.now g1 s1.con z3⟩
      · exact g1.elim
    · exact g1.elim
  · exact g1.elim
/-! isinstance -/
def knOf : RF.Kd → String
  | .int => "int" | .bool => "bool" | .str => "str" | .tuple => "tuple" | .list => "list"
def kfOf : RF.Kd → Kn → Bool
  | .int => isInt | .bool => isBl | .str => isStr | .tuple => isTup | .list => isLst
theorem kit_of (K : PySem.W.Frag) (d : RF.Kd) (n : Kn) : PySem.W.kitOne K (.type n.ty) (.type (knOf d)) = some (kfOf d n) := by
  cases d with
  | int => exact kit_int K n
  | bool => exact kit_bool K n
  | str => exact kit_str K n
  | tuple => exact kit_tuple K n
  | list => exact kit_list K n
theorem is_rel {K : PySem.W.Frag} {M : List Addr} {S : Store} {H : Hp} (cn : Cn K W M S H) {d : RF.Kd} {x : D} {u : V} {t : Bool} (r : RelD M H x u) (h : RF.isD S d x = some t) : ∃ n, KindV K H u n ∧ t = kfOf d n := by
  cases r with
  | non => cases h; exact ⟨.non, kn_non, by cases d <;> rfl⟩
  | bl b => cases h; exact ⟨.bl, kn_bl b, by cases d <;> rfl⟩
  | int i => cases h; exact ⟨.int, kn_int i, by cases d <;> rfl⟩
  | str z => cases h; exact ⟨.str, kn_str z, by cases d <;> rfl⟩
  | tup ha hx => cases h; exact ⟨.tup, kn_tup ha, by cases d <;> rfl⟩
  | ref hm =>
    simp only [RF.isD] at h
    split at h
    · rename_i xs hS
      cases h
      obtain ⟨vs, h1, h2⟩ := cn.lst hS hm
      exact ⟨.lst, kn_lst h1, by cases d <;> rfl⟩
    · cases h
theorem kd_of {t : Str} {d : RF.Kd} (h : RF.kdOf t = some d) : t ∈ bNames ∧ bootBuiltins t = some (.type (knOf d)) ∧ t ≠ "__name__" := by
  unfold RF.kdOf at h
  split at h
  · rename_i e; cases h; subst e; exact ⟨by simp [bNames], boot_int, by decide +kernel⟩
  · split at h
    · rename_i e; cases h; subst e; exact ⟨by simp [bNames], boot_bool, by decide +kernel⟩
    · split at h
      · rename_i e; cases h; subst e; exact ⟨by simp [bNames], boot_str, by decide +kernel⟩
      · split at h
        · rename_i e; cases h; subst e; exact ⟨by simp [bNames], boot_tuple, by decide +kernel⟩
        · split at h
          · rename_i e; cases h; subst e; exact ⟨by simp [bNames], boot_list, by decide +kernel⟩
          · cases h
theorem sn_isi (C : CxK X W Γ E cl k) {t : Str} {d : RF.Kd} {pt pf : Pos} (hg : RF.isGl Γ "isinstance" = true) (hgt : RF.isGl Γ t = true) (hd : RF.kdOf t = some d) (ha : PE X a (tE X.K W E ca)) (hp : RF.plainE a = true) :
    PE X (.Call (.Name "isinstance" pf) [a, .Name t pt] [] pos) (tE X.K W E (RF.isE d ca)) := by
  obtain ⟨k1, k2, k3⟩ := kd_of hd
  obtain ⟨g1, g2⟩ := C.gl hgt
  refine (pe_callB (call_isiK (kit_of X.K d)) (C.gl hg).1 (C.top.blt _ (by simp [bNames])) boot_isinstance (pa_cons ha (pa_cons (pe_bltn (v := .ty (knOf d)) g1 (C.top.blt t k1) k2 rfl k3 g2) pa_nil (star_plain rfl)) (star_plain hp)) (by decide +kernel) (C.gl hg).2 (star_plain hp) (star_none rfl)).imp fun σ H Q ⟨M, ρ, S, s, g⟩ => ?_
  refine seqG s g fun M1 H1 x u S1 s1 u1 r1 g1 => ?_
  obtain ⟨t', ht, q⟩ := optB_gl g1 s1.con
  obtain ⟨n, h1, h2⟩ := is_rel s1.con r1 ht
  subst h2
  exact ⟨u, n, rfl, h1, q⟩
end
end L2
end

section
set_option Elab.async false
set_option linter.all false
set_option maxRecDepth 100000
set_option maxHeartbeats 1000000
/-! # Calls -/
namespace L2
open PySem PySem.Spec PyProof.Rows
open RF (D O Store Tab)
section
variable {X : Cx} {W : Adr} {Γ : RF.Gm} {E : XK} {cl : RF.Calls} {k : Nat} {a b c e : Expr} {ca cb cc : RF.C D} {pos : Pos}
/-! builtin functions -/
/-- a call of values is read by f -/
def ClS (X : Cx) (W : Adr) (E : XK) (f : List D → Store → RF.R D) (r : List V → Hp → VK → Prop) : Prop := ∀ (M : List Addr) (S : Store) (H : Hp) (xs : List D) (us : List V) (Q : VK), Cn X.K W M S H → RelDs M H xs us → GlG X.K W RelD E M H (f xs S) Q → r us H Q
theorem call_rd {f : List D → Store → RF.R D} {r : List V → Hp → VK → Prop} (h : ClS X W E f r) {cs : List (RF.C D)} {σ : St} {H : Hp} {Q : VK} (hq : tE X.K W E (RF.callE f cs) σ H Q) : tCB r (tA X.K W E (RF.seqE cs)) σ H Q := by
  obtain ⟨M, ρ, S, s, g⟩ := hq
  exact seqG s g fun M1 H1 xs us S1 s1 u1 r1 g1 => h M1 S1 H1 xs us Q s1.con r1 g1
theorem rels1 {M : List Addr} {H : Hp} {x : D} {us : List V} (r : RelDs M H [x] us) : ∃ u, us = [u] ∧ RelD M H x u := by
  cases r with | cons h hs => cases hs; exact ⟨_, rfl, h⟩
theorem rels2 {M : List Addr} {H : Hp} {x y : D} {us : List V} (r : RelDs M H [x, y] us) : ∃ u v, us = [u, v] ∧ RelD M H x u ∧ RelD M H y v := by
  cases r with | cons h hs => cases hs with | cons h2 hs => cases hs; exact ⟨_, _, rfl, h, h2⟩
theorem bools_rel {M : List Addr} {H : Hp} {xs : List D} {vs : List V} {bs : List Bool} (r : RelDs M H xs vs) (h : RF.bools xs = some bs) : vs = bs.map V.bl := by
  induction xs generalizing vs bs with
  | nil => cases h; cases r; rfl
  | cons x xs ih =>
    cases r with
    | cons h1 h2 =>
      cases x with
      | bl t =>
        simp only [RF.bools] at h
        obtain ⟨bs', e1, e2⟩ := Option.map_eq_some_iff.mp h
        subst e2
        cases h1
        rw [ih h2 e1]
        rfl
      | _ => cases h
def rLenA (K : PySem.W.Frag) : List V → Hp → VK → Prop := fun xs H Q => (∃ x n, xs = [x] ∧ LenV K x H n ∧ Q (.int n) H) ∨ (∃ a kvs, xs = [V.ref a] ∧ Rd H a (.dT kvs) ∧ Q (.int (kvs.length : Nat)) H) ∨ ∃ a kvs, xs = [V.ref a] ∧ Rd H a (.dK kvs) ∧ Q (.int (kvs.length : Nat)) H
theorem call_lenK : CallR X (.builtin "len") (fun xs H Q => ∃ a kvs, xs = [V.ref a] ∧ Rd H a (.dK kvs) ∧ Q (.int (kvs.length : Nat)) H) := by
  intro pins s σ H xs us Q I r h
  obtain ⟨a, kvs, rfl, ha, q⟩ := h
  obtain ⟨u, rfl, ru⟩ := vals1 r
  cases ru
  exact d_len I ha fun t s' I' => ⟨.int kvs.length, H, I', ⟨t, rfl⟩, q⟩
theorem call_lenA : CallR X (.builtin "len") (rLenA X.K) := call_len.or (call_lenT.or call_lenK)
theorem cs_len : ClS X W E (RF.callB .len) (rLenA X.K) := by
  intro M S H xs us Q cn r g
  match xs, r, g with
  | [x], r, g =>
    simp only [RF.callB] at g
    split at g
    · rename_i n hn
      obtain ⟨u, rfl, ru⟩ := rels1 r
      have q := GlG.now g cn (.int _)
      unfold RF.lenD at hn
      split at hn
      · split at hn
        · cases hn
          cases ru
          exact .inl ⟨_, _, rfl, ⟨by assumption, rfl⟩, q⟩
        · cases hn
      · split at hn
        · rename_i kvs hk
          cases hn
          obtain ⟨m, p, rfl, rfl, _, h⟩ := cn.kvs hk ru
          rcases h with ⟨ks, h1, h2⟩ | ⟨ts, h1, h2⟩
          · exact .inr (.inr ⟨p, ks, rfl, h1, by rw [← Paired.length h2]; exact q⟩)
          · exact .inr (.inl ⟨p, ts, rfl, h1, by rw [← Paired.length h2]; exact q⟩)
        · obtain ⟨ys, hy, e⟩ := Option.map_eq_some_iff.mp hn
          subst e
          obtain ⟨p, vs, rfl, hs, hv⟩ := items_sq cn hy ru
          refine .inl ⟨_, _, rfl, ?_, q⟩
          rcases hs with hs | hs
          · exact .inl ⟨vs, hs, hv.length⟩
          · exact .inr ⟨vs, hs, hv.length⟩
    · exact g.elim
  | [], r, g => exact g.elim
  | _ :: _ :: _, r, g => exact g.elim
theorem cs_all : ClS X W E (RF.callB .all) (rAll X.K) := by
  intro M S H xs us Q cn r g
  match xs, r, g with
  | [x], r, g =>
    obtain ⟨u, rfl, ru⟩ := rels1 r
    simp only [RF.callB] at g
    split at g
    · rename_i bs n hb
      obtain ⟨ys, h1, h2⟩ := Option.bind_eq_some_iff.mp hb
      obtain ⟨p, rfl, e⟩ := rel_ref ru
      obtain ⟨vs, h3, h4⟩ := cn.items h1 e
      rw [bools_rel h4 h2] at h3
      exact ⟨p, bs, rfl, h3, GlG.now g cn (.bl _)⟩
    · exact g.elim
  | [], r, g => exact g.elim
  | _ :: _ :: _, r, g => exact g.elim
theorem cs_max : ClS X W E (RF.callB .max2) (fun xs H Q => ∃ i j, xs = [.int i, .int j] ∧ Q (.int (if j > i then j else i)) H) := by
  intro M S H xs us Q cn r g
  match xs, r, g with
  | [x, y], r, g =>
    obtain ⟨u, v, rfl, ru, rv⟩ := rels2 r
    cases x with
    | int i =>
      cases y with
      | int j => cases ru; cases rv; exact ⟨_, _, rfl, GlG.now g cn (.int _)⟩
      | _ => exact g.elim
    | _ => exact g.elim
  | [], r, g => exact g.elim
  | [x], r, g => cases x <;> exact g.elim
  | x :: y :: _ :: _, r, g => cases x <;> first | exact g.elim | (cases y <;> exact g.elim)
theorem cs_min : ClS X W E (RF.callB .min2) (fun xs H Q => ∃ i j, xs = [.int i, .int j] ∧ Q (.int (if j < i then j else i)) H) := by
  intro M S H xs us Q cn r g
  match xs, r, g with
  | [x, y], r, g =>
    obtain ⟨u, v, rfl, ru, rv⟩ := rels2 r
    cases x with
    | int i =>
      cases y with
      | int j => cases ru; cases rv; exact ⟨_, _, rfl, GlG.now g cn (.int _)⟩
      | _ => exact g.elim
    | _ => exact g.elim
  | [], r, g => exact g.elim
  | [x], r, g => cases x <;> exact g.elim
  | x :: y :: _ :: _, r, g => cases x <;> first | exact g.elim | (cases y <;> exact g.elim)
theorem cs_tuple : ClS X W E (RF.callB .tuple) (fun xs H Q => ∃ p ys, xs = [.ref p] ∧ ((SqL X.K H p ys ∧ ∀ l, H l = none → Q (.ref l) (upd H l (.tup ys))) ∨ (SqT X.K H p ys ∧ Q (.ref p) H))) := by
  intro M S H xs us Q cn r g
  match xs, r, g with
  | [x], r, g =>
    obtain ⟨u, rfl, ru⟩ := rels1 r
    simp only [RF.callB] at g
    split at g
    · rename_i ys hy
      cases x with
      | tup zs =>
        cases hy
        obtain ⟨p, vs, rfl, hp, hv⟩ := rel_tup ru
        exact ⟨p, vs, rfl, .inr ⟨SqT.of hp, GlG.now g cn (.tup hp hv)⟩⟩
      | ref n =>
        obtain ⟨p, rfl, e⟩ := rel_ref ru
        obtain ⟨vs, h1, h2⟩ := cn.items hy e
        exact ⟨p, vs, rfl, .inl ⟨h1, fun l hl => GlG.at_ g (cn.fresh hl) (up_fresh hl) (.tup upd_same (h2.up (up_fresh hl)))⟩⟩
      | _ => cases hy
    · exact g.elim
  | [], r, g => exact g.elim
  | _ :: _ :: _, r, g => exact g.elim
def rListA (K : PySem.W.Frag) : List V → Hp → VK → Prop := fun xs H Q => (∃ p ys, xs = [.ref p] ∧ (SqL K H p ys ∨ SqT K H p ys) ∧ ∀ l, H l = none → Q (.ref l) (upd H l (.lst ys))) ∨
  ∃ a kvs, xs = [V.ref a] ∧ Rd H a (.dT kvs) ∧ ∀ l ys, H l = none → ys.length = kvs.length → (∀ (i : Nat) p, kvs[i]? = some p → ∃ b, ys[i]? = some (V.ref b) ∧ H b = some (.tup (p.1.map kV))) → Q (.ref l) (upd H l (.lst ys))
theorem kvRels (M : List Addr) (H : Hp) (ks : List Key) : RelDs M H (ks.map ofKey) (ks.map kV) := by
  induction ks with
  | nil => exact .nil
  | cons k ks ih => exact .cons (ofKey_rel M H k) ih
/-- the keys of a dict, as they are walked -/
theorem keys_rel {M : List Addr} {H : Hp} {kvs : List (D × D)} {ts : List (List Key × V)} (h : Paired (KPair ofKeys M H) kvs ts) {ys : List V} (hl : ys.length = ts.length) (hy : ∀ (i : Nat) p, ts[i]? = some p → ∃ b, ys[i]? = some (V.ref b) ∧ H b = some (.tup (p.1.map kV))) : RelDs M H (kvs.map (·.1)) ys := by
  induction h generalizing ys with
  | nil => cases ys with | nil => exact .nil | cons => simp at hl
  | @cons p q kvs ts r t ih =>
    cases ys with
    | nil => simp at hl
    | cons y ys =>
      obtain ⟨b, e1, e2⟩ := hy 0 q rfl
      have e1 : y = .ref b := by simpa using e1
      subst e1
      refine .cons ?_ (ih (by simpa using hl) fun i p' hp => ?_)
      · show RelD M H p.1 _
        rw [r.1]
        exact .tup e2 (kvRels M H q.1)
      · obtain ⟨b', g1, g2⟩ := hy (i + 1) p' (by simpa using hp)
        exact ⟨b', by simpa using g1, g2⟩
theorem cs_list : ClS X W E (RF.callB .list) (rListA X.K) := by
  intro M S H xs us Q cn r g
  match xs, r, g with
  | [x], r, g =>
    obtain ⟨u, rfl, ru⟩ := rels1 r
    simp only [RF.callB] at g
    split at g
    · rename_i kvs hk
      obtain ⟨hf, g⟩ := GlG.guard g
      rw [Bool.and_eq_true] at hf
      obtain ⟨n, p, rfl, rfl, e, h⟩ := cn.kvs hk ru
      rcases h with ⟨ks, h1, h2⟩ | ⟨ts, h1, h2⟩
      · have := all_nil (keys_flat h2) hf.1 (fun k => flat_tup_no)
        subst this
        cases hf.2
      · exact .inr ⟨p, ts, rfl, h1, fun l ys hl h3 h4 => gl_newL g cn (keys_rel h2 h3 h4) l hl⟩
    · split at g
      · rename_i ys hy
        obtain ⟨p, vs, rfl, hs, hv⟩ := items_sq cn hy ru
        exact .inl ⟨p, vs, rfl, hs, gl_newL g cn hv⟩
      · exact g.elim
  | [], r, g => exact g.elim
  | _ :: _ :: _, r, g => exact g.elim
theorem sn_builtin (C : CxK X W Γ E cl k) {x : Str} {bb : RF.B} {f : Expr → RF.C D} {es : List Expr} {pf : Pos} (hb : RF.bOf x es.length = some bb) (hg : RF.isGl Γ x = true) (h : ∀ e ∈ es, PE X e (tE X.K W E (f e))) (hp : es.all RF.plainE = true) :
    PE X (.Call (.Name x pf) es [] pos) (tE X.K W E (RF.callE (RF.callB bb) (es.map f))) := by
  obtain ⟨g1, g2⟩ := C.gl hg
  have args := sn_args h hp
  cases es with
  | nil => unfold RF.bOf at hb; simp at hb
  | cons e es =>
    have hp' := hp
    simp only [List.all_cons, Bool.and_eq_true] at hp
    have st : starEach (e :: es) X.env = (false, eval e X.env) :: starEach es X.env := star_plain hp.1
    have pl := star_none (env := X.env) (pos := pos) hp.2
    unfold RF.bOf at hb
    split at hb
    · rename_i z; cases hb; obtain ⟨rfl, _⟩ := z
      exact (pe_callB (call_allL C.calm) g1 (C.top.blt _ (by simp [bNames])) boot_all args (by decide +kernel) g2 st pl).imp fun _ _ _ q => call_rd cs_all q
    · split at hb
      · rename_i z; cases hb; obtain ⟨rfl, _⟩ := z
        exact (pe_callB (call_max2 C.calm) g1 (C.top.blt _ (by simp [bNames])) boot_max args (by decide +kernel) g2 st pl).imp fun _ _ _ q => call_rd cs_max q
      · split at hb
        · rename_i z; cases hb; obtain ⟨rfl, _⟩ := z
          exact (pe_callB (call_min2 C.calm) g1 (C.top.blt _ (by simp [bNames])) boot_min args (by decide +kernel) g2 st pl).imp fun _ _ _ q => call_rd cs_min q
        · split at hb
          · rename_i z; cases hb; obtain ⟨rfl, _⟩ := z
            exact (pe_callTy call_tuple_of g1 (C.top.blt _ (by simp [bNames])) boot_tuple args (by decide +kernel) g2 st pl).imp fun _ _ _ q => call_rd cs_tuple q
          · split at hb
            · rename_i z; cases hb; obtain ⟨rfl, _⟩ := z
              exact (pe_callTy (call_list_of.or (call_listD C.calm)) g1 (C.top.blt _ (by simp [bNames])) boot_list args (by decide +kernel) g2 st pl).imp fun _ _ _ q => call_rd cs_list q
            · cases hb
/-! defs of the text -/
theorem call_sp {K : PySem.W.Frag} {f : List D → Store → RF.R D} {n : Nat} {M : List Addr} {S : Store} {H : Hp} {xs : List D} {us : List V} {Q : VK} (cn : Cn K W M S H) (r : RelDs M H xs us) (hl : ∀ ds S, ds.length ≠ n → f ds S = .bad) (g : GlG K W RelD E M H (f xs S) Q) : spC K W f n us H Q E := by
  refine ⟨?_, M, S, xs, cn, r, g⟩
  rw [← r.length]
  exact Classical.byContradiction fun z => by rw [hl xs S z] at g; exact g
theorem sn_call (C : CxK X W Γ E cl k) {x : Str} {i : Nat} {f : Expr → RF.C D} {es : List Expr} {pf : Pos} (hi : RF.ixOf W.T.funs x = some i) (hg : RF.isGl Γ x = true) (hne : es.isEmpty = false) (h : ∀ e ∈ es, PE X e (tE X.K W E (f e))) (hp : es.all RF.plainE = true) :
    PE X (.Call (.Name x pf) es [] pos) (tE X.K W E (RF.callE (cl.f i) (es.map f))) := by
  obtain ⟨g1, g2⟩ := C.gl hg
  have args := sn_args h hp
  obtain ⟨fa, fd, ps, F, hl, hm, hk, bd⟩ := C.top.fn x i hi
  cases es with
  | nil => cases hne
  | cons e es =>
    simp only [List.all_cons, Bool.and_eq_true] at hp
    refine (pe_call F (C.room.mono (Nat.le_succ k)) g1 hm hk bd .nil C.pass args g2 (star_plain hp.1) (star_none hp.2)).imp fun σ H Q ⟨M, ρ, S, s, g⟩ => ?_
    refine seqG s g fun M1 H1 xs us S1 s1 u1 r1 g1 => ?_
    rw [List.append_nil]
    exact call_sp s1.con r1 hl g1
/-- C(..) -/
theorem sn_make (C : CxK X W Γ E cl k) {x : Str} {i c : Nat} {f : Expr → RF.C D} {es : List Expr} {pf : Pos} (hc : RF.ixOf W.T.clss x = some c) (hi : RF.ixOf W.T.nams "__init__" = some i) (hM : W.T.isM c i = true) (hg : RF.isGl Γ x = true) (h : ∀ e ∈ es, PE X e (tE X.K W E (f e))) (hp : es.all RF.plainE = true) :
    PE X (.Call (.Name x pf) es [] pos) (tE X.K W E (RF.makeE (cl.m c i) c (es.map f))) := by
  obtain ⟨g1, g2⟩ := C.gl hg
  have args := sn_args h hp
  obtain ⟨fa, fd, ps, F, hl, hm, bd, mk, _⟩ := C.top.mt c i "__init__" hM (ixOf_get hi)
  have hcl : c < W.T.clss.length := (List.getElem?_eq_some_iff.mp (ixOf_get hc)).1
  have rd : ∀ (σ : St) (H : Hp) (Q : VK), tE X.K W E (RF.makeE (cl.m c i) c (es.map f)) σ H Q → tMake (W.c c) (spC X.K W (cl.m c i) ps.length) [] E (tA X.K W E (RF.seqE (es.map f))) σ H Q := by
    intro σ H Q ⟨M, ρ, S, s, g⟩
    refine seqG s g fun M1 H1 xs us S1 s1 u1 r1 g1 => ?_
    intro p dx hp hdx hne
    have hp2 : upd H1 dx (.own p) p = none := by rw [upd_ne (Ne.symm hne)]; exact hp
    have c2 : Cn X.K W M1 S1 (upd H1 dx (.own p)) := s1.con.fresh hdx
    have c3 : Cn X.K W (M1 ++ [p]) (S1 ++ [.obj c []]) (upd (upd H1 dx (.own p)) p (.ins (W.c c) dx [])) := c2.new hp2 rfl ⟨dx, [], upd_same, hcl, .nil⟩
    have u3 : Up M1 H1 (M1 ++ [p]) (upd (upd H1 dx (.own p)) p (.ins (W.c c) dx [])) := (up_fresh (M := M1) hdx).trans (up_new hp2)
    rw [List.append_nil]
    refine call_sp (xs := .ref S1.length :: xs) c3 (.cons (new_at s1.con) (r1.up u3)) hl ?_
    refine seqR (g1.up u3) fun M4 H4 d v S4 c4 u4 r4 g4 => ?_
    cases d with
    | non =>
      cases r4
      exact ⟨rfl, GlG.now g4 c4 ((new_at (H' := H4) s1.con).up0 ⟨u4.pre, fun b xs h => h⟩)⟩
    | _ => exact g4.elim
  cases es with
  | nil =>
    refine (pe_make0 (mk rfl) F C.room g1 (C.top.clsG x c hc) bd .nil C.pass g2).imp fun σ H Q q => ?_
    obtain ⟨M, ρ, S, s, g⟩ := rd σ H Q q
    exact GlG.now g s.con .nil
  | cons e es =>
    simp only [List.all_cons, Bool.and_eq_true] at hp
    exact (pe_make (mk rfl) F C.room g1 (C.top.clsG x c hc) bd .nil C.pass args g2 (star_plain hp.1) (star_none hp.2)).imp rd
/-- len(..) -/
theorem sn_len (C : CxK X W Γ E cl k) {pf : Pos} (hg : RF.isGl Γ "len" = true) (ha : PE X a (tE X.K W E ca)) (hp : RF.plainE a = true) : PE X (.Call (.Name "len" pf) [a] [] pos) (tE X.K W E (RF.lenE W.T.isM cl.m (RF.ixOf W.T.nams "__len__") ca)) := by
  obtain ⟨g1, g2⟩ := C.gl hg
  have args : PA X [a] (tCons (tE X.K W E ca) tNil) := pa_cons ha pa_nil (star_plain hp)
  intro pins s σ H Q I ⟨M, ρ, S, sm, g⟩
  have g : GlG X.K W RelD E M H ((ca ρ S).bind _) Q := g
  cases e : ca ρ S with
  | bad => rw [e] at g; exact g.elim
  | ex x p S1 =>
    rw [e] at g
    exact pe_callB (call_lenA) g1 (C.top.blt _ (by simp [bNames])) PySem.boot_len args (by decide +kernel) g2 (star_plain hp) (star_none rfl) pins s σ H Q I (tG_ex sm e g)
  | ok x S1 =>
    rw [e, RF.R.bind_ok] at g
    have plain : (GlG X.K W RelD E M H (RF.callB .len [x] S1) Q) → wpAny (model X.prog X.w) X.A (eval (.Call (.Name "len" pf) [a] [] pos) X.env) (EP X pins σ Q) X.xe s := fun g =>
      pe_callB (call_lenA) g1 (C.top.blt _ (by simp [bNames])) PySem.boot_len args (by decide +kernel) g2 (star_plain hp) (star_none rfl) pins s σ H Q I
        (tG_ok sm e fun M1 H1 u s1 u1 r1 => cs_len M1 S1 H1 [x] [u] Q s1.con (.cons r1 .nil) (GlG.up g u1))
    split at g
    · rename_i n
      split at g
      · rename_i cc fs hS
        split at g
        · rename_i m hm
          obtain ⟨hM, g⟩ := GlG.guard g
          obtain ⟨fa, fd, ps, F, hl, hmt, bd, _⟩ := C.top.mt cc m "__len__" hM (ixOf_get hm)
          refine pe_callB (call_lenO hmt F C.room bd C.pass) g1 (C.top.blt _ (by simp [bNames])) PySem.boot_len args (by decide +kernel) g2 (star_plain hp) (star_none rfl) pins s σ H Q I
            (tG_ok sm e fun M1 H1 u s1 u1 r1 => ?_)
          obtain ⟨p, rfl, ea⟩ := rel_ref r1
          obtain ⟨dx, gs, h1, hc, h2⟩ := s1.con.at_ n _ p hS ea
          refine ⟨p, dx, gs, rfl, h1, call_sp (xs := [.ref n]) s1.con (.cons (.ref ea) .nil) hl (seqR (GlG.up g u1) fun M2 H2 d v S2 c2 u2 r2 g2 => ?_)⟩
          cases d with
          | int i =>
            obtain ⟨hz, g2⟩ := GlG.guard g2
            simp only [Bool.and_eq_true, decide_eq_true_eq] at hz
            cases r2
            have e2 : ((i.toNat : Nat) : Int) = i := Int.toNat_of_nonneg hz.1
            refine ⟨i.toNat, by rw [e2], hz.2, ?_⟩
            rw [e2]
            exact GlG.now g2 c2 (.int i)
          | _ => exact g2.elim
        · exact g.elim
      · exact plain g
    · exact plain g
end
end L2
end

section
set_option Elab.async false
set_option linter.all false
set_option maxRecDepth 100000
set_option maxHeartbeats 1000000
/-! # Methods -/
namespace L2
open PySem PySem.Spec PyProof.Rows
open RF (D O Store Tab)
section
variable {X : Cx} {W : Adr} {Γ : RF.Gm} {E : XK} {cl : RF.Calls} {k : Nat} {a b c e : Expr} {ca cb cc : RF.C D} {pos apos : Pos}
theorem mt_append_of {m : Str} {n : Nat} (h : RF.mtOf m n = some .append) : m = "append" ∧ n = 1 := by
  unfold RF.mtOf at h
  split at h
  · rename_i z; exact z
  · split at h <;> cases h
theorem mt_pop_of {m : Str} {n : Nat} (h : RF.mtOf m n = some .pop) : m = "pop" ∧ n = 1 := by
  unfold RF.mtOf at h
  split at h
  · cases h
  · split at h
    · rename_i z; exact z
    · cases h
theorem val_in {κ : Type} [DecidableEq κ] {f : κ → D} (hf : ∀ a b, f a = f b → a = b) {M : List Addr} {H : Hp} {kvs : List (D × D)} {ks : List (κ × V)} (h : Paired (KPair f M H) kvs ks) (q : κ) : Paired (KPair f M H) (RF.dropD kvs (f q)) (dropK ks q) := by
  induction h with
  | nil => exact .nil
  | @cons p r kvs ks hr t ih =>
    unfold RF.dropD dropK at ih ⊢
    rw [List.filter_cons, List.filter_cons]
    by_cases e : r.1 = q
    · rw [if_neg (by rw [hr.1, e]; simp), if_neg (by rw [e]; simp)]
      exact ih
    · have e' : ¬ p.1 = f q := fun z => e (hf _ _ (hr.1.symm.trans z))
      rw [if_pos (by simp [e']), if_pos (by simp [e])]
      exact .cons hr ih
theorem args1 {f : Expr → RF.C D} {es : List Expr} (h : es.length = 1) : ∃ e, es = [e] := by
  match es, h with
  | [e], _ => exact ⟨e, rfl⟩
theorem sn_meth (C : CxK X W Γ E cl k) {m : Str} {f : Expr → RF.C D} {es : List Expr} (ha : PE X a (tE X.K W E ca)) (h : ∀ e ∈ es, PE X e (tE X.K W E (f e))) (hp : es.all RF.plainE = true) (hb : RF.noBase a = true) (hl : (apos.endLine == pos.line) = true) (hn : es.length < 30) :
    PE X (.Call (.Attribute a m apos) es [] pos) (tE X.K W E (RF.methE W.T.isM cl.m (RF.ixOf W.T.nams m) (RF.mtOf m es.length) ca (es.map f))) := by
  have args := sn_args h hp
  intro pins s σ H Q I ⟨M, ρ, S, sm, g⟩
  unfold RF.methE at g
  cases e : ca ρ S with
  | bad => rw [e] at g; exact g.elim
  | ex x p S1 =>
    rw [e] at g
    rw [meth_eval hb hp hn hl]
    exact wpAny_bind (wpAny_mono (ha pins s σ H (fun _ _ => False) I (tG_ex sm e g)) (fun v s1 ⟨_, _, _, _, z⟩ => z.elim) fun _ _ z => z)
  | ok x S1 =>
    rw [e, RF.R.bind_ok] at g
    split at g
    · rename_i n
      split at g
      · rename_i cc fs hS
        split at g
        · rename_i i hi
          obtain ⟨hM, g⟩ := GlG.guard g
          rw [Bool.and_eq_true] at hM
          obtain ⟨fa, fd, ps, F, hln, hmt, bd, _, hcl⟩ := C.top.mt cc i m hM.2 (ixOf_get hi)
          have rd : tMeth (W.c cc) m (spC X.K W (cl.m cc i) ps.length) [] E (tE X.K W E ca) (tA X.K W E (RF.seqE (es.map f))) σ H Q := by
            refine tG_ok sm e fun M1 H1 u s1 u1 r1 => ?_
            obtain ⟨p, rfl, ea⟩ := rel_ref r1
            obtain ⟨dx, gs, h1, hc, h2⟩ := s1.con.at_ n _ p hS ea
            refine ⟨p, dx, gs, rfl, h1, ?_, ?_⟩
            · rcases fld_at (K := X.K) s1.con.nod h2 (ixOf_get hi) with ⟨_, z⟩ | ⟨d, v, z, _⟩
              · exact z
              · rw [z] at hM; cases hM.1
            · refine seqG s1 (GlG.up g u1) fun M2 H2 xs us S2 s2 u2 r2 g2 => ?_
              rw [List.append_nil]
              exact call_sp (xs := .ref n :: xs) s2.con (.cons ((RelD.ref ea).up u2) r2) hln g2
          cases es with
          | nil =>
            refine pe_meth0 ha hcl hmt F (C.room.mono (Nat.le_succ k)) bd .nil C.pass (meth_eval hb hp hn hl) pins s σ H Q I ?_
            refine tG_ok sm e fun M1 H1 u s1 u1 r1 => ?_
            obtain ⟨p, rfl, ea⟩ := rel_ref r1
            obtain ⟨dx, gs, h1, hc, h2⟩ := s1.con.at_ n _ p hS ea
            refine ⟨p, dx, gs, rfl, h1, ?_, call_sp (xs := [.ref n]) s1.con (.cons (.ref ea) .nil) hln (GlG.up g u1)⟩
            rcases fld_at (K := X.K) s1.con.nod h2 (ixOf_get hi) with ⟨_, z⟩ | ⟨d, v, z, _⟩
            · exact z
            · rw [z] at hM; cases hM.1
          | cons e1 es =>
            have hp' := hp
            simp only [List.all_cons, Bool.and_eq_true] at hp'
            exact pe_meth ha hcl hmt F (C.room.mono (Nat.le_succ k)) bd .nil C.pass args (star_plain hp'.1) (star_none hp'.2) (meth_eval hb hp hn hl) pins s σ H Q I rd
        · exact g.elim
      · rename_i o hno hS
        split at g
        · rename_i bm hbm
          obtain ⟨hfit, g⟩ := GlG.guard g
          cases bm with
          | append =>
            obtain ⟨rfl, hl1⟩ := mt_append_of hbm
            obtain ⟨e1, rfl⟩ := args1 (f := f) hl1
            have hp1 : RF.plainE e1 = true := by simpa using hp
            cases o with
            | lst xs0 =>
              refine pe_bm PySem.F.plainAttrs_list PySem.F.slot_list_append PySem.F.type_list_append mt_append ha args (base_no hb) (few_ok hp hn) hl (star_plain hp1) (star_none rfl) pins s σ H Q I
                (tG_ok sm e fun M1 H1 u s1 u1 r1 => ?_)
              obtain ⟨p, vs, rfl, ea, h1, h2⟩ := lst_obj s1.con hS r1
              refine ⟨.inl ⟨rfl, vs, SqL.of h1⟩, seqG s1 (GlG.up g u1) fun M2 H2 ys us S2 s2 u2 r2 g2 => ?_⟩
              unfold RF.methD at g2
              dsimp only at g2
              split at g2
              · rename_i xs v hm hS2
                obtain ⟨hz, g2⟩ := GlG.guard g2
                obtain ⟨w, rfl, rw'⟩ := rels1 r2
                have ea2 := pre_get u2.pre ea
                obtain ⟨vs2, k1, k2⟩ := s2.con.lst hS2 ea2
                refine ⟨p, vs2, w, rfl, rfl, k1, by rw [← k2.length]; exact of_decide_eq_true hz, ?_⟩
                have nt : NoFix (H2 p) := nofix k1 rfl
                exact GlG.at_ g2 (s2.con.put hS2 ea2 rfl rfl nt ⟨_, upd_same, (k2.append (.cons rw' .nil)).up (up_put nt)⟩) (up_put nt) .non
              · rename_i hm _; cases hm
              · exact g2.elim
            | _ => cases hfit
          | pop =>
            obtain ⟨rfl, hl1⟩ := mt_pop_of hbm
            obtain ⟨e1, rfl⟩ := args1 (f := f) hl1
            have hp1 : RF.plainE e1 = true := by simpa using hp
            have st : starEach [e1] X.env = [(false, eval e1 X.env)] := by rw [star_plain hp1]; rfl
            cases o with
            | dic kvs0 =>
              refine pe_dpopT C.units2 ha (h e1 List.mem_cons_self) ⟨base_no hb, few_ok hp hn, hl, by rw [st]; rfl⟩ pins s σ H Q I (tG_ok sm e fun M1 H1 u s1 u1 r1 => ?_)
              obtain ⟨p, rfl, ea⟩ := rel_ref r1
              refine ⟨p, rfl, ?_, ?_⟩
              · rcases s1.con.at_ n _ p hS ea with ⟨ks, h1, _⟩ | ⟨ts, h1, _⟩
                · exact .inl ⟨ks, .inl h1⟩
                · exact .inr ⟨ts, .inl h1⟩
              · have g := GlG.up g u1
                have g : GlG X.K W RelD E M1 H1 ((f e1 ρ S1).bind fun y S2 => RF.methD .pop (.ref n) [y] S2) Q := by
                  have e3 : (RF.seqE ([e1].map f) ρ S1).bind (fun xs S2 => RF.methD .pop (.ref n) xs S2) = (f e1 ρ S1).bind fun y S2 => RF.methD .pop (.ref n) [y] S2 := by
                    show ((f e1 ρ S1).bind fun x S1 => (RF.R.ok [] S1).bind fun xs S2 => RF.R.ok (x :: xs) S2).bind _ = _
                    cases f e1 ρ S1 <;> rfl
                  rw [e3] at g
                  exact g
                refine seqG s1 g fun M2 H2 y w S2 s2 u2 r2 g2 => ?_
                unfold RF.methD at g2
                dsimp only at g2
                split at g2
                · exact absurd ‹RF.Mt.pop = RF.Mt.append› (fun z => by cases z)
                · rename_i kvs kk hm hS2 hvs
                  cases hvs
                  obtain ⟨hk, g2⟩ := GlG.guard g2
                  rw [Bool.and_eq_true] at hk
                  split at g2
                  · rename_i d hd
                    have ea2 := pre_get u2.pre ea
                    obtain ⟨q, rfl⟩ := keyTup_of hk.1
                    obtain ⟨bq, vs, rfl, hb1, hs⟩ := rel_tup r2
                    rw [rels_kV hs] at hb1
                    rcases s2.con.at_ n _ p hS2 ea2 with ⟨ks, h1, h2⟩ | ⟨ts, h1, h2⟩
                    · have := val_cross (keys_flat h2) (tup_flat_no hk.1)
                      rw [this] at hd
                      cases hd
                    · rcases val_pair (fun _ _ => ofKeys_inj) h2 q with ⟨z1, _⟩ | ⟨d', v, z1, z2, z3⟩
                      · rw [z1] at hd; cases hd
                      · rw [z1] at hd
                        cases hd
                        have nt : NoFix (H2 p) := nofix h1 rfl
                        exact ⟨bq, ts, q, v, rfl, h1, hb1, z2, GlG.at_ g2 (s2.con.put hS2 ea2 rfl rfl nt (.inr ⟨_, upd_same, Paired.up (val_in (fun _ _ => ofKeys_inj) h2 q) (up_put nt)⟩)) (up_put nt) (z3.up (up_put nt))⟩
                  · exact g2.elim
                · exact g2.elim
            | _ => cases hfit
        · exact g.elim
      · exact g.elim
    · exact g.elim
end
end L2
end

section
set_option Elab.async false
set_option linter.all false
set_option maxRecDepth 100000
set_option maxHeartbeats 1000000
/-! # What is walked; comprehensions -/
namespace L2
open PySem PySem.Spec PyProof.Rows
open RF (D O Store Tab)
theorem bind_assoc {α β γ : Type} (r : RF.R α) (f : α → Store → RF.R β) (g : β → Store → RF.R γ) : (r.bind f).bind g = r.bind fun a S => (f a S).bind g := by cases r <;> rfl
/-- an iterator gives these items, as long as ok -/
structure Wk (K : PySem.W.Frag) (W : Adr) (J : It) (items : List D) (chk : Store → Bool) (ok : List Addr → Store → Hp → Prop) : Prop where
  go : ∀ i M S H, Cn K W M S H → ok M S H → i < items.length → J.go i H ∧ ∀ x H', J.yld i H x H' → H' = H ∧ ∃ d, items[i]? = some d ∧ RelD M H d x
  stop : ∀ i M S H, Cn K W M S H → ok M S H → items.length ≤ i → J.stop i H
  keep : ∀ M S H M' S' H', ok M S H → Up M H M' H' → Cn K W M' S' H' → chk S' = true → ok M' S' H'
section
variable {K : PySem.W.Frag} {W : Adr} {M : List Addr} {S : Store} {H : Hp} {ρ : RF.Env} {σ : St} {E : XK}
theorem wk_list {n : Nat} {a : Addr} {items : List D} : Wk K W (Itl K a) items (RF.stands (.ref n) items) (fun M S H => M[n]? = some a ∧ RF.itemsOf S (.ref n) = some items) where
  go := fun i M S H c ⟨h1, h2⟩ hi => by
    obtain ⟨vs, hs, hv⟩ := c.items h2 h1
    obtain ⟨v, g1, g2⟩ := hv.get (List.getElem?_eq_getElem hi)
    exact ⟨⟨vs, v, hs, g1⟩, fun x H' y => ⟨y.1, _, List.getElem?_eq_getElem hi, by
      have := y.2 vs hs
      rw [g1] at this
      cases this
      exact g2⟩⟩
  stop := fun i M S H c ⟨h1, h2⟩ hi => by
    obtain ⟨vs, hs, hv⟩ := c.items h2 h1
    exact ⟨vs, hs, by rw [← hv.length]; exact hi⟩
  keep := fun M S H M' S' H' ⟨h1, h2⟩ u c hc => ⟨pre_get u.pre h1, of_decide_eq_true hc⟩
theorem wk_tup {a : Addr} {items : List D} : Wk K W (Itt K a) items (fun _ => true) (fun M S H => RelD M H (.tup items) (.ref a)) where
  go := fun i M S H c h hi => by
    obtain ⟨p, vs, e, hp, hv⟩ := rel_tup h
    cases e
    obtain ⟨v, g1, g2⟩ := hv.get (List.getElem?_eq_getElem hi)
    exact ⟨⟨vs, v, SqT.of hp, g1⟩, fun x H' y => ⟨y.1, _, List.getElem?_eq_getElem hi, by
      have := y.2 vs (SqT.of hp)
      rw [g1] at this
      cases this
      exact g2⟩⟩
  stop := fun i M S H c h hi => by
    obtain ⟨p, vs, e, hp, hv⟩ := rel_tup h
    cases e
    exact ⟨vs, SqT.of hp, by rw [← hv.length]; exact hi⟩
  keep := fun M S H M' S' H' h u c _ => h.up u
theorem rangeL_get {lo : Int} {n i : Nat} (hi : i < n) : (RF.rangeL lo n)[i]? = some (.int (lo + i)) := by
  unfold RF.rangeL
  rw [List.getElem?_map, List.getElem?_range hi]
  rfl
theorem rangeL_len {lo : Int} {n : Nat} : (RF.rangeL lo n).length = n := by unfold RF.rangeL; simp
theorem wk_range {lo : Int} {n : Nat} : Wk K W (Itr lo n) (RF.rangeL lo n) (fun _ => true) (fun _ _ _ => True) where
  go := fun i M S H c _ hi => by
    rw [rangeL_len] at hi
    exact ⟨hi, fun x H' y => ⟨y.1, _, rangeL_get hi, by rw [y.2]; exact .int _⟩⟩
  stop := fun i M S H c _ hi => by rw [rangeL_len] at hi; exact hi
  keep := fun _ _ _ _ _ _ _ _ _ _ => trivial
theorem wk_str {z : Str} : Wk K W (Its z) (z.cps.toList.map fun c => .str ⟨#[c]⟩) (fun _ => true) (fun _ _ _ => True) where
  go := fun i M S H c _ hi => by
    have hi : i < z.cps.size := by simpa using hi
    refine ⟨hi, fun x H' y => ⟨y.1, ?_⟩⟩
    obtain ⟨_, cc, e1, rfl⟩ := y
    refine ⟨.str ⟨#[cc]⟩, ?_, .str _⟩
    rw [List.getElem?_map, Array.getElem?_toList, e1]
    rfl
  stop := fun i M S H c _ hi => by
    show z.cps.size ≤ i
    simpa using hi
  keep := fun _ _ _ _ _ _ _ _ _ _ => trivial
theorem wk_dict {a : Addr} {od : Obj} {kvs : List (D × D)} {ts : List (List Key × V)} (hk : kvs.length = ts.length) (hx : ∀ (i : Nat) q, ts[i]? = some q → (kvs.map (·.1))[i]? = some (ofKeys q.1)) :
    Wk K W (Itd a od ts) (kvs.map (·.1)) (fun _ => true) (fun M S H => H a = some (.frz od (.dT ts))) where
  go := fun i M S H c h hi => by
    have hi : i < ts.length := by rw [← hk]; simpa using hi
    refine ⟨⟨h, hi⟩, fun x H' y => ⟨y.1, ?_⟩⟩
    obtain ⟨_, b, p, e1, rfl, e2⟩ := y
    exact ⟨ofKeys p.1, hx i p e1, .tup e2 (kvRels M H p.1)⟩
  stop := fun i M S H c h hi => ⟨h, by rw [← hk]; simpa using hi⟩
  keep := fun M S H M' S' H' h u c _ => u.frzs _ _ _ h
theorem comp_chk {α β : Type} {rel : List Addr → Hp → α → β → Prop} {chk : Store → Bool} {t : RF.C Bool} {e : RF.C D} {l : List D} {f : List D → Store → RF.R α} {Q : β → Hp → Prop} (g : GlG K W rel E M H ((RF.compC chk t e ρ l S).bind f) Q) : chk S = true := by
  cases h : chk S with
  | true => rfl
  | false =>
    exfalso
    cases l with
    | nil => unfold RF.compC at g; rw [h] at g; exact g
    | cons x xs => unfold RF.compC at g; rw [h] at g; exact g
theorem lc_gen {J : It} {items : List D} {chk : Store → Bool} {ok : List Addr → Store → Hp → Prop} (wk : Wk K W J items chk ok) {t : RF.C Bool} {e : RF.C D} {Q : List V → Hp → Prop} (sm : Sm K W M S H ρ σ) (hok : ok M S H) (hn : items.length ≤ sizeLine)
    (g : GlG K W RelDs E0 M H (RF.compC chk t e ρ items S) Q) : LcW J σ (tT K W E0 t) (tE K W E0 e) Q H := by
  refine ⟨fun i m ys H => m = items.length - i ∧ i ≤ items.length ∧ ys.length ≤ i ∧ ∃ M S acc, Sm K W M S H ρ σ ∧ ok M S H ∧ RelDs M H acc ys ∧ GlG K W RelDs E0 M H ((RF.compC chk t e ρ (items.drop i) S).bind fun rest S' => .ok (acc ++ rest) S') Q,
    ⟨items.length, by simp, Nat.zero_le _, Nat.zero_le _, M, S, [], sm, hok, .nil, ?_⟩, ?_⟩
  · rw [List.drop_zero]
    have : (RF.compC chk t e ρ items S).bind (fun rest S' => .ok ([] ++ rest) S') = RF.compC chk t e ρ items S := by
      cases RF.compC chk t e ρ items S <;> rfl
    rw [this]
    exact g
  · rintro i m ys H ⟨rfl, hi, hy, M, S, acc, sm, hok, ra, g⟩
    have hc := comp_chk g
    rcases Nat.lt_or_ge i items.length with hlt | hge
    · obtain ⟨go, yl⟩ := wk.go i M S H sm.con hok hlt
      refine .inr ⟨go, by omega, _, fun ys' H' z => ⟨items.length - (i + 1), by omega, z⟩, fun x H' y => ?_⟩
      obtain ⟨rfl, d, hd, rd⟩ := yl x H' y
      have ed : items.drop i = d :: items.drop (i + 1) := by
        rw [List.drop_eq_getElem_cons hlt]
        congr 1
        rw [List.getElem?_eq_getElem hlt] at hd
        exact Option.some.inj hd
      rw [ed] at g
      unfold RF.compC at g
      rw [if_pos hc, bind_assoc] at g
      have sm' : Sm K W M S H' (some d :: ρ) (some x :: σ) := ⟨sm.con, sm.env.cons rd, by simp [sm.len]⟩
      refine seqG sm' g fun M1 H1 b b' S1 s1 u1 r1 g1 => ?_
      subst r1
      have back : ∀ {M1 S1 H1}, Sm K W M1 S1 H1 (some d :: ρ) (some x :: σ) → Up M H' M1 H1 → Sm K W M1 S1 H1 ρ σ := fun s u => sm.to s.con u
      cases b with
      | false =>
        rw [if_neg (by decide)] at g1
        refine iteF ⟨rfl, hlt, by omega, M1, S1, acc, back s1 u1, wk.keep M S H' M1 S1 H1 hok u1 s1.con (comp_chk g1), ra.up u1, g1⟩
      | true =>
        rw [if_pos rfl, bind_assoc] at g1
        refine iteT (seqG s1 g1 fun M2 H2 y v S2 s2 u2 r2 g2 => ?_)
        rw [bind_assoc] at g2
        have g3 : GlG K W RelDs E0 M2 H2 ((RF.compC chk t e ρ (items.drop (i + 1)) S2).bind fun rest S' => .ok ((acc ++ [y]) ++ rest) S') Q := by
          have : (fun (rest : List D) (S' : Store) => RF.R.ok ((acc ++ [y]) ++ rest) S') = fun rest S' => (RF.R.ok (y :: rest) S').bind fun rest S' => .ok (acc ++ rest) S' := by
            funext rest S'
            simp
          rw [this]
          exact g2
        refine ⟨rfl, hlt, by simp; omega, M2, S2, acc ++ [y], back s2 (u1.trans u2), wk.keep M S H' M2 S2 H2 hok (u1.trans u2) s2.con (comp_chk g3), (ra.up (u1.trans u2)).append (.cons r2 .nil), g3⟩
    · have ei : i = items.length := by omega
      subst ei
      refine .inl ⟨wk.stop _ M S H sm.con hok (Nat.le_refl _), by omega, ?_⟩
      rw [List.drop_length] at g
      unfold RF.compC at g
      rw [if_pos hc, RF.R.bind_ok, List.append_nil] at g
      exact GlG.now g sm.con ra
end
end L2
end

section
set_option Elab.async false
set_option linter.all false
set_option maxRecDepth 100000
set_option maxHeartbeats 1000000
/-! # Comprehensions -/
namespace L2
open PySem PySem.Spec PyProof.Rows
open RF (D O Store Tab)
structure KitE (kt : RF.Kit) (T : Tab) (cl : RF.Calls) (k : Nat) : Prop where
  e : ∀ {X : Cx} {W : Adr} {Γ : RF.Gm} {E : XK}, W.T = T → CxK X W Γ E cl k → ∀ e, PE X e (tE X.K W E (kt.e Γ e))
  t : ∀ {X : Cx} {W : Adr} {Γ : RF.Gm} {E : XK}, W.T = T → CxK X W Γ E cl k → ∀ e, PT X e (tT X.K W E (kt.t Γ e))
  w : ∀ {X : Cx} {W : Adr} {Γ : RF.Gm} {E : XK}, W.T = T → CxK X W Γ E cl k → ∀ op vs p, PW X (.BoolOp op vs p) (tT X.K W E (kt.t Γ (.BoolOp op vs p)))
  c1 : ∀ {X : Cx} {W : Adr} {Γ : RF.Gm} {E : XK}, W.T = T → CxK X W Γ E cl k → ∀ a op b p, PT X (.Compare a [op] [b] p) (tT X.K W E (RF.testB (kt.e Γ (.Compare a [op] [b] p))))
  c2 : ∀ {X : Cx} {W : Adr} {Γ : RF.Gm} {E : XK}, W.T = T → CxK X W Γ E cl k → ∀ a o1 o2 b c p, PT X (.Compare a [o1, o2] [b, c] p) (tT X.K W E (RF.testB (kt.e Γ (.Compare a [o1, o2] [b, c] p))))
theorem kin_relabel (sc : Scope) (env : Env) : Kin sc (relabel sc env) := by
  intro x
  show (sc.names.map fun (n, k) => if (k == .free && env.scope.kind == .function && env.kindOf n == some .cell) then (n, .cell) else (n, k)).lookup x = sc.names.lookup x ∨ _ ∧ (sc.names.map fun (n, k) => if (k == .free && env.scope.kind == .function && env.kindOf n == some .cell) then (n, .cell) else (n, k)).lookup x = some .cell
  generalize sc.names = l
  induction l with
  | nil => exact .inl rfl
  | cons p r ih =>
    obtain ⟨n, kk⟩ := p
    simp only [List.map_cons]
    by_cases hd : (kk == NameKind.free && env.scope.kind == .function && env.kindOf n == some .cell) = true
    · rw [if_pos hd]
      simp only [List.lookup_cons]
      cases hx : x == n with
      | true =>
        simp only [Bool.and_eq_true] at hd
        exact .inr ⟨by rw [eq_of_beq hd.1.1], rfl⟩
      | false => exact ih
    · rw [if_neg hd]
      simp only [List.lookup_cons]
      cases hx : x == n with
      | true => exact .inl rfl
      | false => exact ih
theorem comp_lcOk {sc o o' : Scope} {x : Str} {M : List Str} (h : RF.compOk sc o x M = true) (k : Kin o o') : lcOk sc o' x M = true := by
  unfold RF.compOk at h
  unfold lcOk
  simp only [Bool.and_eq_true] at h ⊢
  refine ⟨⟨h.1.1, ?_⟩, h.2⟩
  have h5 := h.1.2
  rw [List.all_eq_true] at h5 ⊢
  intro p hp
  have := h5 p hp
  rw [Bool.or_eq_true] at this ⊢
  rcases this with z | z
  · exact .inl z
  · refine .inr ?_
    rcases k p.1 with e | ⟨e1, e2⟩
    · rw [e]; exact z
    · rw [e2]; rfl
theorem nodup_of {l : List Str} (h : RF.nodupB l = true) : l.Nodup := by
  induction l with
  | nil => exact List.nodup_nil
  | cons x xs ih =>
    unfold RF.nodupB at h
    rw [Bool.and_eq_true] at h
    refine List.nodup_cons.mpr ⟨fun hm => ?_, ih h.2⟩
    have : (xs.any fun y => decide (y = x)) = true := List.any_eq_true.mpr ⟨x, hm, decide_eq_true rfl⟩
    rw [this] at h
    cases h.1
theorem shade_at {sc : Scope} {x : Str} {N : List Str} (h : RF.shadeOk sc x N = true) : ∀ (j : Nat) (y : Str), (RF.shade x N)[j]? = some y → (∃ p ∈ sc.names, p.1 = y) → N[j]? = some y := by
  intro j y hj ⟨p, hp, e⟩
  unfold RF.shadeOk at h
  rw [Bool.and_eq_true] at h
  unfold RF.shade at hj
  rw [List.getElem?_map] at hj
  obtain ⟨z, h1, h2⟩ := Option.map_eq_some_iff.mp hj
  split at h2
  · exfalso
    have : (sc.names.any fun p => decide (p.1 = Str.empty)) = true := List.any_eq_true.mpr ⟨p, hp, decide_eq_true (e.trans h2.symm)⟩
    rw [this] at h
    cases h.2
  · rw [h1, h2]
section
variable {X : Cx} {W : Adr} {Γ : RF.Gm} {E : XK} {cl : RF.Calls} {k : Nat} {kt : RF.Kit} {a b c e : Expr} {ca cb cc : RF.C D} {pos : Pos}
theorem CxK.blk (C : CxK X W Γ E cl k) {sc : Scope} {x : Str} (hs : RF.shadeOk sc x Γ.N = true) (Ca : Addr) (s : Shared) (H : Hp) (fp : List Addr) : CxK (blk X sc x (RF.shade x Γ.N) Ca s H fp) W ⟨x :: RF.shade x Γ.N, sc⟩ E0 cl k where
  N := rfl
  nd := by
    unfold RF.shadeOk at hs
    rw [Bool.and_eq_true] at hs
    exact nodup_of hs.1
  kin := kin_relabel sc X.env
  calm := C.calm
  room := C.room
  pass := passX
  top := C.top
theorem Cn.frz {K : PySem.W.Frag} {M : List Addr} {S : Store} {H : Hp} (c : Cn K W M S H) {n : Nat} {a : Addr} {kvs : List (D × D)} {ts : List (List Key × V)} {od : Obj} (hS : S[n]? = some (.dic kvs)) (hM : M[n]? = some a) (h1 : H a = some (.dT ts)) (h2 : Paired (KPair ofKeys M H) kvs ts) :
    Cn K W M (S.set n (.fdc kvs)) (upd H a (.frz od (.dT ts))) := by
  have nt : NoFix (H a) := nofix h1 rfl
  exact c.put hS hM rfl rfl nt ⟨od, ts, upd_same, Paired.up h2 (up_put nt)⟩
theorem Cn.thaw {K : PySem.W.Frag} {M : List Addr} {S : Store} {H : Hp} (c : Cn K W M S H) {n : Nat} {a : Addr} {kvs : List (D × D)} {ts : List (List Key × V)} {od : Obj} (hS : S[n]? = some (.fdc kvs)) (hM : M[n]? = some a) (h1 : H a = some (.frz od (.dT ts))) :
    Cn K W M (S.set n (.dic kvs)) (upd H a (.dT ts)) := by
  have nt : NoTup (H a) := fun xs z => by rw [h1] at z; cases z
  obtain ⟨o, ts', g1, g2⟩ := c.at_ n _ a hS hM
  rw [h1] at g1
  cases g1
  exact c.put0 hS hM rfl rfl nt (fun ob vs z => by rw [h1] at z; cases z) (.inr ⟨ts, upd_same, Paired.up0 g2 (up_put0 nt)⟩)
theorem up_thaw {M M1 : List Addr} {H H1 : Hp} {a : Addr} {od : Obj} {ts : List (List Key × V)} {o : HO} (h0 : H a = some (.dT ts)) (u : Up M (upd H a (.frz od (.dT ts))) M1 H1) : Up M H M1 (upd H1 a (.dT ts)) := by
  refine ⟨⟨u.pre, fun b xs h => ?_⟩, fun b ob w h => ?_⟩
  · have nb : b ≠ a := fun z => by subst z; rw [h0] at h; cases h
    rw [upd_ne nb]
    exact u.tups b xs (by rw [upd_ne nb]; exact h)
  · have nb : b ≠ a := fun z => by subst z; rw [h0] at h; cases h
    rw [upd_ne nb]
    exact u.frzs b ob w (by rw [upd_ne nb]; exact h)
/-! the sources, with the bounds that the heap keeps -/
theorem pi_listZ {tg l : Expr} {tl : TE} (hl : PE X l tl) : PI X tg l (fun σ H R => tl σ H fun x H1 => ∃ a, x = .ref a ∧ (∃ xs, SqL X.K H1 a xs) ∧ ((∀ xs, SqL X.K H1 a xs → xs.length ≤ sizeLine) → R (Itl X.K a) H1)) := by
  intro pins s σ H R I h
  refine thn (hl pins s σ H _ I h) fun v s1 ⟨x, H1, I1, r1, q1⟩ => ?_
  obtain ⟨a, e, ⟨xs, hq⟩, q⟩ := q1
  subst e
  cases r1
  obtain ⟨its, rv, p, hz⟩ := I1.list hq
  refine wpAny_pyIter_list p.isList ?_
  refine ⟨s1.heap.objs.size, [s1.heap.objs.size], _, _, H1, rfl, I1.kept (t' := s1.toks) fun b o e => Heap.get?_push_of_some _ e, turn_list a _, ⟨_, Heap.get?_push_size _ rfl, rfl, rfl⟩, fun b hb => ?_, q fun ys hy => by rw [I1.list_inj hy hq]; exact hz⟩
  have e : b = s1.heap.objs.size := by simpa using hb
  subst e
  exact I1.fpOk (Nat.le_refl _) (I1.hok.fresh (Nat.le_refl _))
theorem pi_tupZ {tg l : Expr} {tl : TE} (hl : PE X l tl) : PI X tg l (fun σ H R => tl σ H fun x H1 => ∃ a, x = .ref a ∧ (∃ xs, SqT X.K H1 a xs) ∧ ((∀ xs, SqT X.K H1 a xs → xs.length ≤ sizeLine) → R (Itt X.K a) H1)) := by
  intro pins s σ H R I h
  refine thn (hl pins s σ H _ I h) fun v s1 ⟨x, H1, I1, r1, q1⟩ => ?_
  obtain ⟨a, e, ⟨xs, hq⟩, q⟩ := q1
  subst e
  cases r1
  obtain ⟨its, rv, p, hz⟩ := I1.tuple hq
  refine wpAny_pyIter_tuple (show s1.heap.IsTuple a its.toArray from p) ?_
  refine ⟨s1.heap.objs.size, [s1.heap.objs.size], _, _, H1, rfl, I1.kept (t' := s1.toks) fun b o e => Heap.get?_push_of_some _ e, turn_tuple a _, ⟨_, Heap.get?_push_size _ rfl, rfl, rfl⟩, fun b hb => ?_, q fun ys hy => by rw [I1.tuple_inj hy hq]; exact hz⟩
  have e : b = s1.heap.objs.size := by simpa using hb
  subst e
  exact I1.fpOk (Nat.le_refl _) (I1.hok.fresh (Nat.le_refl _))
theorem pi_dictZ {tg l : Expr} {tl : TE} (hl : PE X l tl) : PI X tg l (fun σ H R => tl σ H fun x H1 => ∃ d kvs H2, x = .ref d ∧ (H2 = H1 ∨ Ret H1 d H2) ∧ H2 d = some (.dT kvs) ∧ ∀ od, kvs.length ≤ sizeLine → R (Itd d od kvs) (upd H2 d (.frz od (.dT kvs)))) := by
  intro pins s σ H R I h
  refine thn (hl pins s σ H _ I h) fun v s1 ⟨x, H0, I0, r1, q1⟩ => ?_
  obtain ⟨d, kvs, H1, rfl, hr, e, q⟩ := q1
  cases r1
  have I1 : Inv X pins σ H1 s1 := by
    rcases hr with rfl | hr
    · exact I0
    · exact I0.ret hr
  obtain ⟨od, es, ep, h1, h2, h3, h4, h5, h6, h7⟩ := dt_raw I1 (.inl e)
  refine iter_keys h4 h1 h2 h3 ?_
  have I2 : Inv X pins σ H1 { s1 with heap := s1.heap.push { cls := .type "dict_keyiterator", data := .fields #[.ref d, .int 0 0, .int es.size 0, .int ep 0] } } := I1.kept (t' := s1.toks) fun b o e => Heap.get?_push_of_some _ e
  have nd : s1.heap.objs.size ≠ d := fun z => absurd (Heap.lt_size h1) (by rw [← z]; exact Nat.lt_irrefl _)
  refine ⟨s1.heap.objs.size, [s1.heap.objs.size], _, _, _, rfl, I2.freeze e (Heap.get?_push_of_some _ h1), turn_dict _ h3, ⟨_, Heap.get?_push_size _ rfl, rfl, rfl⟩, fun b hb => ?_, q od h6⟩
  have z : b = s1.heap.objs.size := by simpa using hb
  subst z
  exact I1.fpOk (Nat.le_refl _) (by rw [upd_ne nd]; exact I1.hok.fresh (Nat.le_refl _))
theorem keysAt {M : List Addr} {H : Hp} {kvs : List (D × D)} {ts : List (List Key × V)} (h : Paired (KPair ofKeys M H) kvs ts) : ∀ (i : Nat) q, ts[i]? = some q → (kvs.map (·.1))[i]? = some (ofKeys q.1) := by
  induction h with
  | nil => intro i q e; simp at e
  | @cons p r kvs ts hr t ih =>
    intro i q e
    cases i with
    | zero =>
      have e : r = q := by simpa using e
      subst e
      simp [hr.1]
    | succ i => simpa using ih i q (by simpa using e)
/-- the goal of a comprehension over what is walked -/
def LcGoal (X : Cx) (W : Adr) (x : Str) (px : Pos) (it : Expr) (σ : St) (H : Hp) (t : RF.C Bool) (el : RF.C D) (Q R : List V → Hp → Prop) : Prop :=
    (∃ wi, PI X (.Name x px) it wi ∧ wi σ H fun J H1 => LcW J σ (tT X.K W E0 t) (tE X.K W E0 el) Q H1) ∨
    ∃ wi, PI X (.Name x px) it wi ∧ wi σ H fun J H1 => LcW J σ (tT X.K W E0 t) (tE X.K W E0 el) R H1
/-- behind the walk over a dict it is free again -/
def Thaws (X : Cx) (Q R : List V → Hp → Prop) : Prop := ∀ ys H2 a o ts, H2 a = some (.frz o (.dT ts)) → (∀ o u, X.H₀ a ≠ some (.frz o u)) → Q ys (upd H2 a (.dT ts)) → R ys H2
theorem noEx_bind {α β γ : Type} {rel : List Addr → Hp → β → γ → Prop} {K : PySem.W.Frag} {M : List Addr} {H : Hp} {r : RF.R α} {f : α → Store → RF.R β} {Q : γ → Hp → Prop} (hf : ∀ a S, (∃ b S', f a S = .ok b S') ∨ f a S = .bad) (g : GlG K W rel E M H ((RF.noEx r).bind f) Q) : GlG K W rel E0 M H (r.bind f) Q := by
  cases r with
  | ok a S1 =>
    have g : GlG K W rel E M H (f a S1) Q := g
    show GlG K W rel E0 M H (f a S1) Q
    rcases hf a S1 with ⟨b, S', e⟩ | e
    · rw [e] at g ⊢
      exact g
    · rw [e] at g
      exact g.elim
  | ex x p S1 => exact g.elim
  | bad => exact g
theorem dyn_lc (C : CxK X W Γ E cl k) {it : Expr} {cv : RF.C D} {x : Str} {px : Pos} {pins : List (Addr × Obj)} {st : Shared} {σ : St} {H : Hp} {M : List Addr} {S : Store} {ρ : RF.Env} (hl : PE X it (tE X.K W E cv)) (I : Inv X pins σ H st) (sm : Sm X.K W M S H ρ σ) {t : RF.C Bool} {el : RF.C D} {Q R : List V → Hp → Prop} (hR : Thaws X Q R)
    (g : GlG X.K W RelDs E M H ((cv ρ S).bind fun x S1 => RF.compV t el ρ x S1) Q) : LcGoal X W x px it σ H t el Q R := by
  cases ev : cv ρ S with
  | bad => rw [ev] at g; exact g.elim
  | ex y p S1 =>
    rw [ev] at g
    exact .inl ⟨_, pi_listZ hl, tG_ex sm ev g⟩
  | ok y S1 =>
    rw [ev, RF.R.bind_ok] at g
    have lst : ∀ {n : Nat} {xs : List D}, y = .ref n → RF.itemsOf S1 (.ref n) = some xs → GlG X.K W RelDs E M H (RF.noEx (RF.compLst (.ref n) xs t el ρ xs S1)) Q → LcGoal X W x px it σ H t el Q R := fun {n xs} ey hi g0 => by
      subst ey
      have g1 := GlG.noEx g0
      refine .inl ⟨_, pi_listZ hl, tG_ok sm ev fun M1 H1 u s1 u1 r1 => ?_⟩
      obtain ⟨p, rfl, ea⟩ := rel_ref r1
      obtain ⟨vs, h1, h2⟩ := s1.con.items hi ea
      refine ⟨p, rfl, ⟨vs, h1⟩, fun hz => ?_⟩
      exact lc_gen wk_list s1 ⟨ea, hi⟩ (by rw [h2.length]; exact hz vs h1) (g1.up u1)
    cases y with
    | str z =>
      obtain ⟨hz, g⟩ := GlG.guard g
      have g := GlG.noEx g
      refine .inl ⟨_, pi_str hl, tG_ok sm ev fun M1 H1 u s1 u1 r1 => ?_⟩
      cases r1
      exact ⟨z, rfl, lc_gen wk_str s1 trivial (by simpa using hz) (g.up u1)⟩
    | tup xs =>
      have g := GlG.noEx g
      refine .inl ⟨_, pi_tupZ hl, tG_ok sm ev fun M1 H1 u s1 u1 r1 => ?_⟩
      obtain ⟨p, vs, rfl, hp, hv⟩ := rel_tup r1
      refine ⟨p, rfl, ⟨vs, SqT.of hp⟩, fun hz => ?_⟩
      exact lc_gen wk_tup s1 (.tup hp hv) (by rw [hv.length]; exact hz vs (SqT.of hp)) (g.up u1)
    | ref n =>
      unfold RF.compV at g
      dsimp only at g
      split at g
      · rename_i kvs hS
        obtain ⟨hk, g⟩ := GlG.guard g
        refine .inr ⟨_, pi_dictZ hl, tG_ok sm ev fun M1 H1 u s1 u1 r1 => ?_⟩
        obtain ⟨p, rfl, ea⟩ := rel_ref r1
        have g := noEx_bind (fun a S => by split; exact .inl ⟨_, _, rfl⟩; exact .inr rfl) (g.up u1)
        -- the dict as one of tuples
        obtain ⟨H2, ts, hr, c2, u2, e2, h2⟩ : ∃ H2 ts, (H2 = H1 ∨ Ret H1 p H2) ∧ Cn X.K W M1 S1 H2 ∧ Up M1 H1 M1 H2 ∧ H2 p = some (.dT ts) ∧ Paired (KPair ofKeys M1 H2) kvs ts := by
          rcases s1.con.at_ n _ p hS ea with ⟨ks, h1, h2⟩ | ⟨ts, h1, h2⟩
          · have := all_nil (keys_flat h2) hk (fun k => flat_tup_no)
            subst this
            cases h2
            have re : Ret H1 p (upd H1 p (.dT [])) := .inl ⟨h1, rfl⟩
            obtain ⟨c', u'⟩ := s1.con.ret hS ea re
            exact ⟨_, [], .inr re, c', u', upd_same, .nil⟩
          · exact ⟨H1, ts, .inl rfl, s1.con, Up.refl _ _, h1, h2⟩
        refine ⟨p, ts, H2, rfl, hr, e2, fun od hz => ?_⟩
        have n0 : ∀ o u, X.H₀ p ≠ some (.frz o u) := fun o u z => by
          have := u2.frzs _ _ _ (u1.frzs _ _ _ (I.base.frzs p o u z))
          rw [e2] at this
          cases this
        have nt : NoFix (H2 p) := nofix e2 rfl
        have c3 : Cn X.K W M1 (S1.set n (.fdc kvs)) (upd H2 p (.frz od (.dT ts))) := c2.frz hS ea e2 h2
        have u3 : Up M1 H2 M1 (upd H2 p (.frz od (.dT ts))) := up_put nt
        have s3 : Sm X.K W M1 (S1.set n (.fdc kvs)) (upd H2 p (.frz od (.dT ts))) ρ σ := s1.to c3 (u2.trans u3)
        have hlen : kvs.length = ts.length := Paired.length h2
        refine lc_gen (wk_dict hlen (keysAt h2)) s3 upd_same (by simpa [hlen] using hz) ?_
        have g3 : GlG X.K W RelDs E0 M1 H1 ((RF.compC (fun _ => true) t el ρ (kvs.map (·.1)) (S1.set n (.fdc kvs))).bind fun ys S2 => match S2[n]? with | some (.fdc kvs') => .ok ys (S2.set n (.dic kvs')) | _ => .bad) Q := g
        -- behind it the dict is free again
        cases er : RF.compC (fun _ => true) t el ρ (kvs.map (·.1)) (S1.set n (.fdc kvs)) with
        | bad => rw [er] at g3; exact g3.elim
        | ex y q S4 => rw [er] at g3; exact ⟨g3.1, fun M' H' c u => g3.2 M' H' c (u2.trans (u3.trans u))⟩
        | ok ys S4 =>
          rw [er, RF.R.bind_ok] at g3
          intro M4 H4 vs c4 u4 r4
          have e4 : H4 p = some (.frz od (.dT ts)) := u4.frzs _ _ _ upd_same
          refine hR vs H4 p od ts e4 n0 ?_
          split at g3
          · rename_i kvs' hS4
            refine GlG.at_ g3 (c4.thaw hS4 (pre_get u4.pre ea) e4) (u2.trans (up_thaw (o := .dT ts) e2 u4)) (r4.up0 (up_put0 fun xs z => by rw [e4] at z; cases z))
          · exact g3.elim
      · rename_i xs hS
        exact lst rfl (by unfold RF.itemsOf; dsimp only; rw [hS]) g
      · rename_i xs hS
        exact lst rfl (by unfold RF.itemsOf; dsimp only; rw [hS]) g
      · exact g.elim
    | _ => exact g.elim
theorem src_lc (C : CxK X W Γ E cl k) (KO : KitE kt W.T cl k) {it : Expr} {src : RF.Src} {x : Str} {px : Pos} {pins : List (Addr × Obj)} {st : Shared} {σ : St} {H : Hp} {M : List Addr} {S : Store} {ρ : RF.Env} (hs : RF.srcOf W.T kt Γ it = some src) (I : Inv X pins σ H st) (sm : Sm X.K W M S H ρ σ) {t : RF.C Bool} {el : RF.C D} {Q R : List V → Hp → Prop} (hR : Thaws X Q R)
    (g : GlG X.K W RelDs E M H (RF.compI src t el ρ S) Q) : LcGoal X W x px it σ H t el Q R ∧ ∀ v, foldedSetIterable it X.env v = pure v := by
  have dyn : ∀ {it : Expr} {src : RF.Src}, (if RF.noSet it = true then some (RF.Src.dyn (kt.e Γ it)) else none) = some src → GlG X.K W RelDs E M H (RF.compI src t el ρ S) Q → LcGoal X W x px it σ H t el Q R ∧ ∀ v, foldedSetIterable it X.env v = pure v := fun {it src} h g => by
    split at h
    · rename_i hn
      cases h
      exact ⟨dyn_lc C (KO.e rfl C it) I sm hR g, fun v => by cases it <;> first | rfl | (simp [RF.noSet] at hn)⟩
    · cases h
  unfold RF.srcOf at hs
  split at hs
  · rename_i r pr a pc
    split at hs
    · rename_i hr
      obtain ⟨rfl, hg, hp⟩ := hr
      cases hs
      refine ⟨?_, fun v => rfl⟩
      have ha := KO.e rfl C a
      have args : PA X [a] (tCons (tE X.K W E (kt.e Γ a)) tNil) := pa_cons ha pa_nil (star_plain hp)
      have hPI : PI X (.Name x px) (.Call (.Name "range" pr) [a] [] pc) (iRng1 (tCons (tE X.K W E (kt.e Γ a)) tNil)) := pi_range1 (C.gl hg).1 (C.top.blt _ (by simp [bNames])) args (by rw [star_plain hp]; rfl)
      refine .inl ⟨_, hPI, ?_⟩
      have g : GlG X.K W RelDs E M H ((kt.e Γ a ρ S).bind fun x S1 => match x with | .int j => RF.guardR (RF.rangeOk j && decide (j.toNat ≤ sizeLine)) (RF.noEx (RF.compL t el ρ (RF.rangeL 0 j.toNat) S1)) | _ => .bad) Q := g
      refine seqG sm g fun M1 H1 d u S1 s1 u1 r1 g1 => ?_
      cases d with
      | int j =>
        obtain ⟨hz, g1⟩ := GlG.guard g1
        have g1 := GlG.noEx g1
        unfold RF.rangeOk at hz
        simp only [Bool.and_eq_true, decide_eq_true_eq] at hz
        cases r1
        exact ⟨j, rfl, hz.1.1, hz.1.2, lc_gen wk_range s1 trivial (by rw [rangeL_len]; exact hz.2) g1⟩
      | _ => exact g1.elim
    · exact dyn hs g
  · exact dyn hs g
/-- a list that is made and no one's yet -/
def tL (K : PySem.W.Frag) (W : Adr) (E : XK) (c : RF.C (List D)) : TE := fun σ H Q => tG K W RelDs E c σ H fun ys H2 => ∀ p, H2 p = none → Q (.ref p) (upd H2 p (.lst ys))
theorem upd_comm {H : Hp} {a b : Addr} {x y : HO} (h : a ≠ b) : upd (upd H a x) b y = upd (upd H b y) a x := by
  funext c
  unfold upd
  by_cases h1 : c = a <;> by_cases h2 : c = b
  · exact absurd (h1.symm.trans h2) h
  · subst h1; simp [h2]
  · subst h2; simp [h1]
  · simp [h1, h2]
/-- the pieces of a comprehension, by the text -/
theorem comp_parts {T : Tab} {e : Expr} {c : RF.C (List D)} (h : RF.compG T kt Γ e = some c) : ∃ elt x px it ifs sc p src t, e = .ListComp elt [⟨.Name x px, it, ifs, 0⟩] sc p ∧ RF.compOk sc Γ.sc x (RF.shade x Γ.N) = true ∧ RF.shadeOk sc x Γ.N = true ∧ RF.srcOf T kt Γ it = some src ∧
    c = RF.compI src t (kt.e ⟨x :: RF.shade x Γ.N, sc⟩ elt) ∧ ((ifs = [] ∧ t = RF.always) ∨ ∃ q, ifs = [q] ∧ t = kt.t ⟨x :: RF.shade x Γ.N, sc⟩ q) := by
  unfold RF.compG at h
  split at h
  · rename_i elt x px it ifs sc p
    split at h
    · rename_i hc
      split at h
      · rename_i src hs
        split at h
        · cases h; exact ⟨elt, x, px, it, _, sc, p, src, _, rfl, hc.1, hc.2, hs, rfl, .inl ⟨rfl, rfl⟩⟩
        · rename_i q; cases h; exact ⟨elt, x, px, it, _, sc, p, src, _, rfl, hc.1, hc.2, hs, rfl, .inr ⟨q, rfl, rfl⟩⟩
        · cases h
      · cases h
    · cases h
  · cases h
theorem comp_pe (C : CxK X W Γ E cl k) (KO : KitE kt W.T cl k) {e : Expr} {c : RF.C (List D)} (h : RF.compG W.T kt Γ e = some c) : PE X e (tL X.K W E c) := by
  obtain ⟨elt, x, px, it, ifs, sc, p, src, t, rfl, hok, hsh, hs, rfl, hif⟩ := comp_parts h
  intro pins st σ H Q I ⟨M, ρ, S, sm, g⟩
  have hR : Thaws X (fun ys H2 => ∀ p, H2 p = none → Q (.ref p) (upd H2 p (.lst ys))) (fun ys H2 => ∀ p, H2 p = none → ∃ d o kvs, upd H2 p (.lst ys) d = some (.frz o (.dT kvs)) ∧ (∀ o u, X.H₀ d ≠ some (.frz o u)) ∧ Q (.ref p) (upd (upd H2 p (.lst ys)) d (.dT kvs))) := by
    intro ys H2 a o ts h1 h2 q p hp
    have np : p ≠ a := fun z => by subst z; rw [h1] at hp; cases hp
    refine ⟨a, o, ts, by rw [upd_ne (Ne.symm np)]; exact h1, h2, ?_⟩
    rw [upd_comm np]
    exact q p (by rw [upd_ne np]; exact hp)
  obtain ⟨goal, fold⟩ := src_lc (x := x) (px := px) C KO hs I sm hR g
  have ok := comp_lcOk hok C.kin
  have hM : ∀ (j : Nat) (y : Str), (RF.shade x Γ.N)[j]? = some y → (∃ p ∈ sc.names, p.1 = y) → X.N[j]? = some y := fun j y h1 h2 => by rw [C.N]; exact shade_at hsh j y h1 h2
  have hlen : (RF.shade x Γ.N).length = X.N.length := by rw [C.N]; unfold RF.shade; simp
  have hnd : (x :: RF.shade x Γ.N).Nodup := (C.blk hsh 0 st H []).nd
  have ht : ∀ C' s H fp, PF (blk X sc x (RF.shade x Γ.N) C' s H fp) ifs (tT X.K W E0 t) := fun C' s H fp => by
    rcases hif with ⟨rfl, rfl⟩ | ⟨q, rfl, rfl⟩
    · intro pins s σ H Q I ⟨M, ρ, S, sm, g⟩
      exact pf_nil pins s σ H Q I (GlG.now g sm.con rfl)
    · exact pf_one (KO.t rfl (C.blk hsh C' s H fp) q)
  have he : ∀ C' s H fp, PE (blk X sc x (RF.shade x Γ.N) C' s H fp) elt (tE X.K W E0 (kt.e ⟨x :: RF.shade x Γ.N, sc⟩ elt)) := fun C' s H fp => KO.e rfl (C.blk hsh C' s H fp) elt
  rcases goal with ⟨wi, hi, hw⟩ | ⟨wi, hi, hw⟩
  · exact pe_lcM (RF.shade x Γ.N) C.calm ok hM hlen hnd hi ht he fold pins st σ H Q I hw
  · exact pe_thaw (pe_lcM (RF.shade x Γ.N) C.calm ok hM hlen hnd hi ht he fold) pins st σ H Q I hw
theorem sn_comp (C : CxK X W Γ E cl k) (KO : KitE kt W.T cl k) {e : Expr} {c : RF.C (List D)} (h : RF.compG W.T kt Γ e = some c) : PE X e (tE X.K W E fun ρ S => (c ρ S).bind fun ys S1 => RF.newO (.lst ys) S1) := by
  refine (comp_pe C KO h).imp fun σ H Q ⟨M, ρ, S, sm, g⟩ => ?_
  exact seqG (c := c) sm g fun M1 H1 ys vs S1 s1 u1 r1 g1 => gl_newL g1 s1.con r1
theorem sn_all (C : CxK X W Γ E cl k) (KO : KitE kt W.T cl k) {e : Expr} {c : RF.C (List D)} {pf : Pos} (h : RF.compG W.T kt Γ e = some c) (hp : RF.plainE e = true) (hg : RF.isGl Γ "all" = true) : PE X (.Call (.Name "all" pf) [e] [] pos) (tE X.K W E (RF.allE c)) := by
  obtain ⟨g1, g2⟩ := C.gl hg
  refine (pe_callB (call_allL C.calm) g1 (C.top.blt _ (by simp [bNames])) boot_all (pa_cons (comp_pe C KO h) pa_nil (star_plain hp)) (by decide +kernel) g2 (star_plain hp) (star_none rfl)).imp fun σ H Q ⟨M, ρ, S, sm, g⟩ => ?_
  refine seqG (c := c) sm g fun M1 H1 ys vs S1 s1 u1 r1 g1 p hp => ?_
  split at g1
  · rename_i bs hb
    refine ⟨p, bs, rfl, ?_, GlG.at_ g1 (s1.con.fresh hp) (up_fresh hp) (.bl _)⟩
    rw [← bools_rel r1 hb]
    exact SqL.of upd_same
  · exact g1.elim
theorem sn_tuple (C : CxK X W Γ E cl k) (KO : KitE kt W.T cl k) {e : Expr} {c : RF.C (List D)} {pf : Pos} (h : RF.compG W.T kt Γ e = some c) (hp : RF.plainE e = true) (hg : RF.isGl Γ "tuple" = true) : PE X (.Call (.Name "tuple" pf) [e] [] pos) (tE X.K W E (RF.tupleE c)) := by
  obtain ⟨g1, g2⟩ := C.gl hg
  refine (pe_callTy call_tuple_of g1 (C.top.blt _ (by simp [bNames])) boot_tuple (pa_cons (comp_pe C KO h) pa_nil (star_plain hp)) (by decide +kernel) g2 (star_plain hp) (star_none rfl)).imp fun σ H Q ⟨M, ρ, S, sm, g⟩ => ?_
  refine seqG (c := c) sm g fun M1 H1 ys vs S1 s1 u1 r1 g1 p hp => ?_
  refine ⟨p, vs, rfl, .inl ⟨SqL.of upd_same, fun l hl => ?_⟩⟩
  have c2 := (s1.con.fresh (o := .lst vs) hp).fresh (o := .tup vs) hl
  have u2 := (up_fresh (M := M1) (o := .lst vs) hp).trans (up_fresh (o := .tup vs) hl)
  exact GlG.at_ g1 c2 u2 (.tup upd_same (r1.up u2))
end
end L2
end

section
set_option Elab.async false
set_option linter.all false
set_option maxRecDepth 100000
set_option maxHeartbeats 2000000
/-! # Expressions, whole -/
namespace L2
open PySem PySem.Spec PyProof.Rows
open RF (D O Store Tab)
section
variable {X : Cx} {W : Adr} {Γ : RF.Gm} {E : XK} {cl : RF.Calls} {k : Nat} {kt : RF.Kit}
theorem all_mem {es : List Expr} {f : Expr → RF.C D} (h : ∀ e, PE X e (tE X.K W E (f e))) : ∀ e ∈ es, PE X e (tE X.K W E (f e)) := fun e _ => h e
theorem callG_ok (KO : KitE kt W.T cl k) (C : CxK X W Γ E cl k) (x : Str) (args : List Expr) (pf pos : Pos) : PE X (.Call (.Name x pf) args [] pos) (tE X.K W E (RF.callG W.T cl kt Γ x args)) := by
  have he := fun e => KO.e rfl C e
  unfold RF.callG
  split
  · exact pe_bad
  · rename_i hh
    simp only [not_or, Bool.not_eq_false] at hh
    obtain ⟨hg, hp⟩ := hh
    split
    · rename_i i hi
      split
      · exact pe_bad
      · rename_i hne
        exact sn_call C hi hg (by simpa using hne) (all_mem he) hp
    · split
      · rename_i c hc
        split
        · rename_i i hi
          split
          · rename_i hM
            exact sn_make C hc hi hM hg (all_mem he) hp
          · exact pe_bad
        · exact pe_bad
      · split
        · exact pe_bad
        · split
          · rename_i hx
            subst hx
            split
            · rename_i a t pt
              split
              · rename_i d hd
                split
                · rename_i ht
                  have hpa : RF.plainE a = true := by
                    simp only [List.all_cons, Bool.and_eq_true] at hp
                    exact hp.1
                  exact sn_isi C hg ht.1 hd (he a) hpa
                · exact pe_bad
              · exact pe_bad
            · exact pe_bad
          · split
            · rename_i a
              have hpa : RF.plainE a = true := by simpa using hp
              have gen : PE X (.Call (.Name x pf) [a] [] pos) (tE X.K W E (match RF.bOf x 1 with | some b => RF.callE (RF.callB b) [kt.e Γ a] | none => RF.badC)) := by
                split
                · rename_i b hb
                  exact sn_builtin (es := [a]) (f := kt.e Γ) C hb hg (all_mem he) hp
                · exact pe_bad
              split
              · rename_i hx
                subst hx
                exact sn_len C hg (he a) hpa
              · split
                · rename_i c hc
                  split
                  · rename_i hx
                    subst hx
                    exact sn_all C KO hc hpa hg
                  · split
                    · rename_i hx
                      subst hx
                      exact sn_tuple C KO hc hpa hg
                    · exact gen
                · exact gen
            · split
              · rename_i b hb
                exact sn_builtin C hb hg (all_mem he) hp
              · exact pe_bad
theorem stepE_ok (KO : KitE kt W.T cl k) (C : CxK X W Γ E cl k) (e : Expr) : PE X e (tE X.K W E (RF.stepE W.T cl kt Γ e)) := by
  have he := fun e => KO.e rfl C e
  unfold RF.stepE
  split
  · exact sn_con (t := tC .non) pe_non fun _ _ => .non
  · rename_i b _ _; exact sn_con (t := tC (.bl b)) pe_bl fun _ _ => .bl b
  · rename_i i _ _; exact sn_con (t := tC (.int i)) pe_int fun _ _ => .int i
  · rename_i x _ _; exact sn_con (t := tC (.str x)) pe_str fun _ _ => .str x
  · exact sn_name C _
  · rename_i a op b p
    obtain ⟨r, h1, h2⟩ := bin_ok (X := X) (W := W) (E := E) op
    exact sn_bin h1 h2 (he a) (he b)
  · exact sn_not (he _)
  · exact sn_neg (he _)
  · exact pe_one (he _)
  · exact sn_and (he _) (he _)
  · exact sn_or (he _) (he _)
  · exact sn_if (KO.t rfl C _) (he _) (he _)
  · rename_i a op b p
    split
    · rename_i hs
      obtain ⟨r, h1, h2⟩ := cmp_ok (X := X) (W := W) (E := E) C.units op
      exact sn_cmp h1 h2 (he a) (he b) (mark_no hs)
    · exact pe_bad
  · rename_i a o1 o2 b c p
    split
    · rename_i hs
      obtain ⟨r1, h1, h2⟩ := cmp_ok (X := X) (W := W) (E := E) C.units o1
      obtain ⟨r2, h3, h4⟩ := cmp_ok (X := X) (W := W) (E := E) C.units o2
      exact sn_chain h1 h3 h2 h4 (he a) (he b) (he c) hs.2
    · exact pe_bad
  · split
    · rename_i hp; exact sn_tup (all_mem he) hp
    · exact pe_bad
  · split
    · rename_i hp; exact sn_lst (all_mem he) hp
    · exact pe_bad
  · exact sn_dict
  · rename_i a f p
    split
    · rename_i i hi
      split
      · rename_i hb; exact sn_fld C (he a) hi hb
      · exact pe_bad
    · exact pe_bad
  · exact sn_slice (he _) (fun e _ => he e) (fun e _ => he e)
  · split
    · rename_i hs; exact sn_ix C (he _) (he _) hs
    · exact pe_bad
  · split
    · rename_i c hc; exact sn_comp C KO hc
    · exact pe_bad
  · exact callG_ok KO C _ _ _ _
  · split
    · rename_i h; exact sn_meth C (he _) (all_mem he) h.2.1 h.1 h.2.2.1 h.2.2.2
    · exact pe_bad
  · exact pe_bad
theorem testB_cmp1 (KO : KitE kt W.T cl k) (C : CxK X W Γ E cl k) {a b : Expr} {op : CmpOp} {p : Pos} : PT X (.Compare a [op] [b] p) (tT X.K W E (RF.testB (RF.stepE W.T cl kt Γ (.Compare a [op] [b] p)))) := by
  have he := fun e => KO.e rfl C e
  unfold RF.stepE
  dsimp only
  split
  · rename_i hs
    obtain ⟨r, h1, h2⟩ := cmp_ok (X := X) (W := W) (E := E) C.units op
    exact sn_testCmp h1 h2 (he a) (he b) (mark_no hs)
  · intro pins s σ H Q I ⟨M, ρ, S, sm, g⟩
    exact g.elim
theorem testB_cmp2 (KO : KitE kt W.T cl k) (C : CxK X W Γ E cl k) {a b c : Expr} {o1 o2 : CmpOp} {p : Pos} : PT X (.Compare a [o1, o2] [b, c] p) (tT X.K W E (RF.testB (RF.stepE W.T cl kt Γ (.Compare a [o1, o2] [b, c] p)))) := by
  have he := fun e => KO.e rfl C e
  unfold RF.stepE
  dsimp only
  split
  · rename_i hs
    obtain ⟨r1, h1, h2⟩ := cmp_ok (X := X) (W := W) (E := E) C.units o1
    obtain ⟨r2, h3, h4⟩ := cmp_ok (X := X) (W := W) (E := E) C.units o2
    exact sn_testChain h1 h3 h2 h4 (he a) (he b) (he c) hs.2
  · intro pins s σ H Q I ⟨M, ρ, S, sm, g⟩
    exact g.elim
theorem stepT_w (KO : KitE kt W.T cl k) (C : CxK X W Γ E cl k) (op : BoolOp) (vs : List Expr) (p : Pos) : PW X (.BoolOp op vs p) (tT X.K W E (RF.stepT W.T kt Γ (.BoolOp op vs p))) := by
  have ht := fun e => KO.t rfl C e
  have bad : ∀ {e : Expr}, PW X e (tT X.K W E RF.badC) := fun {e} wh pins s σ H Q I h => (tG_bad h).elim
  match vs with
  | [] => cases op <;> exact bad
  | [a] => cases op with
    | And => exact pw_and1 (ht a)
    | Or => exact pw_or1 (ht a)
  | a :: b :: r => cases op with
    | And => exact sn_andT (ht a) (KO.w rfl C .And (b :: r) p)
    | Or => exact sn_orT (ht a) (KO.w rfl C .Or (b :: r) p)
theorem stepT_ok (KO : KitE kt W.T cl k) (C : CxK X W Γ E cl k) (e : Expr) : PT X e (tT X.K W E (RF.stepT W.T kt Γ e)) := by
  have he := fun e => KO.e rfl C e
  have ht := fun e => KO.t rfl C e
  cases e with
  | UnaryOp op a p => cases op with
    | Not => exact sn_notT (ht a)
    | _ => exact pt_bad
  | BoolOp op vs p => exact (stepT_w KO C op vs p).pt
  | IfExp _ _ _ _ => exact pt_bad
  | Compare a ops bs p =>
    match ops, bs with
    | [op], [b] => exact KO.c1 rfl C a op b p
    | [o1, o2], [b, c] => exact KO.c2 rfl C a o1 o2 b c p
    | [], _ => exact pt_bad
    | [_], [] => exact pt_bad
    | [_], _ :: _ :: _ => exact pt_bad
    | [_, _], [] => exact pt_bad
    | [_, _], [_] => exact pt_bad
    | [_, _], _ :: _ :: _ :: _ => exact pt_bad
    | _ :: _ :: _ :: _, _ => exact pt_bad
  | _ => exact sn_test (he _) fun _ => rfl
theorem kitE_ok (T : Tab) (cl : RF.Calls) (k : Nat) : ∀ n, KitE (RF.kit T cl n) T cl k
  | 0 => ⟨fun _ _ _ => pe_bad, fun _ _ _ => pt_bad, fun _ _ _ _ _ => fun wh pins s σ H Q I h => (tG_bad h).elim, fun _ _ _ _ _ _ => fun pins s σ H Q I ⟨M, ρ, S, sm, g⟩ => g.elim, fun _ _ _ _ _ _ _ _ => fun pins s σ H Q I ⟨M, ρ, S, sm, g⟩ => g.elim⟩
  | n + 1 => by
    have KO := kitE_ok T cl k n
    refine ⟨fun {X W Γ E} hT C e => ?_, fun {X W Γ E} hT C e => ?_, fun {X W Γ E} hT C op vs p => ?_, fun {X W Γ E} hT C a op b p => ?_, fun {X W Γ E} hT C a o1 o2 b c p => ?_⟩
    · subst hT; exact stepE_ok KO C e
    · subst hT; exact stepT_ok KO C e
    · subst hT; exact stepT_w KO C op vs p
    · subst hT; exact testB_cmp1 KO C
    · subst hT; exact testB_cmp2 KO C
end
end L2
end

section
set_option Elab.async false
set_option linter.all false
set_option maxRecDepth 100000
set_option maxHeartbeats 2000000
/-! # Statements -/
namespace L2
open PySem PySem.Spec PyProof.Rows
open RF (D O Store Tab)
section
variable {K : PySem.W.Frag} {W : Adr} {M M1 M2 : List Addr} {S S1 S2 : Store} {H H1 H2 : Hp} {ρ : RF.Env} {σ : St} {E : XK}
def GlF (K : PySem.W.Frag) (W : Adr) (E : XK) (M : List Addr) (H : Hp) (r : RF.F) (D : Ends) : Prop := match r with
  | .nx ρ' S' => ∀ M' H' σ', Sm K W M' S' H' ρ' σ' → Up M H M' H' → D.nx σ' H'
  | .bk ρ' S' => ∀ M' H' σ', Sm K W M' S' H' ρ' σ' → Up M H M' H' → D.bk σ' H'
  | .ct ρ' S' => ∀ M' H' σ', Sm K W M' S' H' ρ' σ' → Up M H M' H' → D.ct σ' H'
  | .rt d S' => ∀ M' H' v, Cn K W M' S' H' → Up M H M' H' → RelD M' H' d v → D.rt v H'
  | .ex x p S' => p = [] ∧ ∀ M' H', Cn K W M' S' H' → Up M H M' H' → E (.ref (W.x x)) none H'
  | .bad => False
theorem GlF.up {r : RF.F} {D : Ends} (h : GlF K W E M H r D) (u : Up M H M1 H1) : GlF K W E M1 H1 r D := by
  cases r with
  | nx ρ' S' => exact fun M' H' σ' s u' => h M' H' σ' s (u.trans u')
  | bk ρ' S' => exact fun M' H' σ' s u' => h M' H' σ' s (u.trans u')
  | ct ρ' S' => exact fun M' H' σ' s u' => h M' H' σ' s (u.trans u')
  | rt d S' => exact fun M' H' v c u' => h M' H' v c (u.trans u')
  | ex x p S' => exact ⟨h.1, fun M' H' c u' => h.2 M' H' c (u.trans u')⟩
  | bad => exact h
def tF (K : PySem.W.Frag) (W : Adr) (E : XK) (c : RF.CS) : TS := fun D σ H => ∃ M ρ S, Sm K W M S H ρ σ ∧ GlF K W E M H (c ρ S) D
theorem onR' {α β : Type} {rel : List Addr → Hp → α → β → Prop} {r : RF.R α} {f : α → Store → RF.F} {D : Ends} {Q1 : β → Hp → Prop} (h : GlF K W E M H (RF.onR r f) D)
    (k : ∀ M1 H1 a b S1, Cn K W M1 S1 H1 → Up M H M1 H1 → rel M1 H1 a b → GlF K W E M1 H1 (f a S1) D → Q1 b H1) : GlG K W rel E M H r Q1 := by
  cases r with
  | ok a S1 => exact fun M1 H1 b c1 u1 r1 => k M1 H1 a b S1 c1 u1 r1 (GlF.up h u1)
  | ex x p S1 => exact h
  | bad => exact h
theorem onG {α β : Type} {rel : List Addr → Hp → α → β → Prop} {c : RF.C α} {f : α → Store → RF.F} {D : Ends} {Q1 : β → Hp → Prop} (s : Sm K W M S H ρ σ) (h : GlF K W E M H (RF.onR (c ρ S) f) D)
    (k : ∀ M1 H1 a b S1, Sm K W M1 S1 H1 ρ σ → Up M H M1 H1 → rel M1 H1 a b → GlF K W E M1 H1 (f a S1) D → Q1 b H1) : tG K W rel E c σ H Q1 :=
  ⟨M, ρ, S, s, onR' h fun M1 H1 a b S1 c1 u1 r1 g1 => k M1 H1 a b S1 (s.to c1 u1) u1 r1 g1⟩
theorem GlF.nx {D : Ends} (h : GlF K W E M H (.nx ρ S) D) (s : Sm K W M S H ρ σ) : D.nx σ H := h M H σ s (Up.refl _ _)
end
theorem PS.nox {X : Cx} {st : Stmt} {t : TS} (h : PS X.nox st t) : PS X st t := fun pins s σ H D I hw =>
  wpAny_mono (h pins s σ H D (I.wish _) hw) (fun _ _ q => q.unwish) fun _ _ z => False.elim z
theorem ps_bad {X : Cx} {K : PySem.W.Frag} {W : Adr} {E : XK} {st : Stmt} : PS X st (tF K W E RF.badS) := fun _ _ _ _ _ _ ⟨_, _, _, _, g⟩ => g.elim
structure CxS (X : Cx) (W : Adr) (Γ : RF.Gm) (E : XK) (cl : RF.Calls) (k : Nat) : Prop extends CxK X W Γ E cl k where
  fly : Flies X E
  ex : X.ex = []
  fn : ∀ x, X.fn x = true
  sc : X.env.scope = Γ.sc
  kind : X.env.scope.kind = .function
theorem CxS.nox {X : Cx} {W : Adr} {Γ : RF.Gm} {E : XK} {cl : RF.Calls} {k : Nat} (C : CxS X W Γ E cl k) : CxS X.nox W Γ E0 cl k :=
  ⟨⟨C.N, C.nd, C.kin, C.calm, C.room, passX, C.top⟩, fun _ _ _ _ _ _ _ _ _ _ _ _ _ _ _ _ _ _ z => z.elim, C.ex, C.fn, C.sc, C.kind⟩
section
variable {X : Cx} {W : Adr} {Γ : RF.Gm} {E : XK} {cl : RF.Calls} {k : Nat} {kt : RF.Kit} {a b c e : Expr} {ca cb cc : RF.C D} {pos : Pos}
theorem swaps_no {e : Expr} {t : Option Expr} {l : Nat} {env : Env} (h : RF.isComp e = false) : swapsWith e t l env = pure false := by
  cases e <;> first | rfl | (simp [RF.isComp] at h)
theorem swaps_noName {e : Expr} {t : Expr} {l : Nat} {env : Env} (h : ∀ x p, t ≠ .Name x p) : swapsWith e (some t) l env = pure false := by
  cases e <;> first | rfl | (cases t <;> first | rfl | exact absurd rfl (h _ _))
theorem ss_pass : PS X (.Pass pos) (tF X.K W E RF.passS) := ps_pass.imp fun D σ H ⟨M, ρ, S, s, g⟩ => g.nx s
theorem ss_break : PS X (.Break pos) (tF X.K W E RF.breakS) := ps_break.imp fun D σ H ⟨M, ρ, S, s, g⟩ => g M H σ s (Up.refl _ _)
theorem ss_cont : PS X (.Continue pos) (tF X.K W E RF.contS) := ps_continue.imp fun D σ H ⟨M, ρ, S, s, g⟩ => g M H σ s (Up.refl _ _)
theorem ss_expr (he : PE X e (tE X.K W E ca)) (hc : RF.isComp e = false) : PS X (.Expr e pos) (tF X.K W E (RF.exprS ca)) :=
  (ps_expr he (swaps_no hc)).imp fun D σ H ⟨M, ρ, S, s, g⟩ => onG s g fun M1 H1 a b S1 s1 u1 r1 g1 => GlF.nx g1 s1
theorem ss_ret (he : PE X e (tE X.K W E ca)) : PS X (.Return (some e) pos) (tF X.K W E (RF.retS ca)) :=
  (ps_ret he).imp fun D σ H ⟨M, ρ, S, s, g⟩ => onG s g fun M1 H1 a b S1 s1 u1 r1 g1 => g1 M1 H1 b s1.con (Up.refl _ _) r1
theorem ss_retN : PS X (.Return none pos) (tF X.K W E (RF.retS (RF.cE .non))) :=
  ps_retN.imp fun D σ H ⟨M, ρ, S, s, g⟩ => g M H .non s.con (Up.refl _ _) .non
theorem sss {f : Stmt → RF.CS} : ∀ {ss : List Stmt}, (∀ s ∈ ss, PS X s (tF X.K W E (f s))) → PSs X ss (tF X.K W E (RF.seqS (ss.map f)))
  | [], _ => pss_nil.imp fun D σ H ⟨M, ρ, S, s, g⟩ => g.nx s
  | st :: ss, h => by
    refine (pss_cons (h st List.mem_cons_self) (sss fun s hs => h s (List.mem_cons_of_mem _ hs))).imp fun D σ H ⟨M, ρ, S, s, g⟩ => ?_
    have g : GlF X.K W E M H ((f st ρ S).then (RF.seqS (ss.map f))) D := g
    refine ⟨M, ρ, S, s, ?_⟩
    cases e : f st ρ S with
    | nx ρ' S' =>
      rw [e, RF.F.then_nx] at g
      exact fun M' H' σ' s' u' => ⟨M', ρ', S', s', GlF.up g u'⟩
    | rt d S' => rw [e] at g; exact g
    | bk ρ' S' => rw [e] at g; exact g
    | ct ρ' S' => rw [e] at g; exact g
    | ex x p S' => rw [e] at g; exact g
    | bad => rw [e] at g; exact g
theorem ss_if {ct : RF.C Bool} {A B : List Stmt} {ta tb : RF.CS} (hc : PT X c (tT X.K W E ct)) (ha : PSs X A (tF X.K W E ta)) (hb : PSs X B (tF X.K W E tb)) : PS X (.If c A B pos) (tF X.K W E (RF.ifS ct ta tb)) := by
  refine (ps_if hc ha hb).imp fun D σ H ⟨M, ρ, S, s, g⟩ => onG s g fun M1 H1 x y S1 s1 u1 r1 g1 => ?_
  subst r1
  cases x with
  | true => exact iteT ⟨M1, ρ, S1, s1, g1⟩
  | false => exact iteF ⟨M1, ρ, S1, s1, g1⟩
theorem slot_ok (C : CxS X W Γ E cl k) {x : Str} {i : Nat} (h : RF.slot Γ x = some i) : X.N[i]? = some x ∧ Loc X.env.scope x := by
  unfold RF.slot at h
  split at h
  · rename_i hk
    refine ⟨by rw [C.N]; exact ixOf_get h, ?_⟩
    rw [C.sc]
    rw [Bool.or_eq_true] at hk
    rcases hk with z | z
    · exact .inl (eq_of_beq z)
    · exact .inr (eq_of_beq z)
  · cases h
theorem Sm.set {K : PySem.W.Frag} {M : List Addr} {S : Store} {H : Hp} {ρ : RF.Env} {σ : St} (s : Sm K W M S H ρ σ) {i : Nat} {d : D} {v : V} (r : RelD M H d v) : Sm K W M S H (ρ.set i (some d)) (σ.set i (some v)) :=
  ⟨s.con, s.env.set r (Nat.le_of_eq s.len), by simp [s.len]⟩
theorem ss_set (C : CxS X W Γ E cl k) {x : Str} {i : Nat} {px : Pos} (hi : RF.slot Γ x = some i) (he : PE X e (tE X.K W E ca)) (hs : swapsWith e (some (.Name x px)) pos.line X.env = pure false) : PS X (.Assign [.Name x px] e pos) (tF X.K W E (RF.setS i ca)) := by
  obtain ⟨h1, h2⟩ := slot_ok C hi
  exact (ps_set C.nd h1 h2 he hs (.inl (C.fn x))).imp fun D σ H ⟨M, ρ, S, s, g⟩ => onG s g fun M1 H1 a b S1 s1 u1 r1 g1 => GlF.nx g1 (s1.set r1)
end
end L2
end

section
set_option Elab.async false
set_option linter.all false
set_option maxRecDepth 100000
set_option maxHeartbeats 2000000
/-! # Statements: stores -/
namespace L2
open PySem PySem.Spec PyProof.Rows
open RF (D O Store Tab)
section
variable {X : Cx} {W : Adr} {Γ : RF.Gm} {E : XK} {cl : RF.Calls} {k : Nat} {kt : RF.Kit} {a b c e : Expr} {ca cb cc : RF.C D} {pos : Pos}
/-- y = [..] -/
theorem ss_comp (C : CxS X W Γ E cl k) (KO : KitE kt W.T cl k) {y : Str} {i : Nat} {py : Pos} {cL : RF.C (List D)} (hi : RF.slot Γ y = some i) (h : RF.compG W.T kt Γ e = some cL) :
    PS X (.Assign [.Name y py] e pos) (tF X.K W E (RF.setS i fun ρ S => (cL ρ S).bind fun ys S1 => RF.newO (.lst ys) S1)) := by
  obtain ⟨h1, h2⟩ := slot_ok C hi
  obtain ⟨elt, x, px, it, ifs, sc, p, src, t, rfl, hok, hsh, hs, rfl, hif⟩ := comp_parts h
  have sw : ∃ bb : Bool, swapsWith (.ListComp elt [⟨.Name x px, it, ifs, 0⟩] sc p) (some (.Name y py)) pos.line X.env = pure bb ∧ (bb = true → X.env.kindOf y = some .local) := by
    refine ⟨_, rfl, fun z => ?_⟩
    simp only [Bool.and_eq_true] at z
    exact eq_of_beq z.1.1.2
  obtain ⟨bb, hsw, hloc⟩ := sw
  cases bb with
  | false => exact ss_set C hi (sn_comp C.toCxK KO h) hsw
  | true =>
    have hy : X.env.scope.names.lookup y = some .local := hloc rfl
    intro pins st σ H D I ⟨M, ρ, S, sm, g⟩
    have g2 : GlG X.K W RelDs E M H (RF.compI src t (kt.e ⟨x :: RF.shade x Γ.N, sc⟩ elt) ρ S) (fun ys H2 => ∀ p, H2 p = none → D.nx (σ.set i (some (.ref p))) (upd H2 p (.lst ys))) := by
      have g : GlF X.K W E M H (RF.onR ((RF.compI src t (kt.e ⟨x :: RF.shade x Γ.N, sc⟩ elt) ρ S).bind fun ys S1 => RF.newO (.lst ys) S1) fun d S1 => .nx (ρ.set i (some d)) S1) D := g
      cases ev : RF.compI src t (kt.e ⟨x :: RF.shade x Γ.N, sc⟩ elt) ρ S with
      | bad => rw [ev] at g; exact g
      | ex _ _ _ => rw [ev] at g; exact g
      | ok ys S1 =>
        rw [ev] at g
        intro M1 H1 vs c1 u1 r1 q hq
        have g : GlF X.K W E M H (.nx (ρ.set i (some (.ref S1.length))) (S1 ++ [.lst ys])) D := g
        have s1 := sm.to c1 u1
        have s2 : Sm X.K W (M1 ++ [q]) (S1 ++ [.lst ys]) (upd H1 q (.lst vs)) ρ σ := s1.to (c1.newL hq r1) (up_new hq)
        exact g _ _ _ (s2.set (new_at c1)) (u1.trans (up_new hq))
    have hR : Thaws X (fun ys H2 => ∀ p, H2 p = none → D.nx (σ.set i (some (.ref p))) (upd H2 p (.lst ys))) (fun ys H2 => ∀ p, H2 p = none → ∃ d o kvs, upd H2 p (.lst ys) d = some (.frz o (.dT kvs)) ∧ (∀ o u, X.H₀ d ≠ some (.frz o u)) ∧ D.nx (σ.set i (some (.ref p))) (upd (upd H2 p (.lst ys)) d (.dT kvs))) := by
      intro ys H2 a o ts h1 h2 q p hp
      have np : p ≠ a := fun z => by subst z; rw [h1] at hp; cases hp
      refine ⟨a, o, ts, by rw [upd_ne (Ne.symm np)]; exact h1, h2, ?_⟩
      rw [upd_comm np]
      exact q p (by rw [upd_ne np]; exact hp)
    obtain ⟨goal, fold⟩ := src_lc (x := x) (px := px) C.toCxK KO hs I sm hR g2
    have ok := comp_lcOk hok C.kin
    have hM : ∀ (j : Nat) (y : Str), (RF.shade x Γ.N)[j]? = some y → (∃ p ∈ sc.names, p.1 = y) → X.N[j]? = some y := fun j y h1 h2 => by rw [C.N]; exact shade_at hsh j y h1 h2
    have hlen : (RF.shade x Γ.N).length = X.N.length := by rw [C.N]; unfold RF.shade; simp
    have hnd : (x :: RF.shade x Γ.N).Nodup := (C.toCxK.blk hsh 0 st H []).nd
    have ht : ∀ C' s H fp, PF (blk X sc x (RF.shade x Γ.N) C' s H fp) ifs (tT X.K W E0 t) := fun C' s H fp => by
      rcases hif with ⟨rfl, rfl⟩ | ⟨q, rfl, rfl⟩
      · intro pins s σ H Q I ⟨M, ρ, S, sm, g⟩
        exact pf_nil pins s σ H Q I (GlG.now g sm.con rfl)
      · exact pf_one (KO.t rfl (C.toCxK.blk hsh C' s H fp) q)
    have he : ∀ C' s H fp, PE (blk X sc x (RF.shade x Γ.N) C' s H fp) elt (tE X.K W E0 (kt.e ⟨x :: RF.shade x Γ.N, sc⟩ elt)) := fun C' s H fp => KO.e rfl (C.toCxK.blk hsh C' s H fp) elt
    rcases goal with ⟨wi, hwi, hw⟩ | ⟨wi, hwi, hw⟩
    · exact ps_lcM (RF.shade x Γ.N) C.calm C.nd h1 hy hsw ok hM hlen hnd hwi ht he fold pins st σ H D I hw
    · exact ps_thaw (ps_lcM (RF.shade x Γ.N) C.calm C.nd h1 hy hsw ok hM hlen hnd hwi ht he fold) pins st σ H D I hw
/-! several names -/
theorem sole_no {ts : List Expr} {kk : Nat} {pt : Pos} {e : Expr} {l : Nat} {env : Env} : swapsWithSole [.Tuple ts kk pt] e l env = pure false := by
  show swapsWith e (some (.Tuple ts kk pt)) l env = pure false
  exact swaps_noName fun _ _ z => by cases z
def gOf : List Nat → TGs
  | [] => gNil
  | i :: is => gCons (gName i) (gOf is)
theorem slots_cons {e : Expr} {r : List Expr} {is : List Nat} (h : RF.slots Γ (e :: r) = some is) : ∃ x p i js, e = .Name x p ∧ RF.slot Γ x = some i ∧ RF.slots Γ r = some js ∧ i ∉ js ∧ is = i :: js := by
  unfold RF.slots at h
  split at h
  · rename_i e'; cases e'
  · rename_i x p r' e'
    cases e'
    split at h
    · rename_i i js h1 h2
      split at h
      · cases h
      · rename_i hc
        cases h
        exact ⟨x, p, i, js, rfl, h1, h2, fun z => hc (by simpa using z), rfl⟩
    · cases h
  · cases h
theorem slots_pgs (C : CxS X W Γ E cl k) : ∀ {ts : List Expr} {is : List Nat}, RF.slots Γ ts = some is → PGs X ts (gOf is)
  | [], is, h => by cases h; exact pgs_nil
  | e :: r, is, h => by
    obtain ⟨x, p, i, js, rfl, h1, h2, _, rfl⟩ := slots_cons h
    obtain ⟨g1, g2⟩ := slot_ok C h1
    exact pgs_cons (pg_name C.nd g1 g2 (.inl (C.fn x))) (slots_pgs C h2) rfl
theorem slots_each {env : Env} : ∀ {ts : List Expr} {is : List Nat}, RF.slots Γ ts = some is → (assignEach ts env).length = ts.length ∧ (assignEach ts env).findIdx? (·.1) = none ∧ is.length = ts.length
  | [], is, h => by cases h; exact ⟨rfl, rfl, rfl⟩
  | e :: r, is, h => by
    obtain ⟨x, p, i, js, rfl, h1, h2, _, rfl⟩ := slots_cons h
    obtain ⟨a1, a2, a3⟩ := slots_each (env := env) h2
    refine ⟨?_, ?_, by simp [a3]⟩
    · show (assignEach r env).length + 1 = _
      rw [a1]; rfl
    · show List.findIdx? (·.1) ((false, assign (.Name x p) env) :: assignEach r env) = none
      rw [List.findIdx?_cons]
      simp [a2]
theorem gOf_rd {K : PySem.W.Frag} {M : List Addr} {S : Store} {H : Hp} {Q : St → Hp → Prop} : ∀ {is : List Nat} {ds : List D} {vs : List V} {ρ ρ' : RF.Env} {σ : St}, RF.setL is ds ρ = some ρ' → RelDs M H ds vs → Sm K W M S H ρ σ → (∀ σ', Sm K W M S H ρ' σ' → Q σ' H) → gOf is vs σ H Q
  | [], [], _, _, _, _, h, r, s, q => by
    cases h
    cases r
    exact ⟨rfl, q _ s⟩
  | i :: is, d :: ds, _, _, _, _, h, r, s, q => by
    cases r with
    | cons r1 r2 => exact ⟨_, _, rfl, gOf_rd h r2 (s.set r1) q⟩
  | [], _ :: _, _, _, _, _, h, _, _, _ => by cases h
  | _ :: _, [], _, _, _, _, h, _, _, _ => by cases h
theorem setL_len : ∀ {is : List Nat} {ds : List D} {ρ ρ' : RF.Env}, RF.setL is ds ρ = some ρ' → ds.length = is.length
  | [], [], _, _, _ => rfl
  | i :: is, d :: ds, ρ, ρ', h => by
    have := setL_len (is := is) (ds := ds) (ρ := ρ.set i (some d)) (ρ' := ρ') h
    simp [this]
  | [], _ :: _, _, _, h => by cases h
  | _ :: _, [], _, _, h => by cases h
theorem noPair {ts : List Expr} {kk : Nat} {pt : Pos} {e : Expr} {env : Env} (h : ∀ es k2 p2, e ≠ .Tuple es k2 p2) : swappedStores [.Tuple ts kk pt] e env = pure none := by
  cases e <;> first | rfl | exact absurd rfl (h _ _ _)
theorem ss_tup (C : CxS X W Γ E cl k) {ts : List Expr} {is : List Nat} {kk : Nat} {pt : Pos} (hi : RF.slots Γ ts = some is) (he : PE X e (tE X.K W E ca)) (hw : swappedStores [.Tuple ts kk pt] e X.env = pure none) : PS X (.Assign [.Tuple ts kk pt] e pos) (tF X.K W E (RF.tupS is ca)) := by
  obtain ⟨a1, a2, a3⟩ := slots_each (env := X.env) hi
  refine (ps_asg he (pg_tup C.calm (slots_pgs C hi) rfl a2) sole_no hw rfl).imp fun D σ H ⟨M, ρ, S, s, g⟩ => onG s g fun M1 H1 d v S1 s1 u1 r1 g1 => ?_
  split at g1
  · rename_i ds
    obtain ⟨p, vs, rfl, hp, hv⟩ := rel_tup r1
    split at g1
    · rename_i ρ' hl
      refine ⟨p, vs, rfl, SqT.of hp, ?_, gOf_rd hl hv s1 fun σ' s' => GlF.nx g1 s'⟩
      rw [← hv.length, setL_len hl, a3, a1]
    · exact g1.elim
  · exact g1.elim
/-! a, b = e, f -/
theorem blockK (C : CxS X W Γ E cl k) : (X.env.blockKind != .function) = false := by
  unfold Env.blockKind
  rw [C.kind]
  rfl
theorem plain_any {es : List Expr} (h : es.all RF.plainE = true) : (es.any fun | .Starred .. => true | _ => false) = false := by
  rw [List.any_eq_false]
  intro e he
  have := List.all_eq_true.mp h e he
  cases e <;> first | (simp [RF.plainE] at this; done) | simp
theorem ss_parN (C : CxS X W Γ E cl k) {ts es : List Expr} {is : List Nat} {f : Expr → RF.C D} {kk k2 : Nat} {pt p2 : Pos} (hi : RF.slots Γ ts = some is) (he : ∀ e ∈ es, PE X e (tE X.K W E (f e))) (hp : es.all RF.plainE = true) (hz : es.length ≤ 3) (hw : swappedStores [.Tuple ts kk pt] (.Tuple es k2 p2) X.env = pure none) :
    PS X (.Assign [.Tuple ts kk pt] (.Tuple es k2 p2) pos) (tF X.K W E (RF.parS is (es.map f))) := by
  obtain ⟨a1, a2, a3⟩ := slots_each (env := X.env) hi
  refine (ps_asg (pe_tup (sn_args he hp)) (pg_tup C.calm (slots_pgs C hi) rfl a2) sole_no hw rfl).imp fun D σ H ⟨M, ρ, S, s, g⟩ => ?_
  have g : GlF X.K W E M H (RF.onR (RF.seqE (es.map f) ρ S) fun ds S1 => match RF.setL is ds ρ with | some ρ' => .nx ρ' S1 | none => .bad) D := g
  refine ⟨M, ρ, S, s, ?_⟩
  cases ev : RF.seqE (es.map f) ρ S with
  | bad => rw [ev] at g; exact g
  | ex _ _ _ => rw [ev] at g; exact g
  | ok ds S1 =>
    rw [ev, RF.onR_ok] at g
    intro M1 H1 vs c1 u1 r1
    have hl := seqE_len ev
    rw [List.length_map] at hl
    refine ⟨by rw [← r1.length, hl]; exact Nat.le_trans hz (by decide), fun p hp => ?_⟩
    split at g
    · rename_i ρ' hl'
      have s2 : Sm X.K W M1 S1 (upd H1 p (.tup vs)) ρ σ := (s.to c1 u1).to (c1.fresh hp) (up_fresh hp)
      refine ⟨p, vs, rfl, SqT.of upd_same, ?_, gOf_rd hl' (r1.up (up_fresh hp)) s2 fun σ' s' => g _ _ _ s' (u1.trans (up_fresh hp))⟩
      rw [← r1.length, setL_len hl', a3, a1]
    · exact g.elim
theorem ss_par2 (C : CxS X W Γ E cl k) {x y : Str} {i j : Nat} {px py pt p2 : Pos} {kk k2 : Nat} {e1 e2 : Expr} {f : Expr → RF.C D} (hi : RF.slot Γ x = some i) (hj : RF.slot Γ y = some j) (hij : i ≠ j) (hx : Γ.sc.names.lookup x = some .local) (hy : Γ.sc.names.lookup y = some .local)
    (he : ∀ e ∈ [e1, e2], PE X e (tE X.K W E (f e))) (hp : [e1, e2].all RF.plainE = true) (hw : swappedStores [.Tuple [.Name x px, .Name y py] kk pt] (.Tuple [e1, e2] k2 p2) X.env = pure (some [x, y])) :
    PS X (.Assign [.Tuple [.Name x px, .Name y py] kk pt] (.Tuple [e1, e2] k2 p2) pos) (tF X.K W E (RF.parS [i, j] ([e1, e2].map f))) := by
  refine (ps_par C.calm C.nd (slot_ok C hi).1 (slot_ok C hj).1 hij (by rw [C.sc]; exact hx) (by rw [C.sc]; exact hy) (sn_args he hp) hw sole_no).imp fun D σ H ⟨M, ρ, S, s, g⟩ => ?_
  refine onG s g fun M1 H1 ds vs S1 s1 u1 r1 g1 => ?_
  match ds, r1, g1 with
  | [d1, d2], .cons r1 (.cons r2 .nil), g1 => exact ⟨_, _, rfl, GlF.nx g1 ((s1.set r1).set r2)⟩
  | [], _, g1 => exact g1.elim
  | [_], _, g1 => exact g1.elim
  | _ :: _ :: _ :: _, _, g1 => exact g1.elim
theorem ss_par3 (C : CxS X W Γ E cl k) {x y z : Str} {i j l : Nat} {px py pz pt p2 : Pos} {kk k2 : Nat} {e1 e2 e3 : Expr} {f : Expr → RF.C D} (hi : RF.slot Γ x = some i) (hj : RF.slot Γ y = some j) (hl : RF.slot Γ z = some l) (hij : i ≠ j) (hil : i ≠ l) (hjl : j ≠ l)
    (hx : Γ.sc.names.lookup x = some .local) (hy : Γ.sc.names.lookup y = some .local) (hz : Γ.sc.names.lookup z = some .local)
    (he : ∀ e ∈ [e1, e2, e3], PE X e (tE X.K W E (f e))) (hp : [e1, e2, e3].all RF.plainE = true) (hw : swappedStores [.Tuple [.Name x px, .Name y py, .Name z pz] kk pt] (.Tuple [e1, e2, e3] k2 p2) X.env = pure (some [x, y, z])) :
    PS X (.Assign [.Tuple [.Name x px, .Name y py, .Name z pz] kk pt] (.Tuple [e1, e2, e3] k2 p2) pos) (tF X.K W E (RF.parS [i, j, l] ([e1, e2, e3].map f))) := by
  refine (ps_par3 C.calm C.nd (slot_ok C hi).1 (slot_ok C hj).1 (slot_ok C hl).1 (by rw [C.sc]; exact hx) (by rw [C.sc]; exact hy) (by rw [C.sc]; exact hz) (sn_args he hp) hw sole_no).imp fun D σ H ⟨M, ρ, S, s, g⟩ => ?_
  refine onG s g fun M1 H1 ds vs S1 s1 u1 r1 g1 => ?_
  match ds, r1, g1 with
  | [d1, d2, d3], .cons (v := v1) r1 (.cons (v := v2) r2 (.cons (v := v3) r3 .nil)), g1 =>
    refine ⟨_, _, _, rfl, ?_⟩
    have e : ((σ.set l (some v3)).set j (some v2)).set i (some v1) = ((σ.set i (some v1)).set j (some v2)).set l (some v3) := by
      rw [List.set_comm _ _ (Ne.symm hjl), List.set_comm _ _ (Ne.symm hil), List.set_comm _ _ (Ne.symm hij)]
    rw [e]
    exact GlF.nx g1 (((s1.set r1).set r2).set r3)
  | [], _, g1 => exact g1.elim
  | [_], _, g1 => exact g1.elim
  | [_, _], _, g1 => exact g1.elim
  | _ :: _ :: _ :: _ :: _, _, g1 => exact g1.elim
end
end L2
end

section
set_option Elab.async false
set_option linter.all false
set_option maxRecDepth 100000
set_option maxHeartbeats 2000000
/-! # Statements: pairs, fields, items, refusals -/
namespace L2
open PySem PySem.Spec PyProof.Rows
open RF (D O Store Tab)
def localsOf (env : Env) (ts : List Expr) : List Str := ts.filterMap fun
    | .Name id pos => if env.kindOf id == some .local && pos.line == ((ts.head?.map (·.pos.line)).getD 0) then some id else none
    | _ => none
theorem pair_gen {ts es : List Expr} {kk k2 : Nat} {pt p2 : Pos} {env : Env} (h2 : (ts.length == 2 || ts.length == 3) = true) (hl : es.length = ts.length) (hb : (env.blockKind != .function) = false) (hp : es.all RF.plainE = true) (hd : (localsOf env ts).eraseDups.length = (localsOf env ts).length) :
    ((localsOf env ts).length ≠ ts.length → swappedStores [.Tuple ts kk pt] (.Tuple es k2 p2) env = pure none) ∧
    (es.all (foldedForSure 8) = true → swappedStores [.Tuple ts kk pt] (.Tuple es k2 p2) env = pure none) ∧
    ((localsOf env ts).length = ts.length → es.all (foldedForSure 8) = false → es.all (constantsAlone 8) = false → swappedStores [.Tuple ts kk pt] (.Tuple es k2 p2) env = pure (some (localsOf env ts))) := by
  have c1 : ((!(ts.length == 2 || ts.length == 3)) || es.length != ts.length || env.blockKind != .function) = false := by rw [h2, hl, hb]; simp
  have c2 := plain_any hp
  have e : swappedStores [.Tuple ts kk pt] (.Tuple es k2 p2) env = (if ((localsOf env ts).length != ts.length || (localsOf env ts).eraseDups.length != (localsOf env ts).length) = true then pure none else
      if es.all (foldedForSure 8) = true then pure none else do
        if es.all (constantsAlone 8) = true then unsupported "assign.tuple-of-constant-expressions:order-of-the-stores"
        return some (localsOf env ts)) := by
    unfold swappedStores
    dsimp only
    simp only [c1, Bool.false_eq_true, if_false]
    rw [if_neg (by
      intro z
      rw [List.any_eq_true] at z
      obtain ⟨e, he, z⟩ := z
      have := List.all_eq_true.mp hp e he
      cases e <;> first | (simp at z; done) | (simp [RF.plainE] at this))]
    rfl
  rw [e]
  refine ⟨fun z => ?_, fun z => ?_, fun z1 z2 z3 => ?_⟩
  · rw [if_pos (by simp [z])]
  · rw [z]
    simp
  · rw [if_neg (by simp [z1, hd]), if_neg (by simp [z2]), if_neg (by simp [z3])]
    first | rfl | skip
section
variable {X : Cx} {W : Adr} {Γ : RF.Gm} {E : XK} {cl : RF.Calls} {k : Nat} {kt : RF.Kit} {a b c e : Expr} {ca cb cc : RF.C D} {pos : Pos}
def locB (env : Env) (l : Nat) : Expr → Bool
  | .Name x p => env.kindOf x == some .local && p.line == l
  | _ => false
def nameOf : Expr → Str
  | .Name x _ => x
  | _ => Str.empty
def localsL (env : Env) (l : Nat) (ts : List Expr) : List Str := ts.filterMap fun
    | .Name id pos => if env.kindOf id == some .local && pos.line == l then some id else none
    | _ => none
theorem slots_mem : ∀ {ts : List Expr} {is : List Nat}, RF.slots Γ ts = some is → ∀ x p, .Name x p ∈ ts → ∃ i ∈ is, RF.slot Γ x = some i
  | [], is, h, x, p, hm => by cases hm
  | e :: r, is, h, x, p, hm => by
    obtain ⟨y, q, i, js, rfl, h1, h2, _, rfl⟩ := slots_cons h
    rcases List.mem_cons.mp hm with z | z
    · cases z; exact ⟨i, List.mem_cons_self, h1⟩
    · obtain ⟨j, hj, e⟩ := slots_mem h2 x p z
      exact ⟨j, List.mem_cons_of_mem _ hj, e⟩
theorem localsL_mem {env : Env} {l : Nat} {ts : List Expr} {x : Str} (h : x ∈ localsL env l ts) : ∃ p, .Name x p ∈ ts := by
  unfold localsL at h
  obtain ⟨e, he, z⟩ := List.mem_filterMap.mp h
  split at z
  · split at z
    · cases z; exact ⟨_, he⟩
    · cases z
  · cases z
theorem localsL_cons {env : Env} {l : Nat} {x : Str} {p : Pos} {r : List Expr} : localsL env l (.Name x p :: r) = if locB env l (.Name x p) = true then x :: localsL env l r else localsL env l r := by
  unfold localsL locB
  rw [List.filterMap_cons]
  dsimp only
  split <;> rename_i h <;> split at h <;> cases h
  · rename_i h2; rw [if_neg h2]
  · rename_i h2; rw [if_pos h2]
theorem localsL_nd {env : Env} {l : Nat} : ∀ {ts : List Expr} {is : List Nat}, RF.slots Γ ts = some is → (localsL env l ts).Nodup
  | [], is, h => List.nodup_nil
  | e :: r, is, h => by
    obtain ⟨y, q, i, js, rfl, h1, h2, hni, rfl⟩ := slots_cons h
    have ih := localsL_nd (env := env) (l := l) h2
    rw [localsL_cons]
    split
    · refine List.nodup_cons.mpr ⟨fun z => ?_, ih⟩
      obtain ⟨p, hp⟩ := localsL_mem z
      obtain ⟨j, hj, e⟩ := slots_mem h2 y p hp
      rw [h1] at e
      cases e
      exact hni hj
    · exact ih
theorem localsL_len {env : Env} {l : Nat} : ∀ {ts : List Expr} {is : List Nat}, RF.slots Γ ts = some is → (localsL env l ts).length ≤ ts.length ∧ ((localsL env l ts).length = ts.length → ts.all (locB env l) = true) ∧ (ts.all (locB env l) = true → localsL env l ts = ts.map nameOf)
  | [], is, h => ⟨Nat.le_refl _, fun _ => rfl, fun _ => rfl⟩
  | e :: r, is, h => by
    obtain ⟨y, q, i, js, rfl, h1, h2, hni, rfl⟩ := slots_cons h
    obtain ⟨a1, a2, a3⟩ := localsL_len (env := env) (l := l) h2
    rw [localsL_cons]
    split
    · rename_i hb
      refine ⟨by simp; exact a1, fun z => ?_, fun z => ?_⟩
      · rw [List.all_cons, hb, a2 (by simpa using z)]; rfl
      · rw [List.all_cons, Bool.and_eq_true] at z
        rw [a3 z.2]; rfl
    · rename_i hb
      refine ⟨by simp only [List.length_cons]; omega, fun z => ?_, fun z => ?_⟩
      · simp only [List.length_cons] at z; omega
      · rw [List.all_cons, Bool.and_eq_true] at z
        exact absurd z.1 hb
theorem eraseDups_nd {l : List Str} (h : l.Nodup) : l.eraseDups = l := by
  induction l with
  | nil => rfl
  | cons x xs ih =>
    obtain ⟨h1, h2⟩ := List.nodup_cons.mp h
    rw [List.eraseDups_cons]
    have : (xs.filter fun b => !b == x) = xs := by
      rw [List.filter_eq_self]
      intro y hy
      have : y ≠ x := fun z => h1 (z ▸ hy)
      simpa using this
    rw [this, ih h2]
theorem swap_all (C : CxS X W Γ E cl k) {ts : List Expr} {l : Nat} : ts.all (RF.isLoc Γ l) = ts.all (locB X.env l) := by
  congr 1
  funext t
  cases t <;> first | rfl | skip
  show (Γ.sc.names.lookup _ == _ && _) = (X.env.scope.names.lookup _ == _ && _)
  rw [C.sc]
theorem ss_par (C : CxS X W Γ E cl k) {ts es : List Expr} {is : List Nat} {f : Expr → RF.C D} {kk k2 : Nat} {pt p2 : Pos} (hi : RF.slots Γ ts = some is) (he : ∀ e ∈ es, PE X e (tE X.K W E (f e))) (hp : es.all RF.plainE = true) (h2 : es.length = 2 ∨ es.length = 3) (hl : es.length = ts.length) (hs : (RF.swapB Γ ts es).isSome = true) :
    PS X (.Assign [.Tuple ts kk pt] (.Tuple es k2 p2) pos) (tF X.K W E (RF.parS is (es.map f))) := by
  have h3 : (ts.length == 2 || ts.length == 3) = true := by rw [← hl]; rcases h2 with z | z <;> simp [z]
  have nd := localsL_nd (env := X.env) (l := ((ts.head?.map (·.pos.line)).getD 0)) hi
  obtain ⟨b1, b2, b3⟩ := localsL_len (env := X.env) (l := ((ts.head?.map (·.pos.line)).getD 0)) hi
  obtain ⟨g1, g2, g3⟩ := pair_gen (kk := kk) (k2 := k2) (pt := pt) (p2 := p2) h3 hl (blockK C) hp (by show (localsL X.env _ ts).eraseDups.length = _; rw [eraseDups_nd nd]; rfl)
  have hz : es.length ≤ 3 := by rcases h2 with z | z <;> omega
  unfold RF.swapB at hs
  rw [swap_all C] at hs
  split at hs
  · rename_i hn
    exact ss_parN C hi he hp hz (g1 fun z => by rw [b2 z] at hn; cases hn)
  · rename_i hn
    have hall : ts.all (locB X.env ((ts.head?.map (·.pos.line)).getD 0)) = true := by simpa using hn
    split at hs
    · rename_i hf
      exact ss_parN C hi he hp hz (g2 hf)
    · rename_i hf
      split at hs
      · cases hs
      · rename_i hcn
        have hnames : localsOf X.env ts = ts.map nameOf := b3 hall
        have hw := g3 (by rw [hnames]; simp) (by simpa using hf) (by simpa using hcn)
        rw [hnames] at hw
        have loc : ∀ (l : Nat) (x : Str) (p : Pos), locB X.env l (.Name x p) = true → Γ.sc.names.lookup x = some .local := fun l x p z => by
          unfold locB at z
          rw [Bool.and_eq_true] at z
          have := eq_of_beq z.1
          have this : X.env.scope.names.lookup x = some .local := this
          rw [C.sc] at this
          exact this
        match ts, es, hl, h2, hi, hall, hw, he, hp with
        | [t1, t2], [e1, e2], _, _, hi, hall, hw, he, hp =>
          obtain ⟨x, p, i, js, rfl, k1, k2', k3, rfl⟩ := slots_cons hi
          obtain ⟨y, q, j, ks, rfl, l1, l2, l3, rfl⟩ := slots_cons k2'
          cases l2
          simp only [List.all_cons, Bool.and_eq_true] at hall
          exact ss_par2 C k1 l1 (fun z => k3 (by simp [z])) (loc _ _ _ hall.1) (loc _ _ _ hall.2.1) he hp hw
        | [t1, t2, t3], [e1, e2, e3], _, _, hi, hall, hw, he, hp =>
          obtain ⟨x, p, i, js, rfl, k1, k2', k3, rfl⟩ := slots_cons hi
          obtain ⟨y, q, j, ks, rfl, l1, l2, l3, rfl⟩ := slots_cons k2'
          obtain ⟨z, r, l, ms, rfl, m1, m2, m3, rfl⟩ := slots_cons l2
          cases m2
          simp only [List.all_cons, Bool.and_eq_true] at hall
          exact ss_par3 C k1 l1 m1 (fun z => k3 (by simp [z])) (fun z => k3 (by simp [z])) (fun z => l3 (by simp [z])) (loc _ _ _ hall.1) (loc _ _ _ hall.2.1) (loc _ _ _ hall.2.2.1) he hp hw
        | [], [], hl, h2, _, _, _, _, _ => rcases h2 with z | z <;> simp at z
        | [_], [_], hl, h2, _, _, _, _, _ => rcases h2 with z | z <;> simp at z
        | _ :: _ :: _ :: _ :: _, _ :: _ :: _ :: _ :: _, hl, h2, _, _, _, _, _ => rcases h2 with z | z <;> simp at z
end
end L2
end

section
set_option Elab.async false
set_option linter.all false
set_option maxRecDepth 100000
set_option maxHeartbeats 2000000
/-! # Statements: fields, items, refusals, loops -/
namespace L2
open PySem PySem.Spec PyProof.Rows
open RF (D O Store Tab)
section
variable {X : Cx} {W : Adr} {Γ : RF.Gm} {E : XK} {cl : RF.Calls} {k : Nat} {kt : RF.Kit} {a b c e : Expr} {ca cb cc : RF.C D} {pos : Pos}
/-! o.f = e -/
theorem put_rel {K : PySem.W.Frag} {M : List Addr} {H : Hp} {W : Adr} {cc : Nat} (nd : W.T.nams.Nodup) {fs : List (Nat × D)} {gs : List (Str × V)} (h : Paired (fun (p : Nat × D) (q : Str × V) => (W.T.nams[p.1]? = some q.1 ∧ W.T.plain cc p.1 = true) ∧ RelD M H p.2 q.2) fs gs) {f : Nat} {x : Str} (hx : W.T.nams[f]? = some x) (hp : W.T.plain cc f = true) {d : D} {v : V} (r : RelD M H d v) :
    Paired (fun (p : Nat × D) (q : Str × V) => (W.T.nams[p.1]? = some q.1 ∧ W.T.plain cc p.1 = true) ∧ RelD M H p.2 q.2) (RF.fputD f d fs) (putF x v gs) := by
  induction h with
  | nil => exact .cons ⟨⟨hx, hp⟩, r⟩ .nil
  | @cons p q fs gs r1 t ih =>
    obtain ⟨pf, pd⟩ := p
    obtain ⟨qf, qv⟩ := q
    unfold RF.fputD putF
    by_cases e : pf = f
    · subst e
      have e2 : qf = x := Option.some.inj (r1.1.1.symm.trans hx)
      subst e2
      rw [if_pos rfl, if_pos rfl]
      exact .cons ⟨r1.1, r⟩ t
    · have e2 : ¬ qf = x := fun z => e (by
        subst z
        exact (List.getElem?_inj (List.getElem?_eq_some_iff.mp r1.1.1).1 nd).mp (r1.1.1.trans hx.symm))
      rw [if_neg e, if_neg e2]
      exact .cons r1 ih
theorem ss_fld (C : CxS X W Γ E cl k) {f : Str} {i : Nat} {pf : Pos} (hi : RF.ixOf W.T.nams f = some i) (ho : PE X a (tE X.K W E ca)) (he : PE X e (tE X.K W E cb)) : PS X (.Assign [.Attribute a f pf] e pos) (tF X.K W E (RF.fldS W.T.plain ca i cb)) := by
  refine (ps_fld ho he (swaps_noName fun _ _ z => by cases z)).imp fun D σ H ⟨M, ρ, S, s, g⟩ => ?_
  refine onG s g fun M1 H1 d v S1 s1 u1 r1 g1 => onG s1 g1 fun M2 H2 x u S2 s2 u2 r2 g2 => ?_
  unfold RF.setFieldD at g2
  split at g2
  · rename_i n
    split at g2
    · rename_i cc fs hS
      unfold RF.guardR at g2
      split at g2
      · rename_i hz
        rw [Bool.and_eq_true, decide_eq_true_eq] at hz
        obtain ⟨p, rfl, ea⟩ := rel_ref r2
        obtain ⟨dx, gs, h1, hc, h2⟩ := s2.con.at_ n _ p hS ea
        have nt : NoFix (H2 p) := nofix h1 rfl
        refine ⟨p, W.c cc, dx, gs, rfl, h1, C.top.clsK cc hc, C.top.plain cc i f hc hz.2 (ixOf_get hi), by rw [← Paired.length h2]; omega, ?_⟩
        have h3 := put_rel (K := X.K) s2.con.nod h2 (ixOf_get hi) hz.2 (r1.up u2)
        have c3 : Cn X.K W M2 (S2.set n (.obj cc (RF.fputD i d fs))) (upd H2 p (.ins (W.c cc) dx (putF f v gs))) := s2.con.put hS ea rfl rfl nt ⟨dx, _, upd_same, hc, Paired.mapP h3 fun _ _ z => ⟨z.1, z.2.up (up_put nt)⟩⟩
        exact GlF.nx (GlF.up g2 (up_put nt)) (s2.to c3 (up_put nt))
      · exact g2.elim
    · exact g2.elim
  · exact g2.elim
/-! o[i] = e -/
theorem mapD_rel {κ : Type} [DecidableEq κ] {f : κ → D} (hf : ∀ a b, f a = f b → a = b) {M : List Addr} {H : Hp} {kvs : List (D × D)} {ks : List (κ × V)} (h : Paired (KPair f M H) kvs ks) {q : κ} {d : D} {v : V} (r : RelD M H d v) :
    Paired (KPair f M H) (kvs.map fun kv => if kv.1 = f q then (kv.1, d) else kv) (ks.map fun kv => if kv.1 = q then (kv.1, v) else kv) ∧ (kvs.any fun kv => decide (kv.1 = f q)) = ks.any fun kv => decide (kv.1 = q) := by
  induction h with
  | nil => exact ⟨.nil, rfl⟩
  | @cons p s kvs ks hr t ih =>
    rw [List.map_cons, List.map_cons, List.any_cons, List.any_cons, ih.2]
    by_cases e : s.1 = q
    · have e' : p.1 = f q := by rw [hr.1, e]
      rw [if_pos e', if_pos e]
      exact ⟨.cons ⟨hr.1, r⟩ ih.1, by simp [e, e']⟩
    · have e' : ¬ p.1 = f q := fun z => e (hf _ _ (hr.1.symm.trans z))
      rw [if_neg e', if_neg e]
      exact ⟨.cons hr ih.1, by simp [e, e']⟩
theorem paired_app {α β : Type} {F : α → β → Prop} : ∀ {l₁ l₂ : List α} {m₁ m₂ : List β}, Paired F l₁ m₁ → Paired F l₂ m₂ → Paired F (l₁ ++ l₂) (m₁ ++ m₂)
  | _, _, _, _, .nil, s => s
  | _, _, _, _, .cons r t, s => .cons r (paired_app t s)
theorem putD_rel {κ : Type} [DecidableEq κ] {f : κ → D} (hf : ∀ a b, f a = f b → a = b) {M : List Addr} {H : Hp} {kvs : List (D × D)} {ks : List (κ × V)} (h : Paired (KPair f M H) kvs ks) {q : κ} {d : D} {v : V} (r : RelD M H d v) : Paired (KPair f M H) (RF.putD kvs (f q) d) (putK ks q v) := by
  obtain ⟨h1, h2⟩ := mapD_rel hf h (q := q) r
  unfold RF.putD putK
  rw [h2]
  split
  · exact h1
  · exact paired_app h (.cons ⟨rfl, r⟩ .nil)
def rSetD : TSet := fun o i v H Q => ∃ a H' H4, o = .ref a ∧ (H' = H ∨ Ret H a H') ∧ DPut H' a i v H4 ∧ Q H4
theorem set_dict (hu : X.A.units + 1 < cLine) : PSet X rSetD := by
  intro pins s σ H o i v ov iv u Q I ro ri rv h
  obtain ⟨a, H', H4, rfl, hr, g, q⟩ := h
  cases ro
  have I' : Inv X pins σ H' s := by
    rcases hr with rfl | hr
    · exact I
    · exact I.ret hr
  exact d_setItem hu I' g ri rv fun s4 I4 => ⟨H4, I4, q⟩
theorem PSet.or {t t' : TSet} (h : PSet X t) (h' : PSet X t') : PSet X (fun o i v H Q => t o i v H Q ∨ t' o i v H Q) := fun pins s σ H o i v ov iv u Q I ro ri rv q => q.elim (h pins s σ H o i v ov iv u Q I ro ri rv) (h' pins s σ H o i v ov iv u Q I ro ri rv)
theorem asg_sub {o i : Expr} {p : Pos} {env : Env} (h : RF.noSlice i = true) (v : Value) : assign (.Subscript o i p) env v = (do
      let ov ← holding [v] (eval o env)
      let iv ← holding [v, ov] (eval i env)
      standAt p
      holding [v, ov, iv] (setItem ov iv v)
      release [v, ov, iv] []) := by
  cases i <;> first | rfl | (simp [RF.noSlice] at h)
theorem ss_sub (C : CxS X W Γ E cl k) {ps : Pos} (ho : PE X a (tE X.K W E ca)) (hi : PE X b (tE X.K W E cb)) (he : PE X e (tE X.K W E cc)) (hs : RF.noSlice b = true) : PS X (.Assign [.Subscript a b ps] e pos) (tF X.K W E (RF.subS ca cb cc)) := by
  refine (ps_asg he (pg_sub ho hi (set_list.or (set_dict C.units1)) (asg_sub hs)) (by show swapsWith e (some (.Subscript a b ps)) pos.line X.env = pure false; exact swaps_noName fun _ _ z => by cases z) (by cases e <;> rfl) rfl).imp fun D σ H ⟨M, ρ, S, s, g⟩ => ?_
  refine onG s g fun M1 H1 d v S1 s1 u1 r1 g1 => onG s1 g1 fun M2 H2 x u S2 s2 u2 r2 g2 => onG s2 g2 fun M3 H3 i w S3 s3 u3 r3 g3 => ?_
  have rx := r2.up u3
  have rd := (r1.up u2).up u3
  unfold RF.setItemD at g3
  split at g3
  · rename_i n
    obtain ⟨p, rfl, ea⟩ := rel_ref rx
    split at g3
    · rename_i xs kk hS
      split at g3
      · rename_i j hj
        cases r3
        obtain ⟨vs, h1, h2⟩ := s3.con.lst hS ea
        have nt : NoFix (H3 p) := nofix h1 rfl
        refine .inl ⟨p, vs, kk, j, rfl, rfl, h1, by rw [← h2.length]; exact hj, ?_⟩
        exact GlF.nx (GlF.up g3 (up_put nt)) (s3.to (s3.con.put hS ea rfl rfl nt ⟨_, upd_same, (h2.set rd j).up (up_put nt)⟩) (up_put nt))
      · exact g3.elim
    · rename_i kvs hS
      unfold RF.guardR at g3
      split at g3
      · rename_i hz
        rw [Bool.and_eq_true, decide_eq_true_eq] at hz
        obtain ⟨H', hr, c', u', gd⟩ := fits_dic s3.con hS ea hz.1 r3
        have rd' := rd.up u'
        rcases gd with ⟨ks, q, q1, q2, rfl, rfl⟩ | ⟨ts, q, bq, q1, q2, rfl, rfl, q3⟩
        · have nt : NoFix (H' p) := nofix q1 rfl
          refine .inr ⟨p, H', _, rfl, hr, DPut.k q1 (by rw [← Paired.length q2]; exact hz.2), ?_⟩
          exact GlF.nx (GlF.up g3 (u'.trans (up_put nt))) (s3.to (c'.put hS ea rfl rfl nt (.inl ⟨_, upd_same, Paired.up (putD_rel (fun _ _ => ofKey_inj) q2 rd') (up_put nt)⟩)) (u'.trans (up_put nt)))
        · have nt : NoFix (H' p) := nofix q1 rfl
          refine .inr ⟨p, H', _, rfl, hr, DPut.t q1 q3 (by rw [← Paired.length q2]; exact hz.2), ?_⟩
          exact GlF.nx (GlF.up g3 (u'.trans (up_put nt))) (s3.to (c'.put hS ea rfl rfl nt (.inr ⟨_, upd_same, Paired.up (putD_rel (fun _ _ => ofKeys_inj) q2 rd') (up_put nt)⟩)) (u'.trans (up_put nt)))
      · exact g3.elim
    · exact g3.elim
  · exact g3.elim
/-! del o[i] -/
def sDDelA (td ty : TE) : TS := fun D σ H => td σ H fun x H1 => ty σ H1 fun y H2 => (∃ a b kvs k v, x = .ref a ∧ y = .ref b ∧ H2 a = some (.dT kvs) ∧ H2 b = some (.tup (k.map kV)) ∧ valV kvs k = some v ∧ D.nx σ (upd H2 a (.dT (dropK kvs k)))) ∨
  ∃ a kvs k, x = .ref a ∧ H2 a = some (.dK kvs) ∧ y = kV k ∧ (valV kvs k).isSome = true ∧ D.nx σ (upd H2 a (.dK (dropK kvs k)))
theorem ps_ddelA {td ty : TE} {o i : Expr} {tpos : Pos} (hu : X.A.units + 2 < cLine) (ho : PE X o td) (hi : PE X i ty) : PS X (.Delete [.Subscript o i tpos] pos) (sDDelA td ty) := by
  intro pins s σ H D I h
  refine wpAny_Delete (wpAny_deleteEach_cons (wpAny_delete_Subscript (thn (ho pins s σ H _ I h) fun u s1 ⟨x, H1, I1, rx, q1⟩ => thn (hi pins s1 σ H1 _ I1 q1) fun iv s2 ⟨y, H2, I2, ry, q⟩ => ?_)))
  rcases q with ⟨a, b, kvs, k, v, rfl, rfl, e, eb, l, q2⟩ | ⟨a, kvs, k, rfl, e, rfl, l, q2⟩
  · obtain rfl : u = Value.ref a := rx
    obtain rfl : iv = Value.ref b := ry
    exact d_delT hu I2 e eb l fun s' I' => wpAny_deleteEach_nil ⟨σ, _, I', q2⟩
  · obtain rfl : u = Value.ref a := rx
    exact d_delItem I2 e ry l fun s' I' => wpAny_deleteEach_nil ⟨σ, _, I', q2⟩
theorem ss_del (C : CxS X W Γ E cl k) {ps : Pos} (ho : PE X a (tE X.K W E ca)) (hi : PE X b (tE X.K W E cb)) : PS X (.Delete [.Subscript a b ps] pos) (tF X.K W E (RF.delS ca cb)) := by
  refine (ps_ddelA C.units2 ho hi).imp fun D σ H ⟨M, ρ, S, s, g⟩ => ?_
  refine onG s g fun M1 H1 x u S1 s1 u1 r1 g1 => onG s1 g1 fun M2 H2 y w S2 s2 u2 r2 g2 => ?_
  have rx := r1.up u2
  unfold RF.delItemD at g2
  split at g2
  · rename_i n
    obtain ⟨p, rfl, ea⟩ := rel_ref rx
    split at g2
    · rename_i kvs hS
      unfold RF.guardR at g2
      split at g2
      · rename_i hz
        rw [Bool.and_eq_true] at hz
        obtain ⟨hf, hv⟩ := hz
        unfold RF.keyFits at hf
        simp only [Bool.or_eq_true, Bool.and_eq_true] at hf
        rcases s2.con.at_ n _ p hS ea with ⟨ks, h1, h2⟩ | ⟨ts, h1, h2⟩
        · rcases hf with ⟨f1, _⟩ | ⟨f1, _⟩
          · obtain ⟨q, rfl⟩ := keyFlat_of f1
            have nt : NoFix (H2 p) := nofix h1 rfl
            rcases val_pair (fun _ _ => ofKey_inj) h2 q with ⟨z1, _⟩ | ⟨d, v, z1, z2, z3⟩
            · rw [z1] at hv; cases hv
            · refine .inr ⟨p, ks, q, rfl, h1, rel_kV r2, by rw [z2]; rfl, ?_⟩
              exact GlF.nx (GlF.up g2 (up_put nt)) (s2.to (s2.con.put hS ea rfl rfl nt (.inl ⟨_, upd_same, Paired.up (val_in (fun _ _ => ofKey_inj) h2 q) (up_put nt)⟩)) (up_put nt))
          · rw [val_cross (keys_flat h2) (tup_flat_no f1)] at hv
            cases hv
        · rcases hf with ⟨f1, _⟩ | ⟨f1, _⟩
          · rw [val_cross (keys_tup h2) (flat_tup_no f1)] at hv
            cases hv
          · obtain ⟨q, rfl⟩ := keyTup_of f1
            have nt : NoFix (H2 p) := nofix h1 rfl
            obtain ⟨bq, vs, rfl, hb1, hs⟩ := rel_tup r2
            rw [rels_kV hs] at hb1
            rcases val_pair (fun _ _ => ofKeys_inj) h2 q with ⟨z1, _⟩ | ⟨d, v, z1, z2, z3⟩
            · rw [z1] at hv; cases hv
            · refine .inl ⟨p, bq, ts, q, v, rfl, rfl, h1, hb1, z2, ?_⟩
              exact GlF.nx (GlF.up g2 (up_put nt)) (s2.to (s2.con.put hS ea rfl rfl nt (.inr ⟨_, upd_same, Paired.up (val_in (fun _ _ => ofKeys_inj) h2 q) (up_put nt)⟩)) (up_put nt))
      · exact g2.elim
    · exact g2.elim
  · exact g2.elim
/-! raise -/
theorem ss_raise (C : CxS X W Γ E cl k) {x : Str} {c : Nat} {f : Expr → RF.C D} {es : List Expr} {np cp : Pos} (hc : RF.ixOf W.T.excs x = some c) (hg : RF.isGl Γ x = true) (h : ∀ e ∈ es, PE X e (tE X.K W E (f e))) (hp : es.all RF.plainE = true) (hne : es.isEmpty = false) (hz : es.length ≤ 100) :
    PS X (.Raise (some (.Call (.Name x np) es [] cp)) none pos) (tF X.K W E (RF.raiseS c (es.map f))) := by
  obtain ⟨g1, g2⟩ := C.gl hg
  obtain ⟨e1, e2⟩ := C.top.exc x c hc
  have args := sn_args h hp
  cases es with
  | nil => cases hne
  | cons e es =>
    simp only [List.all_cons, Bool.and_eq_true] at hp
    refine (ps_raise C.fly C.calm e1 g1 e2 args C.ex g2 (star_plain hp.1) (star_none hp.2)).imp fun D σ H ⟨M, ρ, S, s, g⟩ => ?_
    have g : GlF X.K W E M H (RF.onR (RF.seqE ((e :: es).map f) ρ S) fun _ S1 => .ex c [] S1) D := g
    refine ⟨M, ρ, S, s, ?_⟩
    cases ev : RF.seqE ((e :: es).map f) ρ S with
    | bad => rw [ev] at g; exact g
    | ex _ _ _ => rw [ev] at g; exact g
    | ok ds S1 =>
      rw [ev, RF.onR_ok] at g
      intro M1 H1 vs c1 u1 r1
      have hl := seqE_len ev
      rw [List.length_map] at hl
      exact ⟨by rw [← r1.length, hl]; exact Nat.le_trans hz (by decide), g.2 M1 H1 c1 u1⟩
/-! for -/
/-- what an item is stored to -/
def tgOk (X : Cx) (W : Adr) (is : List Nat) (one : Bool) (g : TG) : Prop := ∀ (M : List Addr) (S : Store) (H : Hp) (ρ ρ1 : RF.Env) (σ : St) (d : D) (x : V) (Q : St → Hp → Prop), Sm X.K W M S H ρ σ → RelD M H d x → RF.tgt is one d ρ = some ρ1 → (∀ σ', Sm X.K W M S H ρ1 σ' → Q σ' H) → g x σ H Q
theorem tg_name {i : Nat} : tgOk X W [i] true (gName i) := fun M S H ρ ρ1 σ d x Q s r h q => by
  cases h
  exact q _ (s.set r)
theorem tg_tup {is : List Nat} {n : Nat} (hn : is.length = n) : tgOk X W is false (gTup X.K n (gOf is)) := fun M S H ρ ρ1 σ d x Q s r h q => by
  unfold RF.tgt at h
  simp only [Bool.false_eq_true, if_false] at h
  split at h
  · obtain ⟨p, vs, rfl, hp, hv⟩ := rel_tup r
    exact ⟨p, vs, rfl, SqT.of hp, by rw [← hv.length, setL_len h, hn], gOf_rd h hv s q⟩
  · cases h
theorem for_chk {K : PySem.W.Frag} {M : List Addr} {S : Store} {H : Hp} {ρ : RF.Env} {chk : Store → Bool} {is : List Nat} {one : Bool} {b : RF.CS} {l : List D} {D : Ends} (g : GlF K W E M H (RF.forC chk is one b l ρ S) D) : chk S = true := by
  cases h : chk S with
  | true => rfl
  | false =>
    exfalso
    cases l with
    | nil => unfold RF.forC at g; rw [h] at g; exact g
    | cons x xs => unfold RF.forC at g; rw [h] at g; exact g
theorem for_gen {J : It} {items : List D} {chk : Store → Bool} {ok : List Addr → Store → Hp → Prop} (wk : Wk X.K W J items chk ok) {is : List Nat} {one : Bool} {b : RF.CS} {gt : TG} (hg : tgOk X W is one gt) {D : Ends} {M : List Addr} {S : Store} {H : Hp} {ρ : RF.Env} {σ : St} (sm : Sm X.K W M S H ρ σ) (hok : ok M S H)
    (g : GlF X.K W E M H (RF.forC chk is one b items ρ S) D) : ∃ Wv : Nat → Nat → St → Hp → Prop, (∃ m, Wv 0 m σ H) ∧ ∀ i m σ H, Wv i m σ H →
      (J.stop i H ∧ D.nx σ H) ∨ (J.go i H ∧ ∃ N : St → Hp → Prop, (∀ σ' H', N σ' H' → ∃ m', m' < m ∧ Wv (i + 1) m' σ' H') ∧ ∀ x H', J.yld i H x H' → gt x σ H' fun σ2 H2 => tF X.K W E b { D with nx := N, ct := N, bk := D.nx } σ2 H2) := by
  refine ⟨fun i m σ H => m = items.length - i ∧ i ≤ items.length ∧ ∃ M S ρ, Sm X.K W M S H ρ σ ∧ ok M S H ∧ GlF X.K W E M H (RF.forC chk is one b (items.drop i) ρ S) D, ⟨items.length, by simp, Nat.zero_le _, M, S, ρ, sm, hok, by rw [List.drop_zero]; exact g⟩, ?_⟩
  rintro i m σ H ⟨rfl, hi, M, S, ρ, sm, hok, g⟩
  have hc := for_chk g
  rcases Nat.lt_or_ge i items.length with hlt | hge
  · obtain ⟨go, yl⟩ := wk.go i M S H sm.con hok hlt
    refine .inr ⟨go, fun σ' H' => items.length - (i + 1) = items.length - (i + 1) ∧ i + 1 ≤ items.length ∧ ∃ M S ρ, Sm X.K W M S H' ρ σ' ∧ ok M S H' ∧ GlF X.K W E M H' (RF.forC chk is one b (items.drop (i + 1)) ρ S) D, fun σ' H' z => ⟨items.length - (i + 1), by omega, z⟩, fun x H' y => ?_⟩
    obtain ⟨rfl, d, hd, rd⟩ := yl x H' y
    have ed : items.drop i = d :: items.drop (i + 1) := by
      rw [List.drop_eq_getElem_cons hlt]
      congr 1
      rw [List.getElem?_eq_getElem hlt] at hd
      exact Option.some.inj hd
    rw [ed] at g
    unfold RF.forC at g
    rw [if_pos hc] at g
    split at g
    · rename_i ρ1 ht
      refine hg M S H' ρ ρ1 σ d x _ sm rd ht fun σ1 s1 => ⟨M, ρ1, S, s1, ?_⟩
      have next : ∀ {ρ2 S2}, GlF X.K W E M H' (RF.forC chk is one b (items.drop (i + 1)) ρ2 S2) D → ∀ M' H2 σ2, Sm X.K W M' S2 H2 ρ2 σ2 → Up M H' M' H2 →
          items.length - (i + 1) = items.length - (i + 1) ∧ i + 1 ≤ items.length ∧ ∃ M S ρ, Sm X.K W M S H2 ρ σ2 ∧ ok M S H2 ∧ GlF X.K W E M H2 (RF.forC chk is one b (items.drop (i + 1)) ρ S) D := fun {ρ2 S2} g M' H2 σ2 s2 u2 =>
        ⟨rfl, hlt, M', S2, ρ2, s2, wk.keep M S H' M' S2 H2 hok u2 s2.con (for_chk g), GlF.up g u2⟩
      cases ev : b ρ1 S with
      | nx ρ2 S2 => rw [ev] at g; exact next g
      | ct ρ2 S2 => rw [ev] at g; exact next g
      | bk ρ2 S2 => rw [ev] at g; exact g
      | rt d S2 => rw [ev] at g; exact g
      | ex y p S2 => rw [ev] at g; exact g
      | bad => rw [ev] at g; exact g
    · exact g.elim
  · have ei : i = items.length := by omega
    subst ei
    refine .inl ⟨wk.stop _ M S H sm.con hok (Nat.le_refl _), ?_⟩
    rw [List.drop_length] at g
    unfold RF.forC at g
    rw [if_pos hc] at g
    exact GlF.nx g sm
end
end L2
end

section
set_option Elab.async false
set_option linter.all false
set_option maxRecDepth 100000
set_option maxHeartbeats 2000000
/-! # Loops, statements whole, defs -/
namespace L2
open PySem PySem.Spec PyProof.Rows
open RF (D O Store Tab)
section
variable {X : Cx} {W : Adr} {Γ : RF.Gm} {E : XK} {cl : RF.Calls} {k : Nat} {kt : RF.Kit} {a b c e : Expr} {ca cb cc : RF.C D} {pos : Pos}
theorem GlF.noEx {K : PySem.W.Frag} {M : List Addr} {H : Hp} {r : RF.F} {D : Ends} (h : GlF K W E M H (RF.noExF r) D) : GlF K W E0 M H r D := by
  cases r with
  | ex x p S' => exact h.elim
  | nx ρ S => exact h
  | bk ρ S => exact h
  | ct ρ S => exact h
  | rt d S => exact h
  | bad => exact h
theorem ss_for (C : CxS X W Γ E cl k) (KO : KitE kt W.T cl k) {tg it : Expr} {body : List Stmt} {src : RF.Src} {is : List Nat} {one : Bool} {bd : RF.CS} {gt : TG} (hs : RF.srcOf W.T kt Γ it = some src) (hG : PG X.nox tg gt) (hgt : tgOk X W is one gt) (hb : PSs X.nox body (tF X.K W E0 bd)) :
    PS X (.For tg it body [] pos) (tF X.K W E (RF.forS src is one bd)) := by
  refine PS.nox ?_
  have CN := C.nox
  intro pins st σ H D I ⟨M, ρ, S, sm, g⟩
  have g : GlF X.K W E0 M H (RF.forG src is one bd ρ S) D := GlF.noEx g
  have dyn : ∀ {it : Expr} {src : RF.Src}, (if RF.noSet it = true then some (RF.Src.dyn (kt.e Γ it)) else none) = some src → GlF X.K W E0 M H (RF.forG src is one bd ρ S) D → wpAny (model X.nox.prog X.nox.w) X.nox.A (exec (.For tg it body [] pos) X.nox.env) (SP X.nox pins D) X.nox.xe st := fun {it src} h g => by
    split at h
    · rename_i hn
      cases h
      have fold : ∀ v, foldedSetIterable it X.nox.env v = pure v := fun v => by cases it <;> first | rfl | (simp [RF.noSet] at hn)
      have hl := KO.e rfl CN.toCxK it
      have g : GlF X.K W E0 M H (RF.onR (kt.e Γ it ρ S) fun x S1 => RF.forV is one bd x ρ S1) D := g
      cases ev : kt.e Γ it ρ S with
      | bad => rw [ev] at g; exact g.elim
      | ex y p S1 =>
        rw [ev] at g
        exact ps_for (X := X.nox) PassesOwn.never C.calm (pi_listZ hl) hG hb fold pins st σ H D I ⟨M, ρ, S, sm, by rw [ev]; exact g⟩
      | ok y S1 =>
        rw [ev, RF.onR_ok] at g
        have lst : ∀ {n : Nat} {xs : List RF.D}, y = .ref n → RF.itemsOf S1 (.ref n) = some xs → GlF X.K W E0 M H (RF.forLst (.ref n) xs is one bd xs ρ S1) D → wpAny (model X.nox.prog X.nox.w) X.nox.A (exec (.For tg it body [] pos) X.nox.env) (SP X.nox pins D) X.nox.xe st := fun {n xs} ey hi g0 => by
          refine ps_for (X := X.nox) PassesOwn.never C.calm (pi_listZ hl) hG hb fold pins st σ H D I (tG_ok sm ev fun M1 H1 u s1 u1 r1 => ?_)
          rw [ey] at r1
          obtain ⟨p, rfl, ea⟩ := rel_ref r1
          obtain ⟨vs, h1, h2⟩ := s1.con.items hi ea
          exact ⟨p, rfl, ⟨vs, h1⟩, fun hz => for_gen (X := X) wk_list hgt s1 ⟨ea, hi⟩ (GlF.up g0 u1)⟩
        cases y with
        | tup xs =>
          refine ps_for (X := X.nox) PassesOwn.never C.calm (pi_tupZ hl) hG hb fold pins st σ H D I (tG_ok sm ev fun M1 H1 u s1 u1 r1 => ?_)
          obtain ⟨p, vs, rfl, hp, hv⟩ := rel_tup r1
          exact ⟨p, rfl, ⟨vs, SqT.of hp⟩, fun hz => for_gen (X := X) wk_tup hgt s1 (.tup hp hv) (GlF.up g u1)⟩
        | ref n =>
          unfold RF.forV at g
          dsimp only at g
          split at g
          · rename_i xs hS
            exact lst rfl (by unfold RF.itemsOf; dsimp only; rw [hS]) g
          · rename_i xs hS
            exact lst rfl (by unfold RF.itemsOf; dsimp only; rw [hS]) g
          · exact g.elim
        | _ => exact g.elim
    · cases h
  unfold RF.srcOf at hs
  split at hs
  · rename_i r pr a pc
    split at hs
    · rename_i hr
      obtain ⟨rfl, hg, hp⟩ := hr
      cases hs
      have ha := KO.e rfl CN.toCxK a
      have args : PA X.nox [a] (tCons (tE X.K W E0 (kt.e Γ a)) tNil) := pa_cons ha pa_nil (star_plain hp)
      have hPI : PI X.nox tg (.Call (.Name "range" pr) [a] [] pc) (iRng1 (tCons (tE X.K W E0 (kt.e Γ a)) tNil)) := pi_range1 (CN.toCxK.gl hg).1 (C.top.blt _ (by simp [bNames])) args (by rw [star_plain hp]; rfl)
      refine ps_for (X := X.nox) PassesOwn.never C.calm hPI hG hb (fun v => rfl) pins st σ H D I ?_
      have g : GlF X.K W E0 M H (RF.onR (kt.e Γ a ρ S) fun x S1 => match x with | .int j => if RF.rangeOk j = true then RF.forL is one bd (RF.rangeL 0 j.toNat) ρ S1 else .bad | _ => .bad) D := g
      refine onG sm g fun M1 H1 d u S1 s1 u1 r1 g1 => ?_
      cases d with
      | int j =>
        dsimp only at g1
        split at g1
        · rename_i hz
          unfold RF.rangeOk at hz
          simp only [Bool.and_eq_true, decide_eq_true_eq] at hz
          cases r1
          exact ⟨j, rfl, hz.1, hz.2, for_gen (X := X) wk_range hgt s1 trivial g1⟩
        · exact g1.elim
      | _ => exact g1.elim
    · exact dyn hs g
  · exact dyn hs g
/-! statements, whole -/
def KitS (kt : RF.Kit) (T : Tab) (cl : RF.Calls) (k : Nat) : Prop := ∀ (X : Cx) (W : Adr) (Γ : RF.Gm) (E : XK), W.T = T → CxS X W Γ E cl k → ∀ s, PS X s (tF X.K W E (kt.s Γ s))
/-- a name is set, by whatever expression -/
def KitA (kt : RF.Kit) (T : Tab) (cl : RF.Calls) (k : Nat) : Prop := ∀ (X : Cx) (W : Adr) (Γ : RF.Gm) (E : XK), W.T = T → CxS X W Γ E cl k → ∀ (x : Str) (px : Pos) (e : Expr) (pos : Pos) (i : Nat), RF.slot Γ x = some i → PS X (.Assign [.Name x px] e pos) (tF X.K W E (RF.setS i (kt.e Γ e)))
theorem ps_setBad {st : Stmt} {i : Nat} : PS X st (tF X.K W E (RF.setS i RF.badC)) := fun _ _ _ _ _ _ ⟨_, _, _, _, g⟩ => g.elim
theorem stepA_ok (KO : KitE kt W.T cl k) (C : CxS X W Γ E cl k) (x : Str) (px : Pos) (e : Expr) (pos : Pos) (i : Nat) (hi : RF.slot Γ x = some i) : PS X (.Assign [.Name x px] e pos) (tF X.K W E (RF.setS i (RF.stepE W.T cl kt Γ e))) := by
  cases hc : RF.isComp e with
  | false => exact ss_set C hi (stepE_ok KO C.toCxK e) (swaps_no hc)
  | true =>
    cases e with
    | ListComp elt gens sc p =>
      show PS X _ (tF X.K W E (RF.setS i (match RF.compG W.T kt Γ (.ListComp elt gens sc p) with | some c => fun ρ S => (c ρ S).bind fun ys S1 => RF.newO (.lst ys) S1 | none => RF.badC)))
      split
      · rename_i c hcg; exact ss_comp C KO hi hcg
      · exact ps_setBad
    | SetComp _ _ _ _ => exact ps_setBad
    | DictComp _ _ _ _ _ => exact ps_setBad
    | _ => simp [RF.isComp] at hc
theorem stepS_ok (KO : KitE kt W.T cl k) (KA : KitA kt W.T cl k) (KS : KitS kt W.T cl k) (C : CxS X W Γ E cl k) (s : Stmt) : PS X s (tF X.K W E (RF.stepS W.T cl kt Γ s)) := by
  have he := fun e => KO.e rfl C.toCxK e
  have hs : ∀ ss : List Stmt, PSs X ss (tF X.K W E (RF.seqS (ss.map (kt.s Γ)))) := fun ss => sss fun s _ => KS _ _ _ _ rfl C s
  have hsN : ∀ ss : List Stmt, PSs X.nox ss (tF X.K W E0 (RF.seqS (ss.map (kt.s Γ)))) := fun ss => sss (X := X.nox) fun s _ => KS _ _ _ _ rfl C.nox s
  unfold RF.stepS
  split
  · exact ss_pass
  · exact ss_break
  · exact ss_cont
  · split
    · exact ps_bad
    · rename_i hc; exact ss_expr (he _) (by simpa using hc)
  · exact ss_ret (he _)
  · exact ss_retN
  · exact ss_if (KO.t rfl C.toCxK _) (hs _) (hs _)
  · rename_i x px e p
    split
    · rename_i i hi
      exact KA _ _ _ _ rfl C x px e p i hi
    · exact ps_bad
  · split
    · rename_i is hi
      split
      · rename_i h; exact ss_par C hi (all_mem he) h.1 h.2.1 h.2.2.1 h.2.2.2
      · exact ps_bad
    · exact ps_bad
  · rename_i hne
    split
    · exact ps_bad
    · split
      · rename_i is hi
        exact ss_tup C hi (he _) (noPair fun es k2 p2 z => hne es k2 p2 z)
      · exact ps_bad
  · split
    · rename_i i hi
      split
      · exact ps_bad
      · exact ss_fld C hi (he _) (he _)
    · exact ps_bad
  · split
    · exact ps_bad
    · rename_i h
      simp only [not_or, Bool.not_eq_true, Bool.not_eq_false] at h
      exact ss_sub C (he _) (he _) (he _) h.2
  · split
    · exact ss_del C (he _) (he _)
    · exact ps_bad
  · split
    · rename_i c hc
      split
      · rename_i h; exact ss_raise C hc h.1 (all_mem he) h.2.1 h.2.2.1 h.2.2.2
      · exact ps_bad
    · exact ps_bad
  · split
    · rename_i i src hi hsrc
      obtain ⟨h1, h2⟩ := slot_ok C.nox hi
      exact ss_for C KO hsrc (pg_name C.nox.nd h1 h2 (.inl (C.fn _))) tg_name (hsN _)
    · exact ps_bad
  · split
    · rename_i is src hi hsrc
      obtain ⟨a1, a2, a3⟩ := slots_each (env := X.nox.env) hi
      exact ss_for C KO hsrc (pg_tup C.calm (slots_pgs C.nox hi) rfl a2) (tg_tup (a3.trans a1.symm)) (hsN _)
    · exact ps_bad
  · exact ps_bad
theorem kitA_ok (T : Tab) (cl : RF.Calls) (k : Nat) : ∀ n, KitA (RF.kit T cl n) T cl k
  | 0 => fun _ _ _ _ _ _ _ _ _ _ _ _ => ps_setBad
  | n + 1 => by
    intro X W Γ E hT C x px e pos i hi
    subst hT
    exact stepA_ok (kitE_ok _ cl k n) C x px e pos i hi
theorem kitS_ok (T : Tab) (cl : RF.Calls) (k : Nat) : ∀ n, KitS (RF.kit T cl n) T cl k
  | 0 => fun _ _ _ _ _ _ _ => ps_bad
  | n + 1 => by
    intro X W Γ E hT C s
    subst hT
    exact stepS_ok (kitE_ok _ cl k n) (kitA_ok _ cl k n) (kitS_ok _ cl k n) C s
end
end L2
end

section
set_option Elab.async false
set_option linter.all false
set_option maxRecDepth 100000
set_option maxHeartbeats 2000000
/-! # Defs, the program -/
namespace L2
open PySem PySem.Spec PyProof.Rows
open RF (D O Store Tab)
section
variable {P : Program} {w : World} {K : PySem.W.Frag} {mg : Str → Option Value} {base : Heap} {W : Adr} {cl : RF.Calls} {k : Nat}
theorem fnOf_parts {st : Stmt} {g : RF.Fn} (h : RF.fnOf st = some g) : defScope st = g.sc ∧ defBody st = g.body := by
  unfold RF.fnOf RF.sfx at h
  cases st with
  | FunctionDef nm a b dl r tp sc ts bd p =>
    dsimp only at h
    split at h
    · cases h; exact ⟨rfl, rfl⟩
    · cases h
  | _ => cases h
theorem start_env {M : List Addr} {H : Hp} {N : List Str} {ds : List D} {vs : List V} (r : RelDs M H ds vs) : REnv M H (RF.startE N ds) (start N vs) ∧ (RF.startE N ds).length = (start N vs).length := by
  have hl := r.length
  refine ⟨fun i d e => ?_, ?_⟩
  · unfold RF.startE at e
    unfold start
    have hi : i < ds.length := by
      rcases Nat.lt_or_ge i ds.length with z | z
      · exact z
      · rw [List.getElem?_append_right (by simpa using z), List.getElem?_replicate] at e
        split at e <;> cases e
    rw [List.getElem?_append_left (by simpa using hi), List.getElem?_map] at e
    obtain ⟨d', e1, e2⟩ := Option.map_eq_some_iff.mp e
    cases e2
    obtain ⟨v, g1, g2⟩ := r.get e1
    exact ⟨v, by rw [List.getElem?_append_left (by rw [List.length_map, ← hl]; exact hi), List.getElem?_map, g1]; rfl, g2⟩
  · unfold RF.startE start
    simp [hl]
theorem run_ok {x qual : Str} {st : Stmt} {f : Addr} {fd : FuncData} {g : RF.Fn} (F : Fun K x qual st f fd) (hf : RF.fnOf st = some g) (S : FnScope g.N g.ps g.sc) (top : TopK P w K mg base W cl k) : FnOk P w K mg base (CXF P w) (k + 2) f fd g.ps (spC K W (RF.runFn W.T cl g) g.ps.length) := by
  obtain ⟨p1, p2⟩ := fnOf_parts hf
  refine F.okX (N := g.N) (by rw [p1]; exact S) (fun vs H Q E h => h.1) (fun cdv A outer s H vs Q E hr h => ?_)
  obtain ⟨hl, M, St, ds, cn, r, gl⟩ := h
  have C : CxS (cxOf (CXF P w) P w K mg base g.N qual (defScope st) f cdv A outer s H E) W ⟨g.N, g.sc⟩ E cl k :=
    ⟨⟨rfl, S.nd, by show Kin g.sc (defScope st); rw [p1]; exact Kin.refl _, rfl, hr, passF flies_cxOf rfl, top⟩, flies_cxOf, rfl, fun _ => rfl, p1, by show (defScope st).kind = _; rw [p1]; exact S.kind⟩
  refine ⟨_, by rw [p2]; exact sss fun s _ => kitS_ok W.T cl k RF.far _ W ⟨g.N, g.sc⟩ E rfl C s, ?_⟩
  unfold RF.runFn at gl
  rw [if_pos (r.length.trans hl)] at gl
  obtain ⟨e1, e2⟩ := start_env (N := g.N) r
  refine ⟨M, RF.startE g.N ds, St, ⟨cn, e1, e2⟩, ?_⟩
  show GlF K W E M H (RF.seqS (g.body.map ((RF.kit W.T cl RF.far).s ⟨g.N, g.sc⟩)) (RF.startE g.N ds) St) _
  cases ev : RF.seqS (g.body.map ((RF.kit W.T cl RF.far).s ⟨g.N, g.sc⟩)) (RF.startE g.N ds) St with
  | nx ρ S' => rw [ev] at gl; exact fun M' H' σ' s' u' => gl M' H' .non s'.con u' .non
  | rt d S' => rw [ev] at gl; exact gl
  | ex y p S' => rw [ev] at gl; exact gl
  | bk ρ S' => rw [ev] at gl; exact gl.elim
  | ct ρ S' => rw [ev] at gl; exact gl.elim
  | bad => rw [ev] at gl; exact gl.elim
/-- what the top must show of the program -/
structure ProgK (P : Program) (w : World) (K : PySem.W.Frag) (mg : Str → Option Value) (base : Heap) (W : Adr) (pr : RF.Prog) : Prop where
  T : W.T = pr.T
  cons : ∀ x d, W.T.cons.lookup x = some d → ∃ u v, mg x = some u ∧ RelV v u ∧ ∀ M H, RelD M H d v
  fn : ∀ x i, RF.ixOf W.T.funs x = some i → ∃ st g f fd, pr.fs[i]? = some st ∧ RF.fnOf st = some g ∧ Fun K x x st f fd ∧ FnScope g.N g.ps g.sc ∧ mg x = some (.ref f) ∧ Binds K fd g.ps []
  clsG : ∀ x c, RF.ixOf W.T.clss x = some c → mg x = some (.ref (W.c c))
  clsK : ∀ c, c < W.T.clss.length → Cls K (W.c c)
  plain : ∀ c f x, c < W.T.clss.length → W.T.plain c f = true → W.T.nams[f]? = some x → NoAttr K (W.c c) x
  mt : ∀ c m x, W.T.isM c m = true → W.T.nams[m]? = some x → ∃ st g f fd q, (pr.ms.find? fun y => y.1 == c && y.2.1 == m) = some (c, m, st) ∧ RF.fnOf st = some g ∧ Fun K x q st f fd ∧ FnScope g.N g.ps g.sc ∧ Meth K (W.c c) x f ∧ Binds K fd g.ps [] ∧ (x = "__init__" → Mk K (W.c c) f) ∧ Cls K (W.c c)
  exc : ∀ x c, RF.ixOf W.T.excs x = some c → ExcC K (W.x c) ∧ mg x = some (.ref (W.x c))
  blt : ∀ x ∈ bNames, mg x = none
theorem fn_bad {f : Addr} {fd : FuncData} {ps : List Str} {h : List D → Store → RF.R D} {n : Nat} (hb : ∀ ds S, h ds S = .bad) : FnOk P w K mg base (CXF P w) n f fd ps (spC K W h ps.length) :=
  ⟨fun vs H Q E z => z.1, fun A outer s H args us vs Q E hr e0 hbd hv ⟨_, M, S, ds, _, _, g⟩ => by rw [hb] at g; exact g.elim⟩
theorem top_ok {pr : RF.Prog} (G : ProgK P w K mg base W pr) : ∀ n, TopK P w K mg base W (RF.calls pr n) (2 * n)
  | 0 => ⟨G.cons, fun x i h => by
      obtain ⟨st, g, f, fd, h1, h2, h3, h4, h5, h6⟩ := G.fn x i h
      exact ⟨f, fd, g.ps, fn_bad fun _ _ => rfl, fun _ _ _ => rfl, h5, h3.kp, h6⟩, G.clsG, G.clsK, G.plain, fun c m x h hx => by
      obtain ⟨st, g, f, fd, q, h1, h2, h3, h4, h5, h6, h7, h8⟩ := G.mt c m x h hx
      exact ⟨f, fd, g.ps, fn_bad fun _ _ => rfl, fun _ _ _ => rfl, h5, h6, h7, h8⟩, G.exc, G.blt⟩
  | n + 1 => by
    have ih := top_ok G n
    refine ⟨G.cons, fun x i h => ?_, G.clsG, G.clsK, G.plain, fun c m x h hx => ?_, G.exc, G.blt⟩
    · obtain ⟨st, g, f, fd, h1, h2, h3, h4, h5, h6⟩ := G.fn x i h
      have e : (RF.calls pr (n + 1)).f i = RF.runFn W.T (RF.calls pr n) g := by
        funext vs S
        show (match pr.fn i with | some g => RF.runFn pr.T (RF.calls pr n) g vs S | none => .bad) = _
        unfold RF.Prog.fn
        rw [h1, Option.bind_some, h2, G.T]
      rw [e]
      refine ⟨f, fd, g.ps, run_ok h3 h2 h4 ih, fun ds S hl => ?_, h5, h3.kp, h6⟩
      unfold RF.runFn
      rw [if_neg hl]
    · obtain ⟨st, g, f, fd, q, h1, h2, h3, h4, h5, h6, h7, h8⟩ := G.mt c m x h hx
      have e : (RF.calls pr (n + 1)).m c m = RF.runFn W.T (RF.calls pr n) g := by
        funext vs S
        show (match pr.mt c m with | some g => RF.runFn pr.T (RF.calls pr n) g vs S | none => .bad) = _
        unfold RF.Prog.mt
        rw [h1, Option.bind_some, h2, G.T]
      rw [e]
      refine ⟨f, fd, g.ps, run_ok h3 h2 h4 ih, fun ds S hl => ?_, h5, h6, h7, h8⟩
      unfold RF.runFn
      rw [if_neg hl]
end
end L2
end

section
set_option Elab.async false
set_option linter.all false
set_option maxRecDepth 100000
set_option maxHeartbeats 4000000
/-! # The head -/
namespace L2
open PySem PySem.Spec PyProof.Rows
open RF (D O Store Tab)
theorem law_callR {P : Program} {w : World} {K : PySem.W.Frag} {mg mb : Str → Option Value} {CX : CXT} {k : Nat} {fa a : Addr} {fd : FuncData} {x : Str} {sp : Sp} {s₁ : Shared} {vs : List Value} {ns : List Int} (Ps : List Addr)
    (KX : K.In s₁.heap) (hns : s₁.heap.Ns mainGlobals mg) (hb : s₁.heap.Ns builtinsNs mb) (hbb : ∀ x : Str, x ≠ "__name__" → mb x = bootBuiltins x) (hlim : s₁.heap.NoLimit) (hg : s₁.gens = #[]) (hBm : BmAt mg s₁.heap) (hPs' : ∀ P ∈ Ps, ∃ c, PySem.W.CodeHd s₁.heap c P ∧ s₁.heap.get? P = some (PySem.W.tabObj #[])) (hKP : ∀ P ∈ Ps, K.lookup P = none)
    (ha : s₁.heap.get? a = some { cls := .type "list", data := .seq vs.toArray }) (hi : IntsAre vs ns) (hl : ns.length ≤ sizeLine) (hr : Room k callerA)
    (F : ∀ base : Heap, K.In base → base.Ns mainGlobals mg → BmAt mg base → FnOk P w K mg base CX k fa fd [x] sp) (hbind : ∀ (s : Shared) (u : Value), BindsTo s fd ⟨[u], []⟩ [(x, u)])
    (hsp : ∀ H : Hp, (∀ P ∈ Ps, H P = some (.tbl #[])) → RolAt K H a (ns.map V.int) → sp [.ref a] H (fun v _ => v = .bl true) fun _ _ _ => False)
    (hCX : ∀ H e s', CX [] H s₁ (fun _ _ _ => False) e s' → False) :
    codeAny (model P w) callerA (.call (.ref fa) ⟨[.ref a], []⟩) (fun r s' => r = .ok (.ret (.bool true)) ∧ OldK s₁.heap s'.heap ∧ s'.os = s₁.os ∧ AllBare s'.gens) s₁ := by
  have hPs : ∀ P ∈ Ps, s₁.heap.get? P = some (PySem.W.tabObj #[]) := fun P hP => let ⟨_, _, e⟩ := hPs' P hP; e
  have rv := vals_ints hi
  have lenV := hi.length
  have core : ∀ H : Hp, OnlyT Ps H → (∀ P ∈ Ps, H P = some (.tbl #[])) → RolAt K H a (ns.map V.int) → HOk P w H s₁.heap → (∀ b, H b ≠ none → b = a ∨ b ∈ Ps) → (H a ≠ none → K.lookup a = none) →
      codeAny (model P w) callerA (.call (.ref fa) ⟨[.ref a], []⟩) (fun r s' => r = .ok (.ret (.bool true)) ∧ OldK s₁.heap s'.heap ∧ s'.os = s₁.os ∧ AllBare s'.gens) s₁ := by
    intro H hO hP hS hok hA hK
    have base_of : ∀ {b : Addr} {o : Obj}, s₁.heap.get? b = some o → H b = none → (hidT s₁.heap H).get? b = some o := fun e n => hidT_get e n
    have noA : ∀ {b : Addr} {o : Obj}, s₁.heap.get? b = some o → (∀ us n, o.data ≠ .seq us n) → (∀ us, o.data ≠ .fields us) → H b = none := fun {b o} e d1 d2 => by
      cases q : H b with
      | none => rfl
      | some u =>
        rcases hA b (by rw [q]; simp) with z | z
        · rw [z, ha] at e; cases e; exact absurd rfl (d1 _ _)
        · rw [hPs b z] at e; cases e; exact absurd rfl (d2 _)
    have nsK : ∀ {b : Addr} {m : Str → Option Value}, s₁.heap.Ns b m → (hidT s₁.heap H).Ns b m := fun {b m} ⟨o, es, ep, e, d, r⟩ => ⟨o, es, ep, base_of e (noA e (fun _ _ z => by rw [d] at z; cases z) fun _ z => by rw [d] at z; cases z), d, r⟩
    have hKb : K.In (hidT s₁.heap H) := fun b o e => base_of (KX b o e) (by
      cases q : H b with
      | none => rfl
      | some u =>
        rcases hA b (by rw [q]; simp) with z | z
        · subst z
          rw [hK (by rw [q]; simp)] at e; cases e
        · rw [hKP b z] at e; cases e)
    have hBb : BmAt mg (hidT s₁.heap H) := by
      obtain ⟨bm, ob, b1, b2, b3, b4, b5, b6, b7⟩ := hBm
      exact ⟨bm, ob, b1, b2, b3, base_of b4 (noA b4 (fun _ _ z => by rw [b7] at z; cases z) fun _ z => by rw [b7] at z; cases z), b5, b6, b7⟩
    have hM : Mod K mg (hidT s₁.heap H) := ⟨hKb, nsK hns, ⟨mb, nsK hb, hbb⟩, let ⟨mc, h1, h2⟩ := hlim; ⟨mc, nsK h1, h2⟩⟩
    have e0 : Env0 P w K mg (hidT s₁.heap H) callerA [] s₁ H := ⟨rfl, hM, fun b o e => of_hidT e, Nat.le_of_eq (hidT_size _ _), trivial, fun b hb => absurd (show b ∈ ([] : List Addr) from hb) (by simp), hok, .of_eq hg⟩
    refine codeAny_mono ((F _ hKb (nsK hns) hBb).run callerA [] s₁ H ⟨[.ref a], []⟩ [.ref a] [.ref a] _ _ hr e0 (hbind s₁ (.ref a)) (.cons rfl .nil) (hsp H hP hS)) fun r s' h => ?_
    cases r with
    | error e => exact (hCX H e s' h).elim
    | ok fl =>
      cases fl with
      | next => exact False.elim h
      | brk => exact False.elim h
      | cont => exact False.elim h
      | ret u =>
        obtain ⟨v, H', os, bare, un, hok', r', q⟩ := h
        have q' : v = .bl true := q
        subst q'
        obtain rfl : u = Value.bool true := r'
        refine ⟨rfl, ⟨fun b o e => ?_, fun b o e => un.there b o e (by simp)⟩, os, bare⟩
        cases q : H b with
        | none => exact .inl (un.keep b o e q (fun z => absurd (show b ∈ ([] : List Addr) from z) (by simp)) (by simp))
        | some u =>
          rcases hO b with z | ⟨ob, xs, z⟩ | ⟨hb, z⟩
          · rw [q] at z; cases z
          · have z2 := un.frzs b ob _ z
            obtain ⟨e1, _⟩ := hok b _ z
            obtain ⟨e2, _⟩ := hok' b _ z2
            rw [e] at e1; cases e1
            exact .inl e2
          · obtain ⟨more, z2⟩ := un.tbls b _ z
            have e2 : s'.heap.get? b = some { cls := .none, data := .fields (#[] ++ more) } := hok' b _ z2
            obtain ⟨c, cd, eP⟩ := hPs' b hb
            rw [eP] at e
            cases e
            exact .inr (.inl ⟨(cd.tab eP).isCodeTable, rfl, #[], more, rfl, e2⟩)
  have aP : a ∉ Ps := fun z => by have := hPs a z; rw [ha] at this; cases this
  cases hk : K.lookup a with
  | some o =>
    have e := KX a o hk
    rw [ha] at e
    cases e
    refine core (fun b => if b ∈ Ps then some (.tbl #[]) else none) (fun b => ?_) (fun b hb => if_pos hb) (.inr ⟨_, vs.toArray, _, hk, rfl, rfl, rfl, by rw [List.size_toArray, lenV]; exact hl, by simpa using rv⟩) (fun b u z => ?_) (fun b z => ?_) fun z => absurd (if_neg aP) z
    · by_cases hb : b ∈ Ps
      · exact .inr (.inr ⟨hb, if_pos hb⟩)
      · exact .inl (if_neg hb)
    · by_cases hb : b ∈ Ps
      · have z' := (if_pos hb).symm.trans z
        cases z'
        exact hPs b hb
      · have z' := (if_neg hb).symm.trans z
        cases z'
    · by_cases hb : b ∈ Ps
      · exact .inr hb
      · exact absurd (if_neg hb) z
  | none =>
    refine core (fun b => if b ∈ Ps then some (.tbl #[]) else if b = a then some (.frz { cls := .type "list", data := .seq vs.toArray } (.lst (ns.map V.int))) else none) (fun b => ?_) (fun b hb => if_pos hb)
      (.inl ⟨{ cls := .type "list", data := .seq vs.toArray }, (if_neg aP).trans (if_pos rfl)⟩) (fun b u z => ?_) (fun b z => ?_) fun _ => hk
    · by_cases hb : b ∈ Ps
      · exact .inr (.inr ⟨hb, if_pos hb⟩)
      · by_cases hb2 : b = a
        · exact .inr (.inl ⟨_, _, (if_neg hb).trans (if_pos hb2)⟩)
        · exact .inl ((if_neg hb).trans (if_neg hb2))
    · by_cases hb : b ∈ Ps
      · have z' := (if_pos hb).symm.trans z
        cases z'
        exact hPs b hb
      · by_cases hb2 : b = a
        · have z' := ((if_neg hb).trans (if_pos hb2)).symm.trans z
          cases z'
          subst hb2
          exact ⟨ha, by rw [List.length_map]; exact hl, vs, _, rv, ha⟩
        · have z' := ((if_neg hb).trans (if_neg hb2)).symm.trans z
          cases z'
    · by_cases hb : b ∈ Ps
      · exact .inr hb
      · by_cases hb2 : b = a
        · exact .inl hb2
        · exact absurd ((if_neg hb).trans (if_neg hb2)) z
theorem walk_ofR {l : PySem.W.OpenLaw} {n k : Nat} {q : Program} {loose : List Str} {XP : (Str → Option Value) → Heap → Prop} {YP : World → Heap → Prop} {d : DefRec} {K : Params → PySem.W.Frag} {CX : World → CXT} {sp : World → Sp} {x : Str} (Ps : List Addr)
    (hn : l.most = some n) (hn2 : n ≤ sizeLine) (hdf : d.params.defaults = []) (hr : Room k callerA) (hY : ∀ (w : World) (h : Heap), YP w h → (K w.params).In h)
    (hPs : ∀ (w : World) (h : Heap), YP w h → (K w.params).In h → ∀ P ∈ Ps, ∃ c, PySem.W.CodeHd h c P ∧ h.get? P = some (PySem.W.tabObj #[])) (hKP : ∀ (w : World), ∀ P ∈ Ps, (K w.params).lookup P = none)
    (F : ∀ (w : World) (mg : Str → Option Value) (fa : Addr) (h : Heap), (K w.params).In h → h.Ns mainGlobals mg → mg d.name = some (.ref fa) →
      ∃ fd : FuncData, (∀ (s : Shared) (u : Value), BindsTo s fd ⟨[u], []⟩ [(x, u)]) ∧
        ∀ base : Heap, (K w.params).In base → base.Ns mainGlobals mg → BmAt mg base → FnOk l.prog w (K w.params) mg base (CX w) k fa fd [x] (sp w))
    (hsp : ∀ (w : World) (H : Hp) (a : Addr) (ns : List Int), ns.length ≤ n → (∀ P ∈ Ps, H P = some (.tbl #[])) → RolAt (K w.params) H a (ns.map V.int) → sp w [.ref a] H (fun v _ => v = .bl true) fun _ _ _ => False)
    (hCX : ∀ (w : World) (H : Hp) (s : Shared) (e : Value) (s' : Shared), CX w [] H s (fun _ _ _ => False) e s' → False) :
    PySem.W.WalkO q loose XP YP l.row.toRowW d [] (fun f vs => PySem.call f vs) := by
  refine Att.attach_call hn hdf fun w s₀ s₁ mg mb fa o pm cd doc a vs ns G Y ho hd hcd hmg hobj hints hlen hg => ?_
  have KX := hY w _ Y
  obtain ⟨fd, hb, hF⟩ := F w mg fa _ KX G.T.g hmg
  have hBm : BmAt mg s₁.heap := by
    obtain ⟨bm, ob, b1, b2, b3, b4, b5, b6⟩ := G.T.bmain
    refine ⟨bm, ob, b1, b2, fun z => ?_, b3, b4, b5, b6⟩
    obtain ⟨o, es, ep, e, d, _⟩ := G.T.g
    rw [z, e] at b3
    cases b3
    rw [d] at b6
    cases b6
  exact law_callR Ps KX G.T.g G.T.b G.T.builtins G.T.nolimit hg hBm (hPs w _ Y KX) (hKP w) hobj hints (Nat.le_trans hlen hn2) hr hF hb (fun H hP hS => hsp w H a ns hlen hP hS) fun H e s' => hCX w H s₁ e s'

/-- the law's own call, by the reading -/
theorem law_sp {K : PySem.W.Frag} {W : Adr} {f : List D → Store → RF.R D} {H : Hp} {a : Addr} {ns : List Int} {S' : Store} (nd : W.T.nams.Nodup) (h : f [.ref 0] [.rol (ns.map D.int)] = .ok (.bl true) S') (r : RolAt K H a (ns.map V.int)) : spC K W f 1 [.ref a] H (fun v _ => v = .bl true) fun _ _ _ => False := by
  have relI : ∀ (M : List Addr) (l : List Int), RelDs M H (l.map D.int) (l.map V.int) := fun M l => by
    induction l with
    | nil => exact .nil
    | cons x xs ih => exact .cons (.int x) ih
  refine ⟨rfl, [a], [.rol (ns.map D.int)], [.ref 0], ⟨rfl, nd, fun i j b h1 h2 r1 _ => ?_, fun i o b h1 h2 => ?_⟩, .cons (.ref rfl) .nil, ?_⟩
  · cases i with
    | zero => simp [isRol] at r1
    | succ i => simp at h1
  · cases i with
    | zero =>
      simp at h1 h2
      subst h1 h2
      exact ⟨_, r, relI _ _⟩
    | succ i => simp at h1
  · rw [h]
    intro M' H' v _ _ rv
    cases rv
    rfl
/-- a def's names, checked -/
def scopeB (g : RF.Fn) : Bool := (g.sc.kind == .function) && !g.sc.isCoroutine && !g.sc.isGenerator && RF.nodupB g.N && decide (g.N.take g.ps.length = g.ps) && g.ps.all (fun x => g.sc.names.lookup x == some .local || g.sc.names.lookup x == some .cell) && g.sc.names.all (fun p => p.2 != .free)
theorem scope_of {g : RF.Fn} (h : scopeB g = true) : FnScope g.N g.ps g.sc := by
  unfold scopeB at h
  simp only [Bool.and_eq_true, List.all_eq_true, decide_eq_true_eq, Bool.or_eq_true] at h
  obtain ⟨⟨⟨⟨⟨⟨h1, h2⟩, h3⟩, h4⟩, h5⟩, h6⟩, h7⟩ := h
  refine ⟨eq_of_beq h1, by simpa using h2, by simpa using h3, nodup_of h4, h5, fun x hx => ?_, fun y hy => ?_⟩
  · rcases h6 x hx with z | z
    · exact .inl (eq_of_beq z)
    · exact .inr (eq_of_beq z)
  · simpa using h7 y hy
/-- a def of the program -/
def FnAtK (K : PySem.W.Frag) (mg : Str → Option Value) (pr : RF.Prog) (x : Str) (i : Nat) : Prop := ∃ st g f fd, pr.fs[i]? = some st ∧ RF.fnOf st = some g ∧ Fun K x x st f fd ∧ FnScope g.N g.ps g.sc ∧ mg x = some (.ref f) ∧ Binds K fd g.ps []
theorem fnAt_mk {K : PySem.W.Frag} {mg : Str → Option Value} {pr : RF.Prog} {x : Str} {i : Nat} {st : Stmt} {g : RF.Fn} {f : Addr} {fd : FuncData} (F : Fun K x x st f fd) (h1 : pr.fs[i]? = some st) (h2 : RF.fnOf st = some g) (h3 : scopeB g = true) (h4 : mg x = some (.ref f)) (h5 : Binds K fd g.ps []) : FnAtK K mg pr x i :=
  ⟨st, g, f, fd, h1, h2, F, scope_of h3, h4, h5⟩
def MtAtK (K : PySem.W.Frag) (W : Adr) (pr : RF.Prog) (c m : Nat) (x : Str) : Prop := ∃ st g f fd q, (pr.ms.find? fun y => y.1 == c && y.2.1 == m) = some (c, m, st) ∧ RF.fnOf st = some g ∧ Fun K x q st f fd ∧ FnScope g.N g.ps g.sc ∧ Meth K (W.c c) x f ∧ Binds K fd g.ps [] ∧ (x = "__init__" → Mk K (W.c c) f) ∧ Cls K (W.c c)
theorem mtAt_mk {K : PySem.W.Frag} {W : Adr} {pr : RF.Prog} {c m : Nat} {x q : Str} {st : Stmt} {g : RF.Fn} {f : Addr} {fd : FuncData} (F : Fun K x q st f fd) (h1 : (pr.ms.find? fun y => y.1 == c && y.2.1 == m) = some (c, m, st)) (h2 : RF.fnOf st = some g) (h3 : scopeB g = true) (h4 : Meth K (W.c c) x f) (h5 : Binds K fd g.ps []) (h6 : x = "__init__" → Mk K (W.c c) f) (h7 : Cls K (W.c c)) : MtAtK K W pr c m x :=
  ⟨st, g, f, fd, q, h1, h2, F, scope_of h3, h4, h5, h6, h7⟩
/-- a class's own names: texts, none of them __init__ -/
def exNs (es : Array DictEntry) : Bool := es.toList.all (fun e => match e.key with | .str n _ => !(n == ("__init__" : Str)) | _ => false)
theorem exNs_ok {K : PySem.W.Frag} {N : Addr} {o : Value} {od : Option Addr} {es : Array DictEntry} {ep : Nat} {sl : Array (Option Value)} (l : K.lookup N = some ⟨o, od, .dict es ep, sl⟩) (e : exNs es = true) (h : Heap) (X : K.In h) : ∃ mN, h.Ns N mN ∧ mN "__init__" = none := by
  unfold exNs at e
  rw [List.all_eq_true] at e
  refine ⟨fun x => nsFind es x, ⟨_, es, ep, X _ _ l, rfl, fun d hd => ?_, fun _ => rfl⟩, ?_⟩
  · have := e d (by simpa using hd)
    split at this
    · rename_i n t hk
      exact ⟨n, t, hk⟩
    · cases this
  · show findBy (fun n v => Value.isStr v n) es ("__init__" : Str) = none
    unfold findBy
    have : es.find? (fun d => Value.isStr d.key ("__init__" : Str)) = none := by
      rw [Array.find?_eq_none]
      intro d hd hx
      have := e d (by simpa using hd)
      split at this
      · rename_i n t hk
        rw [hk] at hx
        have hx : (n == ("__init__" : Str)) = true := hx
        rw [hx] at this
        cases this
      · cases this
    rw [this]
    rfl
theorem excC_mk {K : PySem.W.Frag} {C W N : Addr} {nm q : Str} {bs sub : List Value} {hd ab : Bool} {sn : List Str} {col : Option Bool} {dd : Option Addr} {ka kb kc kd kf : Option Value} {oN : Value} {odN : Option Addr} {es : Array DictEntry} {ep : Nat} {slN : Array (Option Value)} {oW oNW : Value} {odW odNW : Option Addr} {cdW : ClassData} {slW slNW : Array (Option Value)} {esW : Array DictEntry} {epW : Nat}
    (l : K.lookup C = some (excClassObj nm q C N bs (.ref W :: [.type "ValueError", .type "Exception", .type "BaseException", .type "object"]) hd sn sub ab col dd ka kb kc kd kf "ValueError.__new__")) (lN : K.lookup N = some ⟨oN, odN, .dict es ep, slN⟩) (eN : exNs es = true)
    (lW : K.lookup W = some ⟨oW, odW, .cls cdW, slW⟩) (lNW : K.lookup cdW.ns = some ⟨oNW, odNW, .dict esW epW, slNW⟩) (eW : exNs esW = true) : ExcC K C := by
  refine ⟨nm, q, N, bs, _, hd, sn, sub, ab, col, dd, ka, kb, kc, kd, kf, l, by simp, fun h X => exNs_ok lN eN h X, fun h X => ?_⟩
  obtain ⟨mW, hW, hi⟩ := exNs_ok lNW eW h X
  exact .own (X _ _ lW) hW hi .base
theorem lookup_mem {l : List (Str × D)} {x : Str} {d : D} (h : l.lookup x = some d) : ∃ p, p ∈ l ∧ x = p.1 ∧ d = p.2 := ⟨(x, d), PySem.mem_of_lookup h, rfl, rfl⟩
/-- the law's promise, whatever the classes' places -/
def spLaw (K : PySem.W.Frag) (T : Tab) (f : List D → Store → RF.R D) : Sp := fun vs H Q E => vs.length = 1 ∧ ∀ W : Adr, W.T = T → spC K W f 1 vs H Q E
theorem fn_law {P : Program} {w : World} {K : PySem.W.Frag} {mg : Str → Option Value} {base : Heap} {W : Adr} {pr : RF.Prog} {n i : Nat} {st : Stmt} {g : RF.Fn} {f : Addr} {fd : FuncData} {x : Str} (G : ProgK P w K mg base W pr) (F : Fun K x x st f fd) (h1 : pr.fs[i]? = some st) (h2 : RF.fnOf st = some g) (h3 : scopeB g = true) (h4 : g.ps = [Str.ofString "_law_script"]) :
    FnOk P w K mg base (CXF P w) (2 * n + 2) f fd ["_law_script"] (spLaw K pr.T ((RF.calls pr (n + 1)).f i)) := by
  have R := run_ok F h2 (scope_of h3) (top_ok G n)
  have e : (RF.calls pr (n + 1)).f i = RF.runFn W.T (RF.calls pr n) g := by
    funext vs S
    show (match pr.fn i with | some g => RF.runFn pr.T (RF.calls pr n) g vs S | none => .bad) = _
    unfold RF.Prog.fn
    rw [h1, Option.bind_some, h2, G.T]
  rw [h4] at R
  rw [e]
  exact R.imp fun vs H Q E z => z.2 W G.T
end L2
end

section
set_option Elab.async false
set_option linter.all false
set_option maxRecDepth 100000
namespace Q30
open PySem
def top (i : Nat) : Stmt := PySem.Challenge.pw_namewants_k30_whole_keeps.main.body.getD i (.Pass ⟨0, 0, 0, 0⟩)
def inCls (s : Stmt) (j : Nat) : Stmt := match s with | .ClassDef _ _ _ b _ _ _ _ _ _ _ => b.getD j (.Pass ⟨0, 0, 0, 0⟩) | _ => .Pass ⟨0, 0, 0, 0⟩
def T : RF.Tab where
  cons := [("VALUE_MOST", .int 999), ("SIGNS", .str "abcdefghijklmnopqrstuvwxyz0123456789"), ("PART_LONGEST", .int 4), ("NAME_LONGEST", .int 5), ("ROOM_MOST", .int 9)]
  nams := ["__init__", "__len__", "aged", "got", "kept", "pop", "put", "room", "rows"]
  funs := ["is_whole", "is_within", "is_tick", "need_within", "need_value", "need_tick", "is_part", "is_name", "need_name", "_law_cell", "_law_drawn", "_law_roll", "_law_rounds", "_law_head", "_law_any_name", "_law_keep", "_law_got", "law"]
  clss := ["Keeps"]
  excs := ["BadName", "BadNumber"]
  meths := [(0, 0), (0, 6), (0, 3), (0, 2), (0, 8), (0, 1)]
def P : RF.Prog where
  T := T
  fs := [top 6, top 7, top 8, top 9, top 10, top 11, top 16, top 17, top 18, top 23, top 24, top 25, top 26, top 27, top 28, top 29, top 30, top 31]
  ms := [(0, 0, inCls (top 21) 0), (0, 6, inCls (top 21) 1), (0, 3, inCls (top 21) 2), (0, 2, inCls (top 21) 3), (0, 8, inCls (top 21) 4), (0, 1, inCls (top 21) 5)]
end Q30
end

section
set_option Elab.async false
set_option linter.all false
set_option maxRecDepth 100000
/-! # How a run of the small reading is read: ends, loops -/
namespace RF
open PySem
/-- it ends well, with Q -/
def Wp {α : Type} (r : R α) (Q : α → Store → Prop) : Prop := match r with
  | .ok a S => Q a S
  | _ => False
theorem wp_ok {α : Type} {a : α} {S : Store} {Q : α → Store → Prop} (h : Q a S) : Wp (.ok a S) Q := h
theorem wp_bind {α β : Type} {r : R α} {f : α → Store → R β} {Q : β → Store → Prop} (h : Wp r fun a S => Wp (f a S) Q) : Wp (r.bind f) Q := by
  cases r with
  | ok a S => exact h
  | ex c p S => exact h.elim
  | bad => exact h.elim
theorem wp_mono {α : Type} {r : R α} {Q Q' : α → Store → Prop} (h : Wp r Q) (m : ∀ a S, Q a S → Q' a S) : Wp r Q' := by
  cases r with
  | ok a S => exact m _ _ h
  | ex c p S => exact h.elim
  | bad => exact h.elim
theorem wp_ex {α : Type} {r : R α} {Q : α → Store → Prop} (h : Wp r Q) : ∃ a S, r = .ok a S ∧ Q a S := by
  cases r with
  | ok a S => exact ⟨a, S, rfl, h⟩
  | ex c p S => exact h.elim
  | bad => exact h.elim
theorem wp_of {α : Type} {r : R α} {a : α} {S : Store} {Q : α → Store → Prop} (e : r = .ok a S) (h : Q a S) : Wp r Q := by rw [e]; exact h
theorem wp_guard {α : Type} {b : Bool} {r : R α} {Q : α → Store → Prop} (hb : b = true) (h : Wp r Q) : Wp (guardR b r) Q := by rw [hb]; exact h
theorem wp_noEx {α : Type} {r : R α} {Q : α → Store → Prop} (h : Wp r Q) : Wp (noEx r) Q := by
  cases r with
  | ok a S => exact h
  | ex c p S => exact h.elim
  | bad => exact h.elim
/-- statements: what is wanted of going on, of a return -/
structure En where
  nx : Env → Store → Prop
  rt : D → Store → Prop
  bk : Env → Store → Prop := fun _ _ => False
  ct : Env → Store → Prop := fun _ _ => False
def Wf (r : F) (Q : En) : Prop := match r with
  | .nx ρ S => Q.nx ρ S
  | .rt d S => Q.rt d S
  | .bk ρ S => Q.bk ρ S
  | .ct ρ S => Q.ct ρ S
  | _ => False
theorem wf_on {α : Type} {r : R α} {f : α → Store → F} {Q : En} (h : Wp r fun a S => Wf (f a S) Q) : Wf (onR r f) Q := by
  cases r with
  | ok a S => exact h
  | ex c p S => exact h.elim
  | bad => exact h.elim
theorem wf_then {r : F} {k : CS} {Q : En} (h : Wf r { Q with nx := fun ρ S => Wf (k ρ S) Q }) : Wf (r.then k) Q := by
  cases r with
  | nx ρ S => exact h
  | rt d S => exact h
  | bk ρ S => exact h
  | ct ρ S => exact h
  | ex c p S => exact h.elim
  | bad => exact h.elim
theorem wp_end {r : F} {Q : D → Store → Prop} (h : Wf r { nx := fun _ S => Q .non S, rt := Q }) : Wp (endF r) Q := by
  cases r with
  | nx ρ S => exact h
  | rt d S => exact h
  | bk ρ S => exact h.elim
  | ct ρ S => exact h.elim
  | ex c p S => exact h.elim
  | bad => exact h.elim
theorem wf_noEx {r : F} {Q : En} (h : Wf r Q) : Wf (noExF r) Q := by
  cases r with
  | nx ρ S => exact h
  | rt d S => exact h
  | bk ρ S => exact h
  | ct ρ S => exact h
  | ex c p S => exact h.elim
  | bad => exact h.elim
/-- a loop by what holds ahead of each turn -/
theorem wf_for {chk : Store → Bool} {is : List Nat} {one : Bool} {b : CS} {Q : En} {items : List D} (Inv : Nat → Env → Store → Prop) {ρ : Env} {S : Store} (h0 : Inv 0 ρ S) (hc : ∀ i ρ S, i ≤ items.length → Inv i ρ S → chk S = true)
    (hs : ∀ i x ρ S, items[i]? = some x → Inv i ρ S → ∃ ρ1, tgt is one x ρ = some ρ1 ∧ Wf (b ρ1 S) { nx := Inv (i + 1), ct := Inv (i + 1), bk := Q.nx, rt := Q.rt }) (hd : ∀ ρ S, Inv items.length ρ S → Q.nx ρ S) : Wf (forC chk is one b items ρ S) Q := by
  have go : ∀ (l : List D) (i : Nat) (ρ : Env) (S : Store), items.drop i = l → i ≤ items.length → Inv i ρ S → Wf (forC chk is one b l ρ S) Q := by
    intro l
    induction l with
    | nil =>
      intro i ρ S hl hi h
      have : i = items.length := by
        have := congrArg List.length hl
        simp at this
        omega
      subst this
      unfold forC
      rw [if_pos (hc _ _ _ (Nat.le_refl _) h)]
      exact hd _ _ h
    | cons x xs ih =>
      intro i ρ S hl hi h
      have hx : items[i]? = some x := by
        have := congrArg (fun l => l[0]?) hl
        simpa using this
      have hlt : i < items.length := (List.getElem?_eq_some_iff.mp hx).1
      have hr : items.drop (i + 1) = xs := by
        have := congrArg List.tail hl
        simpa using this
      unfold forC
      rw [if_pos (hc _ _ _ hi h)]
      obtain ⟨ρ1, e, w⟩ := hs i x ρ S hx h
      rw [e]
      show Wf (turnS (b ρ1 S) (forC chk is one b xs)) Q
      cases ev : b ρ1 S with
      | nx ρ2 S2 => rw [ev] at w; exact ih (i + 1) ρ2 S2 hr hlt w
      | ct ρ2 S2 => rw [ev] at w; exact ih (i + 1) ρ2 S2 hr hlt w
      | bk ρ2 S2 => rw [ev] at w; exact w
      | rt d S2 => rw [ev] at w; exact w
      | ex c p S2 => rw [ev] at w; exact w.elim
      | bad => rw [ev] at w; exact w.elim
  exact go items 0 ρ S rfl (Nat.zero_le _) h0
/-- a comprehension by what was gathered ahead of each item -/
theorem wp_comp {chk : Store → Bool} {t : C Bool} {e : C D} {ρ : Env} {items : List D} {Q : List D → Store → Prop} (Inv : Nat → List D → Store → Prop) {S : Store} (h0 : Inv 0 [] S) (hc : ∀ i ys S, i ≤ items.length → Inv i ys S → chk S = true)
    (hs : ∀ i x ys S, items[i]? = some x → Inv i ys S → Wp (t (some x :: ρ) S) fun b S1 => if b = true then Wp (e (some x :: ρ) S1) fun y S2 => Inv (i + 1) (ys ++ [y]) S2 else Inv (i + 1) ys S1) (hd : ∀ ys S, Inv items.length ys S → Q ys S) : Wp (compC chk t e ρ items S) Q := by
  have go : ∀ (l : List D) (i : Nat) (ys : List D) (S : Store), items.drop i = l → i ≤ items.length → Inv i ys S → Wp (compC chk t e ρ l S) fun zs S' => Q (ys ++ zs) S' := by
    intro l
    induction l with
    | nil =>
      intro i ys S hl hi h
      have : i = items.length := by
        have := congrArg List.length hl
        simp at this
        omega
      subst this
      unfold compC
      rw [if_pos (hc _ _ _ (Nat.le_refl _) h)]
      show Q (ys ++ []) S
      rw [List.append_nil]
      exact hd _ _ h
    | cons x xs ih =>
      intro i ys S hl hi h
      have hx : items[i]? = some x := by
        have := congrArg (fun l => l[0]?) hl
        simpa using this
      have hlt : i < items.length := (List.getElem?_eq_some_iff.mp hx).1
      have hr : items.drop (i + 1) = xs := by
        have := congrArg List.tail hl
        simpa using this
      unfold compC
      rw [if_pos (hc _ _ _ hi h)]
      refine wp_bind (wp_mono (hs i x ys S hx h) fun b S1 w => ?_)
      cases b with
      | true =>
        rw [if_pos rfl] at w ⊢
        refine wp_bind (wp_mono w fun y S2 w => wp_bind (wp_mono (ih (i + 1) _ S2 hr hlt w) fun zs S3 q => ?_))
        show Q (ys ++ (y :: zs)) S3
        have : ys ++ (y :: zs) = (ys ++ [y]) ++ zs := by simp
        rw [this]
        exact q
      | false =>
        rw [if_neg (by decide)] at w ⊢
        exact ih (i + 1) ys S1 hr hlt w
  exact wp_mono (go items 0 [] S rfl (Nat.zero_le _) h0) fun zs S' q => q
/-- a comprehension whose pieces leave the store: a filter and a map -/
theorem wp_pure {chk : Store → Bool} {t : C Bool} {e : C D} {ρ : Env} {items : List D} {S : Store} {Q : List D → Store → Prop} (p : D → Bool) (f : D → D) (hc : chk S = true)
    (ht : ∀ x ∈ items, t (some x :: ρ) S = .ok (p x) S) (he : ∀ x ∈ items, p x = true → e (some x :: ρ) S = .ok (f x) S) (q : Q ((items.filter p).map f) S) : Wp (compC chk t e ρ items S) Q := by
  have go : ∀ l : List D, (∀ x ∈ l, x ∈ items) → compC chk t e ρ l S = .ok ((l.filter p).map f) S := by
    intro l
    induction l with
    | nil => intro _; unfold compC; rw [if_pos hc]; rfl
    | cons x xs ih =>
      intro hm
      unfold compC
      rw [if_pos hc, ht x (hm x List.mem_cons_self), R.bind_ok]
      have ih := ih fun y hy => hm y (List.mem_cons_of_mem _ hy)
      cases hp : p x with
      | true => rw [if_pos rfl, he x (hm x List.mem_cons_self) hp, R.bind_ok, ih, R.bind_ok, List.filter_cons, if_pos hp]; rfl
      | false => rw [if_neg (by decide), ih, List.filter_cons, if_neg (by simp [hp])]
  rw [go items fun _ h => h]
  exact q
/-- the calls, kept shut -/
@[irreducible] def callsI (P : Prog) (n : Nat) : Calls := calls P n
theorem callsI_eq (P : Prog) (n : Nat) : callsI P n = calls P n := by unfold callsI; rfl
end RF
end

section
set_option Elab.async false
set_option linter.all false
set_option maxRecDepth 100000
/-! # How each piece is read, by what is wanted of it -/
namespace RF
open PySem
variable {ρ : Env} {S : Store} {Q : D → Store → Prop} {QB : Bool → Store → Prop} {QL : List D → Store → Prop} {K : En}
theorem wp_var {i : Nat} {d : D} (h : ρ[i]? = some (some d)) (q : Q d S) : Wp (varE i ρ S) Q := wp_of (by unfold varE; rw [h]) q
theorem wp_c {d : D} (q : Q d S) : Wp (cE d ρ S) Q := q
theorem wp_bin {op : Operator} {a b : C D} (h : Wp (a ρ S) fun x S1 => Wp (b ρ S1) fun y S2 => Wp (opD op x y S2) Q) : Wp (binE op a b ρ S) Q := wp_bind (wp_mono h fun _ _ h => wp_bind h)
theorem wp_cmp {op : CmpOp} {a b : C D} (h : Wp (a ρ S) fun x S1 => Wp (b ρ S1) fun y S2 => Wp (cmpD op x y S2) Q) : Wp (cmpE op a b ρ S) Q := wp_bind (wp_mono h fun _ _ h => wp_bind h)
theorem wp_ix {a b : C D} (h : Wp (a ρ S) fun x S1 => Wp (b ρ S1) fun y S2 => Wp (getItemD x y S2) Q) : Wp (ixE a b ρ S) Q := wp_bind (wp_mono h fun _ _ h => wp_bind h)
theorem wp_fld {a : C D} {f : Nat} (h : Wp (a ρ S) fun x S1 => Wp (fieldD x f S1) Q) : Wp (fldE a f ρ S) Q := wp_bind h
theorem wp_is {a : C D} {k : Kd} (h : Wp (a ρ S) fun x S1 => Wp (optB (isD S1 k x) S1) Q) : Wp (isE k a ρ S) Q := wp_bind h
theorem wp_and {a b : C D} (h : Wp (a ρ S) fun x S1 => ∃ t, x = .bl t ∧ (t = true → Wp (b ρ S1) Q) ∧ (t = false → Q (.bl false) S1)) : Wp (andE a b ρ S) Q := wp_bind (wp_mono h fun x S1 ⟨t, e, q1, q2⟩ => by
  subst e
  cases t with
  | true => exact q1 rfl
  | false => exact q2 rfl)
theorem wp_chain {o1 o2 : CmpOp} {a b c : C D} (h : Wp (a ρ S) fun x S1 => Wp (b ρ S1) fun y S2 => Wp (cmpD o1 x y S2) fun r S3 => ∃ t, r = .bl t ∧ (t = true → Wp (c ρ S3) fun z S4 => Wp (cmpD o2 y z S4) Q) ∧ (t = false → Q (.bl false) S3)) : Wp (chainE o1 o2 a b c ρ S) Q :=
  wp_bind (wp_mono h fun _ _ h => wp_bind (wp_mono h fun _ _ h => wp_bind (wp_mono h fun x S1 ⟨t, e, q1, q2⟩ => by
  subst e
  cases t with
  | true => exact wp_bind (wp_ok (wp_bind (q1 rfl)))
  | false => exact q2 rfl)))
theorem wp_if {c : C Bool} {a b : C D} (h : Wp (c ρ S) fun t S1 => (t = true → Wp (a ρ S1) Q) ∧ (t = false → Wp (b ρ S1) Q)) : Wp (ifE c a b ρ S) Q := wp_bind (wp_mono h fun t S1 ⟨q1, q2⟩ => by
  cases t with
  | true => exact q1 rfl
  | false => exact q2 rfl)
theorem wp_nil (q : QL [] S) : Wp (seqE [] ρ S) QL := q
theorem wp_cons {c : C D} {cs : List (C D)} (h : Wp (c ρ S) fun x S1 => Wp (seqE cs ρ S1) fun xs S2 => QL (x :: xs) S2) : Wp (seqE (c :: cs) ρ S) QL := wp_bind (wp_mono h fun _ _ h => wp_bind h)
theorem wp_tup {cs : List (C D)} (hb : big cs.length = true) (h : Wp (seqE cs ρ S) fun xs S1 => Q (.tup xs) S1) : Wp (tupE cs ρ S) Q := wp_guard hb (wp_bind h)
theorem wp_lst {cs : List (C D)} (hb : big cs.length = true) (h : Wp (seqE cs ρ S) fun xs S1 => Q (.ref S1.length) (S1 ++ [.lst xs])) : Wp (lstE cs ρ S) Q := wp_guard hb (wp_bind h)
theorem wp_dict (q : Q (.ref S.length) (S ++ [.dic []])) : Wp (dictE ρ S) Q := q
theorem wp_call {f : List D → Store → R D} {cs : List (C D)} (h : Wp (seqE cs ρ S) fun xs S1 => Wp (f xs S1) Q) : Wp (callE f cs ρ S) Q := wp_bind h
theorem wp_meth {has : Nat → Nat → Bool} {call : Nat → Nat → List D → Store → R D} {m : Nat} {bm : Option Mt} {a : C D} {cs : List (C D)} (h : Wp (a ρ S) fun x S1 => ∃ n c fs, x = .ref n ∧ S1[n]? = some (.obj c fs) ∧ ((fs.lookup m).isNone && has c m) = true ∧ Wp (seqE cs ρ S1) fun xs S2 => Wp (call c m (x :: xs) S2) Q) : Wp (methE has call (some m) bm a cs ρ S) Q :=
  wp_bind (wp_mono h fun x S1 ⟨n, c, fs, e, hn, hg, h⟩ => by
    subst e
    simp only [hn]
    exact wp_guard hg (wp_bind h))
theorem wp_methB {has : Nat → Nat → Bool} {call : Nat → Nat → List D → Store → R D} {m : Option Nat} {bm : Mt} {a : C D} {cs : List (C D)} (h : Wp (a ρ S) fun x S1 => ∃ n o, x = .ref n ∧ S1[n]? = some o ∧ mtFits bm o = true ∧ Wp (seqE cs ρ S1) fun xs S2 => Wp (methD bm x xs S2) Q) : Wp (methE has call m (some bm) a cs ρ S) Q :=
  wp_bind (wp_mono h fun x S1 ⟨n, o, e, hn, hg, h⟩ => by
    subst e
    cases o with
    | obj c fs => cases bm <;> simp [mtFits] at hg
    | lst xs => simp only [hn]; exact wp_guard hg (wp_bind h)
    | rol xs => simp only [hn]; exact wp_guard hg (wp_bind h)
    | dic xs => simp only [hn]; exact wp_guard hg (wp_bind h)
    | fdc xs => simp only [hn]; exact wp_guard hg (wp_bind h))
def notObj (S : Store) : D → Bool
  | .ref n => match S[n]? with | some (.obj _ _) => false | _ => true
  | _ => true
theorem wp_len {has : Nat → Nat → Bool} {call : Nat → Nat → List D → Store → R D} {m : Option Nat} {a : C D} (h : Wp (a ρ S) fun x S1 => notObj S1 x = true ∧ ∃ n : Nat, lenD S1 x = some n ∧ Q (.int n) S1) : Wp (lenE has call m a ρ S) Q :=
  wp_bind (wp_mono h fun x S1 ⟨h1, n, h2, q⟩ => by
    have hb : callB .len [x] S1 = .ok (.int n) S1 := by
      show (match lenD S1 x with | some n => R.ok (D.int n) S1 | none => .bad) = _
      rw [h2]
    cases x with
    | ref i =>
      cases ho : S1[i]? with
      | none => simp only [ho]; exact wp_of hb q
      | some o =>
        cases o with
        | obj c fs => simp [notObj, ho] at h1
        | lst xs => simp only [ho]; exact wp_of hb q
        | rol xs => simp only [ho]; exact wp_of hb q
        | dic xs => simp only [ho]; exact wp_of hb q
        | fdc xs => simp only [ho]; exact wp_of hb q
    | non => exact wp_of hb q
    | bl _ => exact wp_of hb q
    | int _ => exact wp_of hb q
    | str _ => exact wp_of hb q
    | tup _ => exact wp_of hb q)
theorem wp_lenO {has : Nat → Nat → Bool} {call : Nat → Nat → List D → Store → R D} {m : Nat} {a : C D} (h : Wp (a ρ S) fun x S1 => ∃ n c fs, x = .ref n ∧ S1[n]? = some (.obj c fs) ∧ has c m = true ∧ Wp (call c m [x] S1) fun r S2 => ∃ i : Nat, r = .int i ∧ i ≤ sizeLine ∧ Q (.int i) S2) : Wp (lenE has call (some m) a ρ S) Q :=
  wp_bind (wp_mono h fun x S1 ⟨n, c, fs, e, hn, hg, h⟩ => by
    subst e
    simp only [hn]
    refine wp_guard hg (wp_bind (wp_mono h fun r S2 ⟨i, e, hi, q⟩ => ?_))
    subst e
    exact wp_guard (by simp; exact hi) q)
theorem wp_make {init : List D → Store → R D} {c : Nat} {cs : List (C D)} (h : Wp (seqE cs ρ S) fun xs S1 => Wp (init (.ref S1.length :: xs) (S1 ++ [.obj c []])) fun r S2 => r = .non ∧ Q (.ref S1.length) S2) : Wp (makeE init c cs ρ S) Q :=
  wp_bind (wp_mono h fun xs S1 h => wp_bind (wp_mono h fun r S2 ⟨e, q⟩ => by subst e; exact q))
theorem wp_slice1 {a lo : C D} (h : Wp (a ρ S) fun x S1 => Wp (lo ρ S1) fun y S2 => ∃ i, y = .int i ∧ Wp (sliceD x (some i) none S2) Q) : Wp (sliceE a (some lo) none ρ S) Q :=
  wp_bind (wp_mono h fun x S1 h => wp_bind (wp_bind (wp_mono h fun y S2 ⟨i, e, q⟩ => by subst e; exact wp_ok q)))
theorem wp_compE {s : Src} {t : C Bool} {e : C D} (h : Wp (compI s t e ρ S) fun ys S1 => Q (.ref S1.length) (S1 ++ [.lst ys])) : Wp (compE s t e ρ S) Q := wp_bind h
theorem wp_tupleE {c : C (List D)} (h : Wp (c ρ S) fun ys S1 => Q (.tup ys) S1) : Wp (tupleE c ρ S) Q := wp_bind h
theorem wp_allE {c : C (List D)} (h : Wp (c ρ S) fun ys S1 => ∃ bs, bools ys = some bs ∧ Q (.bl (bs.all id)) S1) : Wp (allE c ρ S) Q := wp_bind (wp_mono h fun ys S1 ⟨bs, e, q⟩ => by rw [e]; exact q)
theorem wp_dyn {a : C D} {t : C Bool} {e : C D} (h : Wp (a ρ S) fun x S1 => Wp (compV t e ρ x S1) QL) : Wp (compI (.dyn a) t e ρ S) QL := wp_bind h
theorem wp_range {a : C D} {t : C Bool} {e : C D} (h : Wp (a ρ S) fun x S1 => ∃ j, x = .int j ∧ (rangeOk j && decide (j.toNat ≤ sizeLine)) = true ∧ Wp (compL t e ρ (rangeL 0 j.toNat) S1) QL) : Wp (compI (.range a) t e ρ S) QL := wp_bind (wp_mono h fun x S1 ⟨j, e, hg, h⟩ => by subst e; exact wp_guard hg (wp_noEx h))
theorem wp_testE {a : C D} (h : Wp (a ρ S) fun x S1 => ∃ b, truthD S1 x = some b ∧ QB b S1) : Wp (testE a ρ S) QB := wp_bind (wp_mono h fun x S1 ⟨b, e, q⟩ => by unfold truthOf; rw [e]; exact q)
theorem wp_testB {a : C D} (h : Wp (a ρ S) fun x S1 => ∃ b, x = .bl b ∧ QB b S1) : Wp (testB a ρ S) QB := wp_bind (wp_mono h fun x S1 ⟨b, e, q⟩ => by subst e; exact q)
theorem wp_notT {a : C Bool} (h : Wp (a ρ S) fun b S1 => QB (!b) S1) : Wp (notT a ρ S) QB := wp_bind h
theorem wp_andT {a b : C Bool} (h : Wp (a ρ S) fun t S1 => (t = true → Wp (b ρ S1) QB) ∧ (t = false → QB false S1)) : Wp (andT a b ρ S) QB := wp_bind (wp_mono h fun t S1 ⟨q1, q2⟩ => by
  cases t with
  | true => exact q1 rfl
  | false => exact q2 rfl)
theorem wp_orT {a b : C Bool} (h : Wp (a ρ S) fun t S1 => (t = true → QB true S1) ∧ (t = false → Wp (b ρ S1) QB)) : Wp (orT a b ρ S) QB := wp_bind (wp_mono h fun t S1 ⟨q1, q2⟩ => by
  cases t with
  | true => exact q1 rfl
  | false => exact q2 rfl)
theorem wp_always (q : QB true S) : Wp (always ρ S) QB := q
/-! statements -/
theorem wf_nil (q : K.nx ρ S) : Wf (seqS [] ρ S) K := q
theorem wf_cons {c : CS} {cs : List CS} (h : Wf (c ρ S) { K with nx := fun ρ S => Wf (seqS cs ρ S) K }) : Wf (seqS (c :: cs) ρ S) K := wf_then h
theorem wf_expr {e : C D} (h : Wp (e ρ S) fun _ S1 => K.nx ρ S1) : Wf (exprS e ρ S) K := wf_on h
theorem wf_ret {e : C D} (h : Wp (e ρ S) K.rt) : Wf (retS e ρ S) K := wf_on h
theorem wf_if {c : C Bool} {a b : CS} (h : Wp (c ρ S) fun t S1 => (t = true → Wf (a ρ S1) K) ∧ (t = false → Wf (b ρ S1) K)) : Wf (ifS c a b ρ S) K := wf_on (wp_mono h fun t S1 ⟨q1, q2⟩ => by
  cases t with
  | true => exact q1 rfl
  | false => exact q2 rfl)
theorem wf_set {i : Nat} {e : C D} (h : Wp (e ρ S) fun d S1 => K.nx (ρ.set i (some d)) S1) : Wf (setS i e ρ S) K := wf_on h
theorem wf_par {is : List Nat} {cs : List (C D)} (h : Wp (seqE cs ρ S) fun ds S1 => ∃ ρ', setL is ds ρ = some ρ' ∧ K.nx ρ' S1) : Wf (parS is cs ρ S) K := wf_on (wp_mono h fun ds S1 ⟨ρ', e, q⟩ => by rw [e]; exact q)
theorem wf_tup {is : List Nat} {e : C D} (h : Wp (e ρ S) fun d S1 => ∃ ds ρ', d = .tup ds ∧ setL is ds ρ = some ρ' ∧ K.nx ρ' S1) : Wf (tupS is e ρ S) K := wf_on (wp_mono h fun d S1 ⟨ds, ρ', ed, e, q⟩ => by subst ed; simp only [e]; exact q)
theorem wf_fld {pl : Nat → Nat → Bool} {o : C D} {f : Nat} {e : C D} (h : Wp (e ρ S) fun v S1 => Wp (o ρ S1) fun x S2 => Wp (setFieldD pl x f v S2) fun _ S3 => K.nx ρ S3) : Wf (fldS pl o f e ρ S) K := wf_on (wp_mono h fun _ _ h => wf_on (wp_mono h fun _ _ h => wf_on h))
theorem wf_sub {o i e : C D} (h : Wp (e ρ S) fun v S1 => Wp (o ρ S1) fun x S2 => Wp (i ρ S2) fun k S3 => Wp (setItemD x k v S3) fun _ S4 => K.nx ρ S4) : Wf (subS o i e ρ S) K := wf_on (wp_mono h fun _ _ h => wf_on (wp_mono h fun _ _ h => wf_on (wp_mono h fun _ _ h => wf_on h)))
theorem wf_del {o i : C D} (h : Wp (o ρ S) fun x S1 => Wp (i ρ S1) fun k S2 => Wp (delItemD x k S2) fun _ S3 => K.nx ρ S3) : Wf (delS o i ρ S) K := wf_on (wp_mono h fun _ _ h => wf_on (wp_mono h fun _ _ h => wf_on h))
theorem wf_dyn {a : C D} {is : List Nat} {one : Bool} {b : CS} (h : Wp (a ρ S) fun x S1 => Wf (forV is one b x ρ S1) K) : Wf (forS (.dyn a) is one b ρ S) K := wf_noEx (wf_on h)
theorem wf_range {a : C D} {is : List Nat} {one : Bool} {b : CS} (h : Wp (a ρ S) fun x S1 => ∃ j, x = .int j ∧ rangeOk j = true ∧ Wf (forL is one b (rangeL 0 j.toNat) ρ S1) K) : Wf (forS (.range a) is one b ρ S) K := wf_noEx (wf_on (wp_mono h fun x S1 ⟨j, e, hg, h⟩ => by subst e; simp only [hg, if_pos]; exact h))
/-! the leaves -/
theorem get_items {a : D} {xs : List D} {k : Int} {v : D} (h : itemsOf S a = some xs) (hi : getI xs k = some v) (q : Q v S) : Wp (getItemD a (.int k) S) Q := by
  have hd : isDict S a = false := by
    cases a with
    | ref n =>
      unfold isDict kvsOf
      unfold itemsOf at h
      cases ho : S[n]? with
      | none => simp [ho] at h
      | some o => cases o <;> simp [ho] at h <;> simp [ho]
    | _ => rfl
  refine wp_of ?_ q
  unfold getItemD
  rw [hd, if_neg (by decide), h]
  simp only [hi]
theorem get_dic {n : Nat} {kvs : List (D × D)} {k v : D} (h : S[n]? = some (.dic kvs) ∧ keyFits kvs k = true ∨ S[n]? = some (.fdc kvs) ∧ keyTup k = true) (hv : valD kvs k = some v) (q : Q v S) : Wp (getItemD (.ref n) k S) Q := by
  refine wp_of ?_ q
  rcases h with ⟨h, hk⟩ | ⟨h, hk⟩
  · simp [getItemD, isDict, kvsOf, h, lookD, hk, hv]
  · simp [getItemD, isDict, kvsOf, h, lookD, hk, hv]
theorem fld_obj {n c : Nat} {fs : List (Nat × D)} {f : Nat} {v : D} (h : S[n]? = some (.obj c fs)) (hv : fs.lookup f = some v) (q : Q v S) : Wp (fieldD (.ref n) f S) Q := wp_of (by simp [fieldD, h, hv]) q
theorem items_lst {n : Nat} {xs : List D} (h : S[n]? = some (.lst xs)) : itemsOf S (.ref n) = some xs := by simp [itemsOf, h]
theorem items_rol {n : Nat} {xs : List D} (h : S[n]? = some (.rol xs)) : itemsOf S (.ref n) = some xs := by simp [itemsOf, h]
/-- what stands in the other store as it stood, but at W -/
def Fr (W : Nat → Prop) (S S' : Store) : Prop := S.length ≤ S'.length ∧ ∀ i, i < S.length → ¬ W i → S'[i]? = S[i]?
def no : Nat → Prop := fun _ => False
theorem Fr.refl (W : Nat → Prop) (S : Store) : Fr W S S := ⟨Nat.le_refl _, fun _ _ _ => rfl⟩
theorem Fr.trans {W W' : Nat → Prop} {S S' S'' : Store} (h : Fr W S S') (h' : Fr W' S' S'') (m : ∀ i, i < S.length → W' i → W i) : Fr W S S'' :=
  ⟨Nat.le_trans h.1 h'.1, fun i hi hw => by rw [h'.2 i (Nat.lt_of_lt_of_le hi h.1) fun w => hw (m i hi w), h.2 i hi hw]⟩
theorem Fr.mono {W W' : Nat → Prop} {S S' : Store} (h : Fr W S S') (m : ∀ i, i < S.length → W i → W' i) : Fr W' S S' := ⟨h.1, fun i hi hw => h.2 i hi fun w => hw (m i hi w)⟩
theorem Fr.set (W : Nat → Prop) (S : Store) (n : Nat) (o : O) (h : W n) : Fr W S (S.set n o) := ⟨by simp, fun i hi hw => by rw [List.getElem?_set_ne]; intro e; subst e; exact hw h⟩
theorem Fr.app (W : Nat → Prop) (S : Store) (T : List O) : Fr W S (S ++ T) := ⟨by simp, fun i hi hw => List.getElem?_append_left hi⟩
theorem Fr.at {W : Nat → Prop} {S S' : Store} (h : Fr W S S') {i : Nat} {o : O} (ho : S[i]? = some o) (hw : ¬ W i) : S'[i]? = some o := by
  rw [h.2 i (List.getElem?_eq_some_iff.mp ho).1 hw, ho]
theorem lt_of {S : Store} {i : Nat} {o : O} (ho : S[i]? = some o) : i < S.length := (List.getElem?_eq_some_iff.mp ho).1
theorem at_new (S : Store) (o : O) : (S ++ [o])[S.length]? = some o := by simp
theorem at_set {S : Store} {n : Nat} {o o' : O} (h : S[n]? = some o) : (S.set n o')[n]? = some o' := by
  rw [List.getElem?_set_self (lt_of h)]
variable {has : Nat → Nat → Bool} {call : Nat → Nat → List D → Store → R D} {m : Option Nat} {a : C D}
theorem wp_lenL (h : Wp (a ρ S) fun x S1 => ∃ n xs, x = .ref n ∧ S1[n]? = some (.lst xs) ∧ Q (.int xs.length) S1) : Wp (lenE has call m a ρ S) Q := wp_len (wp_mono h fun x S1 ⟨n, xs, e, h, q⟩ => by subst e; exact ⟨by simp only [notObj, h], xs.length, by simp only [lenD, kvsOf, itemsOf, h, Option.map_some], q⟩)
theorem wp_lenR (h : Wp (a ρ S) fun x S1 => ∃ n xs, x = .ref n ∧ S1[n]? = some (.rol xs) ∧ Q (.int xs.length) S1) : Wp (lenE has call m a ρ S) Q := wp_len (wp_mono h fun x S1 ⟨n, xs, e, h, q⟩ => by subst e; exact ⟨by simp only [notObj, h], xs.length, by simp only [lenD, kvsOf, itemsOf, h, Option.map_some], q⟩)
theorem wp_lenD (h : Wp (a ρ S) fun x S1 => ∃ n xs, x = .ref n ∧ S1[n]? = some (.dic xs) ∧ Q (.int xs.length) S1) : Wp (lenE has call m a ρ S) Q := wp_len (wp_mono h fun x S1 ⟨n, xs, e, h, q⟩ => by subst e; exact ⟨by simp only [notObj, h], xs.length, by simp only [lenD, kvsOf, h], q⟩)
end RF
end

section
set_option Elab.async false
set_option linter.all false
set_option maxRecDepth 100000
set_option maxHeartbeats 4000000
namespace Q30
open RF PySem
/-- is_whole: 0 thing -/
def b_is_whole (cl : Calls) : CS := (seqS [(retS (andE (isE .int (varE 0)) (notE (isE .bool (varE 0)))))])
theorem e_is_whole (n : Nat) (v0 : D) (S : Store) : (callsI P (n + 1)).f 0 [v0] S = endF (b_is_whole (callsI P n) [some v0] S) := by rw [callsI_eq, callsI_eq]; rfl
/-- is_within: 0 thing, 1 least, 2 most -/
def b_is_within (cl : Calls) : CS := (seqS [(retS (andE (callE (cl.f 0) [(varE 0)]) (chainE .LtE .LtE (varE 1) (varE 0) (varE 2))))])
theorem e_is_within (n : Nat) (v0 v1 v2 : D) (S : Store) : (callsI P (n + 1)).f 1 [v0, v1, v2] S = endF (b_is_within (callsI P n) [some v0, some v1, some v2] S) := by rw [callsI_eq, callsI_eq]; rfl
/-- is_tick: 0 thing -/
def b_is_tick (cl : Calls) : CS := (seqS [(retS (andE (callE (cl.f 0) [(varE 0)]) (cmpE .GtE (varE 0) (cE (.int 0)))))])
theorem e_is_tick (n : Nat) (v0 : D) (S : Store) : (callsI P (n + 1)).f 2 [v0] S = endF (b_is_tick (callsI P n) [some v0] S) := by rw [callsI_eq, callsI_eq]; rfl
/-- need_within: 0 thing, 1 least, 2 most -/
def b_need_within (cl : Calls) : CS := (seqS [(ifS (notT (testE (callE (cl.f 1) [(varE 0), (varE 1), (varE 2)]))) (seqS [(raiseS 1 [badC])]) (seqS []))])
theorem e_need_within (n : Nat) (v0 v1 v2 : D) (S : Store) : (callsI P (n + 1)).f 3 [v0, v1, v2] S = endF (b_need_within (callsI P n) [some v0, some v1, some v2] S) := by rw [callsI_eq, callsI_eq]; rfl
/-- need_value: 0 thing -/
def b_need_value (cl : Calls) : CS := (seqS [(exprS (callE (cl.f 3) [(varE 0), (cE (.int 0)), (cE (.int 999))]))])
theorem e_need_value (n : Nat) (v0 : D) (S : Store) : (callsI P (n + 1)).f 4 [v0] S = endF (b_need_value (callsI P n) [some v0] S) := by rw [callsI_eq, callsI_eq]; rfl
/-- need_tick: 0 thing -/
def b_need_tick (cl : Calls) : CS := (seqS [(ifS (notT (testE (callE (cl.f 2) [(varE 0)]))) (seqS [(raiseS 1 [(cE (.str "no whole number from 0 on"))])]) (seqS []))])
theorem e_need_tick (n : Nat) (v0 : D) (S : Store) : (callsI P (n + 1)).f 5 [v0] S = endF (b_need_tick (callsI P n) [some v0] S) := by rw [callsI_eq, callsI_eq]; rfl
/-- is_part: 0 thing -/
def b_is_part (cl : Calls) : CS := (seqS [(ifS (orT (notT (testE (isE .str (varE 0)))) (notT (testB (chainE .LtE .LtE (cE (.int 1)) (lenE T.isM cl.m (some 1) (varE 0)) (cE (.int 4)))))) (seqS [(retS (cE (.bl false)))]) (seqS [])), (retS (allE (compI (.dyn (varE 0)) always (cmpE .In (varE 0) (cE (.str "abcdefghijklmnopqrstuvwxyz0123456789"))))))])
theorem e_is_part (n : Nat) (v0 : D) (S : Store) : (callsI P (n + 1)).f 6 [v0] S = endF (b_is_part (callsI P n) [some v0] S) := by rw [callsI_eq, callsI_eq]; rfl
/-- is_name: 0 thing -/
def b_is_name (cl : Calls) : CS := (seqS [(ifS (orT (notT (testE (isE .tuple (varE 0)))) (notT (testB (chainE .LtE .LtE (cE (.int 1)) (lenE T.isM cl.m (some 1) (varE 0)) (cE (.int 5)))))) (seqS [(retS (cE (.bl false)))]) (seqS [])), (retS (allE (compI (.dyn (varE 0)) always (callE (cl.f 6) [(varE 0)]))))])
theorem e_is_name (n : Nat) (v0 : D) (S : Store) : (callsI P (n + 1)).f 7 [v0] S = endF (b_is_name (callsI P n) [some v0] S) := by rw [callsI_eq, callsI_eq]; rfl
/-- need_name: 0 thing -/
def b_need_name (cl : Calls) : CS := (seqS [(ifS (notT (testE (callE (cl.f 7) [(varE 0)]))) (seqS [(raiseS 0 [(cE (.str "no name"))])]) (seqS []))])
theorem e_need_name (n : Nat) (v0 : D) (S : Store) : (callsI P (n + 1)).f 8 [v0] S = endF (b_need_name (callsI P n) [some v0] S) := by rw [callsI_eq, callsI_eq]; rfl
/-- law_cell: 0 _law_script, 1 _law_k -/
def b_law_cell (cl : Calls) : CS := (seqS [(ifS (testB (cmpE .Eq (varE 0) (lstE []))) (seqS [(retS (binE .Mult (varE 1) (cE (.int 7919))))]) (seqS [])), (retS (binE .Add (ixE (varE 0) (binE .Mod (varE 1) (lenE T.isM cl.m (some 1) (varE 0)))) (binE .Mult (binE .FloorDiv (varE 1) (lenE T.isM cl.m (some 1) (varE 0))) (cE (.int 104729)))))])
theorem e_law_cell (n : Nat) (v0 v1 : D) (S : Store) : (callsI P (n + 1)).f 9 [v0, v1] S = endF (b_law_cell (callsI P n) [some v0, some v1] S) := by rw [callsI_eq, callsI_eq]; rfl
/-- law_drawn: 0 _law_cell_here, 1 _law_k, 2 _law_more -/
def b_law_drawn (cl : Calls) : CS := (seqS [(setS 2 (binE .Mod (binE .Add (binE .Mult (varE 0) (cE (.int 6364136223846793005))) (binE .Mult (binE .Add (varE 1) (cE (.int 1))) (cE (.int 1442695040888963407)))) (cE (.int 340282366920938463463374607431768211507)))), (setS 2 (binE .Mod (binE .Mult (varE 2) (varE 2)) (cE (.int 340282366920938463463374607431768211297)))), (setS 2 (binE .Mult (binE .Mult (binE .Add (binE .Mod (varE 2) (cE (.int 18446744073709551557))) (cE (.int 1))) (binE .Add (binE .FloorDiv (varE 2) (cE (.int 18446744073709551557))) (cE (.int 1)))) (varE 2))), (retS (binE .Mod (varE 2) (cE (.int 340282366920938463463374607431768211507))))])
theorem e_law_drawn (n : Nat) (v0 v1 : D) (S : Store) : (callsI P (n + 1)).f 10 [v0, v1] S = endF (b_law_drawn (callsI P n) [some v0, some v1, none] S) := by rw [callsI_eq, callsI_eq]; rfl
/-- law_roll: 0 _law_dice, 1 _law_many, 2 _law_told -/
def b_law_roll (cl : Calls) : CS := (seqS [(ifS (testB (cmpE .GtE (ixE (varE 0) (cE (.int 0))) (binE .Pow (cE (.int 10)) (cE (.int 18))))) (seqS [(setS 2 (binE .Mod (ixE (varE 0) (cE (.int 0))) (varE 1))), (subS (varE 0) (cE (.int 0)) (binE .FloorDiv (ixE (varE 0) (cE (.int 0))) (varE 1))), (retS (varE 2))]) (seqS [])), (subS (varE 0) (cE (.int 1)) (binE .Add (ixE (varE 0) (cE (.int 1))) (cE (.int 1)))), (retS (binE .Mod (binE .FloorDiv (callE (cl.f 10) [(ixE (varE 0) (cE (.int 0))), (ixE (varE 0) (cE (.int 1)))]) (cE (.int 8))) (varE 1)))])
theorem e_law_roll (n : Nat) (v0 v1 : D) (S : Store) : (callsI P (n + 1)).f 11 [v0, v1] S = endF (b_law_roll (callsI P n) [some v0, some v1, none] S) := by rw [callsI_eq, callsI_eq]; rfl
/-- law_rounds: 0 _law_script, 1 _law_most -/
def b_law_rounds (cl : Calls) : CS := (seqS [(retS (compE (.range (callE (callB .max2) [(cE (.int 1)), (callE (callB .min2) [(varE 1), (lenE T.isM cl.m (some 1) (varE 0))])])) always (lstE [(callE (cl.f 9) [(varE 1), (varE 0)]), (cE (.int 0))])))])
theorem e_law_rounds (n : Nat) (v0 v1 : D) (S : Store) : (callsI P (n + 1)).f 12 [v0, v1] S = endF (b_law_rounds (callsI P n) [some v0, some v1] S) := by rw [callsI_eq, callsI_eq]; rfl
/-- law_head: 0 _law_dice, 1 _law_parts -/
def b_law_head (cl : Calls) : CS := (seqS [(setS 1 (lstE [(cE (.str "a")), (cE (.str "b")), (cE (.str "c")), (cE (.str "x9")), (cE (.str "long"))])), (retS (tupleE (compI (.range (callE (cl.f 11) [(varE 0), (cE (.int 5))])) always (ixE (varE 2) (binE .Mult (callE (cl.f 11) [(varE 1), (cE (.int 5))]) (callE (cl.f 11) [(varE 1), (cE (.int 2))]))))))])
theorem e_law_head (n : Nat) (v0 : D) (S : Store) : (callsI P (n + 1)).f 13 [v0] S = endF (b_law_head (callsI P n) [some v0, none] S) := by rw [callsI_eq, callsI_eq]; rfl
/-- law_any_name: 0 _law_dice -/
def b_law_any_name (cl : Calls) : CS := (seqS [(retS (ifE (testB (cmpE .Eq (callE (cl.f 11) [(varE 0), (cE (.int 3))]) (cE (.int 0)))) (tupE [(cE (.str "a"))]) (binE .Add (callE (cl.f 13) [(varE 0)]) (tupE [(ixE (lstE [(cE (.str "a")), (cE (.str "b"))]) (callE (cl.f 11) [(varE 0), (cE (.int 2))]))]))))])
theorem e_law_any_name (n : Nat) (v0 : D) (S : Store) : (callsI P (n + 1)).f 14 [v0] S = endF (b_law_any_name (callsI P n) [some v0] S) := by rw [callsI_eq, callsI_eq]; rfl
/-- law_keep: 0 _law_lines, 1 _law_size, 2 _law_name, 3 _law_value, 4 _law_until, 5 _law_now, 6 _law_left -/
def b_law_keep (cl : Calls) : CS := (seqS [(setS 6 (compE (.dyn (varE 0)) (testB (cmpE .NotEq (ixE (varE 0) (cE (.int 0))) (varE 3))) (varE 0))), (ifS (orT (testB (cmpE .LtE (varE 4) (varE 5))) (testB (cmpE .Eq (varE 1) (cE (.int 0))))) (seqS [(retS (varE 6))]) (seqS [])), (setS 6 (binE .Add (varE 6) (lstE [(tupE [(varE 2), (varE 3), (varE 4)])]))), (retS (ifE (testB (cmpE .Gt (lenE T.isM cl.m (some 1) (varE 6)) (varE 1))) (sliceE (varE 6) (some (cE (.int 1))) none) (varE 6)))])
theorem e_law_keep (n : Nat) (v0 v1 v2 v3 v4 v5 : D) (S : Store) : (callsI P (n + 1)).f 15 [v0, v1, v2, v3, v4, v5] S = endF (b_law_keep (callsI P n) [some v0, some v1, some v2, some v3, some v4, some v5, none] S) := by rw [callsI_eq, callsI_eq]; rfl
/-- law_got: 0 _law_lines, 1 _law_name, 2 _law_now, 3 _law_some -/
def b_law_got (cl : Calls) : CS := (seqS [(setS 3 (compE (.dyn (varE 0)) (andT (testB (cmpE .Eq (ixE (varE 0) (cE (.int 0))) (varE 2))) (testB (cmpE .Gt (ixE (varE 0) (cE (.int 2))) (varE 3)))) (varE 0))), (ifS (testB (cmpE .Eq (varE 3) (lstE []))) (seqS [(retS (tupE [(cE .non), (varE 0)]))]) (seqS [])), (retS (tupE [(sliceE (ixE (varE 3) (cE (.int 0))) (some (cE (.int 1))) none), (binE .Add (compE (.dyn (varE 0)) (testB (cmpE .NotEq (ixE (varE 0) (cE (.int 0))) (varE 2))) (varE 0)) (varE 3))]))])
theorem e_law_got (n : Nat) (v0 v1 v2 : D) (S : Store) : (callsI P (n + 1)).f 16 [v0, v1, v2] S = endF (b_law_got (callsI P n) [some v0, some v1, some v2, none] S) := by rw [callsI_eq, callsI_eq]; rfl
/-- law: 0 _law_script, 1 _law_dice, 2 _law_room, 3 _law_lines, 4 _law_now, 5 _law_keeps, 6 _law_turn, 7 _law_kind, 8 _law_name, 9 _law_value, 10 _law_until, 11 _law_due -/
def b_law (cl : Calls) : CS := (seqS [(forS (.dyn (callE (cl.f 12) [(varE 0), (cE (.int 4))])) [1] true (seqS [(parS [2, 3, 4] [(callE (cl.f 11) [(varE 1), (cE (.int 6))]), (lstE []), (cE (.int 0))]), (setS 5 (makeE (cl.m 0 0) 0 [(varE 2)])), (forS (.range (callE (cl.f 11) [(varE 1), (cE (.int 31))])) [6] true (seqS [(parS [7, 8, 9] [(callE (cl.f 11) [(varE 1), (cE (.int 5))]), (callE (cl.f 14) [(varE 1)]), (callE (cl.f 11) [(varE 1), (cE (.int 1000))])]), (setS 4 (binE .Add (varE 4) (callE (cl.f 11) [(varE 1), (cE (.int 2))]))), (ifS (testB (cmpE .Lt (varE 7) (cE (.int 2)))) (seqS [(setS 10 (binE .Add (varE 4) (callE (cl.f 11) [(varE 1), (cE (.int 6))]))), (ifS (testB (cmpE .IsNot (methE T.isM cl.m (some 6) none (varE 5) [(varE 8), (varE 9), (varE 10), (varE 4)]) (cE .non))) (seqS [(retS (cE (.bl false)))]) (seqS [])), (setS 3 (callE (cl.f 15) [(varE 3), (varE 2), (varE 8), (varE 9), (varE 10), (varE 4)]))]) (seqS [(ifS (testB (cmpE .Lt (varE 7) (cE (.int 4)))) (seqS [(tupS [11, 3] (callE (cl.f 16) [(varE 3), (varE 8), (varE 4)])), (ifS (testB (cmpE .NotEq (methE T.isM cl.m (some 3) none (varE 5) [(varE 8), (varE 4)]) (varE 11))) (seqS [(retS (cE (.bl false)))]) (seqS []))]) (seqS [(ifS (testB (cmpE .NotEq (methE T.isM cl.m (some 2) none (varE 5) [(varE 4)]) (compE (.dyn (varE 3)) (testB (cmpE .LtE (ixE (varE 0) (cE (.int 2))) (varE 5))) (ixE (varE 0) (cE (.int 0)))))) (seqS [(retS (cE (.bl false)))]) (seqS [])), (setS 3 (compE (.dyn (varE 3)) (testB (cmpE .Gt (ixE (varE 0) (cE (.int 2))) (varE 5))) (varE 0)))]))])), (ifS (orT (testB (cmpE .NotEq (methE T.isM cl.m (some 8) none (varE 5) []) (varE 3))) (testB (cmpE .NotEq (lenE T.isM cl.m (some 1) (varE 5)) (lenE T.isM cl.m (some 1) (varE 3))))) (seqS [(retS (cE (.bl false)))]) (seqS []))]))])), (retS (cE (.bl true)))])
theorem e_law (n : Nat) (v0 : D) (S : Store) : (callsI P (n + 1)).f 17 [v0] S = endF (b_law (callsI P n) [some v0, none, none, none, none, none, none, none, none, none, none, none] S) := by rw [callsI_eq, callsI_eq]; rfl
/-- Keeps_init: 0 self, 1 room -/
def b_Keeps_init (cl : Calls) : CS := (seqS [(exprS (callE (cl.f 3) [(varE 1), (cE (.int 0)), (cE (.int 9))])), (fldS T.plain (varE 0) 7 (varE 1)), (fldS T.plain (varE 0) 4 dictE)])
theorem e_Keeps_init (n : Nat) (v0 v1 : D) (S : Store) : (callsI P (n + 1)).m 0 0 [v0, v1] S = endF (b_Keeps_init (callsI P n) [some v0, some v1] S) := by rw [callsI_eq, callsI_eq]; rfl
/-- Keeps_put: 0 self, 1 name, 2 value, 3 until, 4 now -/
def b_Keeps_put (cl : Calls) : CS := (seqS [(exprS (callE (cl.f 8) [(varE 1)])), (exprS (callE (cl.f 4) [(varE 2)])), (exprS (callE (cl.f 5) [(varE 3)])), (exprS (callE (cl.f 5) [(varE 4)])), (ifS (testB (cmpE .In (varE 1) (fldE (varE 0) 4))) (seqS [(delS (fldE (varE 0) 4) (varE 1))]) (seqS [])), (ifS (testB (cmpE .Gt (varE 3) (varE 4))) (seqS [(subS (fldE (varE 0) 4) (varE 1) (tupE [(varE 2), (varE 3)]))]) (seqS [])), (ifS (testB (cmpE .Gt (lenE T.isM cl.m (some 1) (fldE (varE 0) 4)) (fldE (varE 0) 7))) (seqS [(delS (fldE (varE 0) 4) (ixE (callE (callB .list) [(fldE (varE 0) 4)]) (cE (.int 0))))]) (seqS []))])
theorem e_Keeps_put (n : Nat) (v0 v1 v2 v3 v4 : D) (S : Store) : (callsI P (n + 1)).m 0 6 [v0, v1, v2, v3, v4] S = endF (b_Keeps_put (callsI P n) [some v0, some v1, some v2, some v3, some v4] S) := by rw [callsI_eq, callsI_eq]; rfl
/-- Keeps_got: 0 self, 1 name, 2 now, 3 thing -/
def b_Keeps_got (cl : Calls) : CS := (seqS [(exprS (callE (cl.f 8) [(varE 1)])), (exprS (callE (cl.f 5) [(varE 2)])), (ifS (orT (testB (cmpE .NotIn (varE 1) (fldE (varE 0) 4))) (testB (cmpE .LtE (ixE (ixE (fldE (varE 0) 4) (varE 1)) (cE (.int 1))) (varE 2)))) (seqS [(retS (cE .non))]) (seqS [])), (setS 3 (methE T.isM cl.m (some 5) (some .pop) (fldE (varE 0) 4) [(varE 1)])), (subS (fldE (varE 0) 4) (varE 1) (varE 3)), (retS (varE 3))])
theorem e_Keeps_got (n : Nat) (v0 v1 v2 : D) (S : Store) : (callsI P (n + 1)).m 0 3 [v0, v1, v2] S = endF (b_Keeps_got (callsI P n) [some v0, some v1, some v2, none] S) := by rw [callsI_eq, callsI_eq]; rfl
/-- Keeps_aged: 0 self, 1 now, 2 name, 3 names -/
def b_Keeps_aged (cl : Calls) : CS := (seqS [(exprS (callE (cl.f 5) [(varE 1)])), (setS 3 (compE (.dyn (fldE (varE 0) 4)) (testB (cmpE .LtE (ixE (ixE (fldE (varE 1) 4) (varE 0)) (cE (.int 1))) (varE 2))) (varE 0))), (forS (.dyn (varE 3)) [2] true (seqS [(delS (fldE (varE 0) 4) (varE 2))])), (retS (varE 3))])
theorem e_Keeps_aged (n : Nat) (v0 v1 : D) (S : Store) : (callsI P (n + 1)).m 0 2 [v0, v1] S = endF (b_Keeps_aged (callsI P n) [some v0, some v1, none, none] S) := by rw [callsI_eq, callsI_eq]; rfl
/-- Keeps_rows: 0 self -/
def b_Keeps_rows (cl : Calls) : CS := (seqS [(retS (compE (.dyn (fldE (varE 0) 4)) always (tupE [(varE 0), (ixE (ixE (fldE (varE 1) 4) (varE 0)) (cE (.int 0))), (ixE (ixE (fldE (varE 1) 4) (varE 0)) (cE (.int 1)))])))])
theorem e_Keeps_rows (n : Nat) (v0 : D) (S : Store) : (callsI P (n + 1)).m 0 8 [v0] S = endF (b_Keeps_rows (callsI P n) [some v0] S) := by rw [callsI_eq, callsI_eq]; rfl
/-- Keeps_len: 0 self -/
def b_Keeps_len (cl : Calls) : CS := (seqS [(retS (lenE T.isM cl.m (some 1) (fldE (varE 0) 4)))])
theorem e_Keeps_len (n : Nat) (v0 : D) (S : Store) : (callsI P (n + 1)).m 0 1 [v0] S = endF (b_Keeps_len (callsI P n) [some v0] S) := by rw [callsI_eq, callsI_eq]; rfl
end Q30
end

section
set_option Elab.async false
set_option linter.all false
set_option maxRecDepth 100000
namespace Q30
open RF PySem
local macro_rules
  | `(tactic| array_mem_dec) => `(tactic| repeat (first
  | with_reducible apply wf_cons | with_reducible apply wf_nil | with_reducible apply wf_expr | with_reducible apply wf_ret | with_reducible apply wf_if | with_reducible apply wf_set | with_reducible apply wf_par | with_reducible apply wf_tup | with_reducible apply wf_fld | with_reducible apply wf_sub | with_reducible apply wf_del | with_reducible apply wf_dyn | with_reducible apply wf_range
  | ((with_reducible apply wp_var); · rfl) | with_reducible apply wp_c | with_reducible apply wp_bin | with_reducible apply wp_cmp | with_reducible apply wp_ix | with_reducible apply wp_fld | with_reducible apply wp_is | with_reducible apply wp_not | with_reducible apply wp_and | with_reducible apply wp_chain | with_reducible apply wp_if | with_reducible apply wp_nil | with_reducible apply wp_cons | ((with_reducible refine wp_tup ?_ ?_); · rfl) | ((with_reducible refine wp_lst ?_ ?_); · rfl) | with_reducible apply wp_dict | with_reducible apply wp_call
  | with_reducible apply wp_compE | with_reducible apply wp_tupleE | with_reducible apply wp_allE | with_reducible apply wp_dyn | with_reducible apply wp_range | with_reducible apply wp_testE | with_reducible apply wp_testB | with_reducible apply wp_notT | with_reducible apply wp_andT | with_reducible apply wp_orT | with_reducible apply wp_always | with_reducible apply wp_slice1
  | ((with_reducible apply wp_of (r := opD _ _ _ _)); · rfl)))
theorem eq_of {α : Type} {r : R α} {a : α} {S : Store} (h : Wp r fun x S' => x = a ∧ S' = S) : r = .ok a S := by
  obtain ⟨x, S', e, rfl, rfl⟩ := wp_ex h
  exact e
theorem is_whole_ok (n : Nat) (i : Int) (S : Store) : (callsI P (n + 1)).f 0 [.int i] S = .ok (.bl true) S := by rw [e_is_whole]; rfl
theorem is_within_ok (n : Nat) (i lo hi : Int) (S : Store) (h1 : lo ≤ i) (h2 : i ≤ hi) : (callsI P (n + 2)).f 1 [.int i, .int lo, .int hi] S = .ok (.bl true) S := by
  rw [e_is_within]
  apply eq_of
  apply wp_end
  unfold b_is_within
  array_mem_dec
  refine wp_of (is_whole_ok _ _ _) ?_
  refine ⟨_, rfl, fun _ => ?_, fun h => by simp at h⟩
  array_mem_dec
  refine wp_of rfl ?_
  refine ⟨_, rfl, fun _ => ?_, fun h => by simp at h; omega⟩
  array_mem_dec
  refine wp_of rfl ?_
  refine ⟨?_, rfl⟩
  simp [h2]
theorem is_tick_ok (n : Nat) (i : Int) (S : Store) (h : 0 ≤ i) : (callsI P (n + 2)).f 2 [.int i] S = .ok (.bl true) S := by
  rw [e_is_tick]
  apply eq_of
  apply wp_end
  unfold b_is_tick
  array_mem_dec
  refine wp_of (is_whole_ok _ _ _) ?_
  refine ⟨_, rfl, fun _ => ?_, fun h => by simp at h⟩
  array_mem_dec
  refine wp_of rfl ?_
  refine ⟨?_, rfl⟩
  simp [h]
theorem need_within_ok (n : Nat) (i lo hi : Int) (S : Store) (h1 : lo ≤ i) (h2 : i ≤ hi) : (callsI P (n + 3)).f 3 [.int i, .int lo, .int hi] S = .ok .non S := by
  rw [e_need_within]
  apply eq_of
  apply wp_end
  unfold b_need_within
  array_mem_dec
  refine wp_of (is_within_ok _ _ _ _ _ h1 h2) ?_
  refine ⟨_, rfl, fun h => by simp at h, fun _ => ?_⟩
  exact ⟨rfl, rfl⟩
theorem need_value_ok (n : Nat) (i : Int) (S : Store) (h1 : 0 ≤ i) (h2 : i ≤ 999) : (callsI P (n + 4)).f 4 [.int i] S = .ok .non S := by
  rw [e_need_value]
  apply eq_of
  apply wp_end
  unfold b_need_value
  array_mem_dec
  refine wp_of (need_within_ok _ _ _ _ _ h1 h2) ?_
  exact ⟨rfl, rfl⟩
theorem need_tick_ok (n : Nat) (i : Int) (S : Store) (h : 0 ≤ i) : (callsI P (n + 3)).f 5 [.int i] S = .ok .non S := by
  rw [e_need_tick]
  apply eq_of
  apply wp_end
  unfold b_need_tick
  array_mem_dec
  refine wp_of (is_tick_ok _ _ _ h) ?_
  exact ⟨_, rfl, fun h => by simp at h, fun _ => ⟨rfl, rfl⟩⟩
/-- the parts that are drawn -/
def partS : List Str := ["a", "b", "c", "x9", "long"]
def parts : List D := partS.map D.str
theorem signs_ok : ∀ x ∈ partS, (x.cps.toList.all fun c => !(Builtin.Str.occurrences "abcdefghijklmnopqrstuvwxyz0123456789" ⟨#[c]⟩ 0 (Str.length "abcdefghijklmnopqrstuvwxyz0123456789") 1).isEmpty) = true := by decide +kernel
theorem part_len : ∀ x ∈ partS, 1 ≤ x.length ∧ x.length ≤ 4 ∧ x.length ≤ sizeLine ∧ x.cps.size ≤ sizeLine := by decide +kernel
theorem bools_true (l : List D) : bools (l.map fun _ => D.bl true) = some (l.map fun _ => true) := by
  induction l with
  | nil => rfl
  | cons x xs ih => simp [bools, ih]
theorem filter_all (l : List D) : (l.filter fun _ => true) = l := by
  induction l with
  | nil => rfl
  | cons x xs ih => simp
theorem is_part_ok (n : Nat) (x : D) (S : Store) (h : x ∈ parts) : (callsI P (n + 1)).f 6 [x] S = .ok (.bl true) S := by
  obtain ⟨x, hx, rfl⟩ := List.mem_map.mp h
  obtain ⟨h1, h2, h3, h4⟩ := part_len x hx
  rw [e_is_part]
  apply eq_of
  apply wp_end
  unfold b_is_part
  array_mem_dec
  refine wp_of rfl ?_
  refine ⟨_, rfl, fun h => by simp at h, fun _ => ?_⟩
  array_mem_dec
  refine wp_len ?_
  array_mem_dec
  refine ⟨rfl, x.length, by simp [lenD, h3], ?_⟩
  refine wp_of rfl ?_
  refine ⟨_, rfl, fun _ => ?_, fun h => by simp at h; omega⟩
  array_mem_dec
  refine wp_of rfl ?_
  refine ⟨_, rfl, ?_⟩
  refine ⟨fun h => by simp at h; omega, fun _ => ?_⟩
  array_mem_dec
  refine wp_guard (by simpa using h4) (wp_noEx (wp_pure (fun _ => true) (fun _ => .bl true) rfl (fun _ _ => rfl) (fun y hy _ => ?_) ?_))
  · obtain ⟨c, hc, rfl⟩ := List.mem_map.mp hy
    apply eq_of
    array_mem_dec
    refine wp_of (a := .bl true) (S := S) ?_ ⟨rfl, rfl⟩
    show optB (some (!(Builtin.Str.occurrences "abcdefghijklmnopqrstuvwxyz0123456789" ⟨#[c]⟩ 0 (Str.length "abcdefghijklmnopqrstuvwxyz0123456789") 1).isEmpty)) S = _
    rw [List.all_eq_true.mp (signs_ok x hx) c hc]
    rfl
  · rw [filter_all]
    refine ⟨_, bools_true _, ?_, rfl⟩
    simp
/-- a name that is drawn -/
def NameOk (x : D) : Prop := ∃ ps : List D, x = .tup ps ∧ 1 ≤ ps.length ∧ ps.length ≤ 5 ∧ ∀ p ∈ ps, p ∈ parts
theorem is_name_ok (n : Nat) (x : D) (S : Store) (h : NameOk x) : (callsI P (n + 2)).f 7 [x] S = .ok (.bl true) S := by
  obtain ⟨ps, rfl, h1, h2, h3⟩ := h
  rw [e_is_name]
  apply eq_of
  apply wp_end
  unfold b_is_name
  array_mem_dec
  refine wp_of rfl ?_
  refine ⟨_, rfl, fun h => by simp at h, fun _ => ?_⟩
  array_mem_dec
  refine wp_len ?_
  array_mem_dec
  refine ⟨rfl, _, rfl, ?_⟩
  refine wp_of rfl ?_
  refine ⟨_, rfl, fun _ => ?_, fun h => by simp at h; omega⟩
  array_mem_dec
  refine wp_of rfl ?_
  refine ⟨_, rfl, ?_⟩
  refine ⟨fun h => by simp at h; omega, fun _ => ?_⟩
  array_mem_dec
  refine wp_noEx (wp_pure (fun _ => true) (fun _ => .bl true) rfl (fun _ _ => rfl) (fun y hy _ => ?_) ?_)
  · apply eq_of
    array_mem_dec
    refine wp_of (is_part_ok _ _ _ (h3 y hy)) ?_
    exact ⟨rfl, rfl⟩
  · rw [filter_all]
    refine ⟨_, bools_true ps, ?_, rfl⟩
    simp
theorem need_name_ok (n : Nat) (x : D) (S : Store) (h : NameOk x) : (callsI P (n + 3)).f 8 [x] S = .ok .non S := by
  rw [e_need_name]
  apply eq_of
  apply wp_end
  unfold b_need_name
  array_mem_dec
  refine wp_of (is_name_ok _ _ _ h) ?_
  exact ⟨_, rfl, fun h => by simp at h, fun _ => ⟨rfl, rfl⟩⟩
end Q30
end

section
set_option Elab.async false
set_option linter.all false
set_option maxRecDepth 100000
namespace Q30
open RF PySem
local macro_rules
  | `(tactic| array_mem_dec) => `(tactic| repeat (first
  | with_reducible apply wf_cons | with_reducible apply wf_nil | with_reducible apply wf_expr | with_reducible apply wf_ret | with_reducible apply wf_if | with_reducible apply wf_set | with_reducible apply wf_par | with_reducible apply wf_tup | with_reducible apply wf_fld | with_reducible apply wf_sub | with_reducible apply wf_del | with_reducible apply wf_dyn | with_reducible apply wf_range
  | ((with_reducible apply wp_var); · rfl) | with_reducible apply wp_c | with_reducible apply wp_bin | with_reducible apply wp_cmp | with_reducible apply wp_ix | with_reducible apply wp_fld | with_reducible apply wp_is | with_reducible apply wp_not | with_reducible apply wp_and | with_reducible apply wp_chain | with_reducible apply wp_if | with_reducible apply wp_nil | with_reducible apply wp_cons | ((with_reducible refine wp_tup ?_ ?_); · rfl) | ((with_reducible refine wp_lst ?_ ?_); · rfl) | with_reducible apply wp_dict | with_reducible apply wp_call
  | with_reducible apply wp_compE | with_reducible apply wp_tupleE | with_reducible apply wp_allE | with_reducible apply wp_dyn | with_reducible apply wp_range | with_reducible apply wp_testE | with_reducible apply wp_testB | with_reducible apply wp_notT | with_reducible apply wp_andT | with_reducible apply wp_orT | with_reducible apply wp_always | with_reducible apply wp_slice1
  | ((with_reducible apply wp_of (r := opD _ _ _ _)); · rfl)))
theorem op_mul {a b : Int} {S : Store} {Q : D → Store → Prop} (h : mulOk a b = true) (q : Q (.int (a * b)) S) : Wp (opD .Mult (.int a) (.int b) S) Q := wp_of (by show guardR (mulOk a b) _ = _; rw [h]; rfl) q
theorem op_div {a b : Int} {S : Store} {Q : D → Store → Prop} (h : 0 < b) (h2 : b < 2 ^ 250) (q : Q (.int (a / b)) S) : Wp (opD .FloorDiv (.int a) (.int b) S) Q := wp_of (by show guardR (decide (0 < b) && decide (b < 2 ^ 250)) _ = _; rw [decide_eq_true h, decide_eq_true h2]; rfl) q
theorem op_mod {a b : Int} {S : Store} {Q : D → Store → Prop} (h : 0 < b) (q : Q (.int (a % b)) S) : Wp (opD .Mod (.int a) (.int b) S) Q := wp_of (by show guardR (decide (0 < b)) _ = _; rw [decide_eq_true h]; rfl) q
theorem mul_r {a b : Int} (h : b.natAbs < 2 ^ 64) : mulOk a b = true := by simp [mulOk, h]
theorem mul_l {a b : Int} (h : a.natAbs < 2 ^ 64) : mulOk a b = true := by simp [mulOk, h]
theorem mul_b {a b : Int} (h : a.natAbs < 2 ^ 250) (h' : b.natAbs < 2 ^ 250) : mulOk a b = true := by simp [mulOk, h, h']
theorem getI_in {xs : List D} {i : Int} (h1 : 0 ≤ i) (h2 : i < xs.length) : ∃ x, getI xs i = some x ∧ x ∈ xs := by
  have h3 : i.toNat < xs.length := by omega
  refine ⟨xs[i.toNat], ?_, List.getElem_mem _⟩
  simp [getI, ixI, h1, h2]
theorem drawn_ok (n : Nat) (a b : Int) (S : Store) : ∃ z, (callsI P (n + 1)).f 10 [.int a, .int b] S = .ok (.int z) S := by
  suffices h : Wp ((callsI P (n + 1)).f 10 [.int a, .int b] S) fun v S' => (∃ z, v = .int z) ∧ S' = S by
    obtain ⟨v, S', e, ⟨z, rfl⟩, rfl⟩ := wp_ex h
    exact ⟨z, e⟩
  rw [e_law_drawn]
  apply wp_end
  unfold b_law_drawn
  array_mem_dec
  refine op_mul (mul_r (by decide)) ?_
  array_mem_dec
  refine op_mul (mul_r (by decide)) ?_
  array_mem_dec
  refine op_mul ?_ ?_
  · have h1 := Int.emod_nonneg (a * 6364136223846793005 + (b + 1) * 1442695040888963407) (b := 340282366920938463463374607431768211507) (by decide)
    have h2 := Int.emod_lt_of_pos (a * 6364136223846793005 + (b + 1) * 1442695040888963407) (b := 340282366920938463463374607431768211507) (by decide)
    exact mul_b (by omega) (by omega)
  generalize ((a * 6364136223846793005 + (b + 1) * 1442695040888963407) % 340282366920938463463374607431768211507) * ((a * 6364136223846793005 + (b + 1) * 1442695040888963407) % 340282366920938463463374607431768211507) = w
  array_mem_dec
  have h1 := Int.emod_nonneg w (b := 340282366920938463463374607431768211297) (by decide)
  have h2 := Int.emod_lt_of_pos w (b := 340282366920938463463374607431768211297) (by decide)
  generalize w % 340282366920938463463374607431768211297 = y at h1 h2
  have h3 := Int.emod_nonneg y (b := 18446744073709551557) (by decide)
  have h4 := Int.emod_lt_of_pos y (b := 18446744073709551557) (by decide)
  have h5 : 0 ≤ y / 18446744073709551557 := by omega
  have h6 : y / 18446744073709551557 < 2 ^ 65 := by omega
  refine op_mul (mul_l ?_) ?_
  · show (y % 18446744073709551557 + 1).natAbs < 2 ^ 64
    omega
  array_mem_dec
  refine op_mul (mul_b ?_ ?_) ?_
  · show ((y % 18446744073709551557 + 1) * (y / 18446744073709551557 + 1)).natAbs < 2 ^ 250
    rw [Int.natAbs_mul]
    have a1 : (y % 18446744073709551557 + 1).natAbs ≤ 2 ^ 64 := by omega
    have a2 : (y / 18446744073709551557 + 1).natAbs ≤ 2 ^ 66 := by omega
    exact Nat.lt_of_le_of_lt (Nat.mul_le_mul a1 a2) (by decide)
  · show y.natAbs < 2 ^ 250
    omega
  array_mem_dec
  exact ⟨⟨_, rfl⟩, rfl⟩
/-- a list of two numbers: the dice -/
def Dice (d : Nat) (S : Store) : Prop := ∃ a b, S[d]? = some (.lst [.int a, .int b])
theorem cell_ok (n : Nat) (ns : List Int) (k : Int) (S : Store) (h : S[0]? = some (.rol (ns.map D.int))) (hk : 0 ≤ k) (hn : ns.length ≤ 63) : Wp ((callsI P (n + 1)).f 9 [.ref 0, .int k] S) fun v S' => (∃ z, v = .int z) ∧ Fr no S S' := by
  rw [e_law_cell]
  apply wp_end
  unfold b_law_cell
  array_mem_dec
  have h' : (S ++ [O.lst []])[0]? = some (.rol (ns.map D.int)) := (Fr.app no S [O.lst []]).at h (fun h => h)
  refine wp_of (a := .bl (ns.map D.int).isEmpty) (S := S ++ [.lst []]) ?_ ?_
  · simp only [cmpD, eqTop, h', at_new, optB]
  refine ⟨_, rfl, fun hc => ?_, fun hc => ?_⟩
  · array_mem_dec
    refine op_mul (mul_r (by decide)) ?_
    exact ⟨⟨_, rfl⟩, Fr.app _ _ _⟩
  · array_mem_dec
    have hl : 0 < (ns.map D.int).length := by
      cases ns with
      | nil => simp at hc
      | cons x xs => simp
    have hl' : (0 : Int) < ((ns.map D.int).length : Int) := by omega
    have hb : ((ns.map D.int).length : Int) < 2 ^ 250 := by simp; omega
    refine wp_lenR ?_
    array_mem_dec
    refine ⟨_, _, rfl, h', ?_⟩
    refine op_mod hl' ?_
    obtain ⟨x, e, hm⟩ := getI_in (xs := ns.map D.int) (i := k % ((ns.map D.int).length : Int)) (Int.emod_nonneg _ (by omega)) (Int.emod_lt_of_pos _ hl')
    obtain ⟨z, hz, rfl⟩ := List.mem_map.mp hm
    refine get_items (items_rol h') e ?_
    array_mem_dec
    refine wp_lenR ?_
    array_mem_dec
    refine ⟨_, _, rfl, h', ?_⟩
    refine op_div hl' hb ?_
    array_mem_dec
    refine op_mul (mul_r (by decide)) ?_
    array_mem_dec
    exact ⟨⟨_, rfl⟩, Fr.app _ _ _⟩
theorem set_lst {S : Store} {Q : Unit → Store → Prop} {n j : Nat} {xs : List D} {k : Int} {v : D} (h : S[n]? = some (.lst xs)) (hi : ixI xs.length k = some j) (q : Q () (S.set n (.lst (xs.set j v)))) : Wp (setItemD (.ref n) (.int k) v S) Q := wp_of (by simp only [setItemD, h, hi]) q
theorem roll_ok (n d : Nat) (m : Int) (S : Store) (hd : Dice d S) (h1 : 0 < m) (h2 : m < 2 ^ 250) : Wp ((callsI P (n + 2)).f 11 [.ref d, .int m] S) fun v S' => (∃ z, v = .int z ∧ 0 ≤ z ∧ z < m) ∧ Dice d S' ∧ Fr (· = d) S S' ∧ S'.length = S.length := by
  obtain ⟨a, b, hd⟩ := hd
  rw [e_law_roll]
  apply wp_end
  unfold b_law_roll
  array_mem_dec
  refine get_items (items_lst hd) rfl ?_
  array_mem_dec
  refine wp_of rfl ?_
  refine ⟨_, rfl, fun _ => ?_, fun _ => ?_⟩
  · array_mem_dec
    refine get_items (items_lst hd) rfl ?_
    array_mem_dec
    refine op_mod h1 ?_
    array_mem_dec
    refine get_items (items_lst hd) rfl ?_
    array_mem_dec
    refine op_div h1 h2 ?_
    array_mem_dec
    refine set_lst hd rfl ?_
    array_mem_dec
    exact ⟨⟨_, rfl, Int.emod_nonneg _ (by omega), Int.emod_lt_of_pos _ h1⟩, ⟨_, _, at_set hd⟩, Fr.set _ _ _ _ rfl, by simp⟩
  · array_mem_dec
    refine get_items (items_lst hd) rfl ?_
    array_mem_dec
    refine set_lst hd rfl ?_
    have hd' := at_set (o' := .lst [.int a, .int (b + 1)]) hd
    array_mem_dec
    refine get_items (items_lst hd') rfl ?_
    array_mem_dec
    refine get_items (items_lst hd') rfl ?_
    array_mem_dec
    obtain ⟨z, e⟩ := drawn_ok n a (b + 1) (S.set d (.lst [.int a, .int (b + 1)]))
    refine wp_of e ?_
    array_mem_dec
    refine op_mod h1 ?_
    exact ⟨⟨_, rfl, Int.emod_nonneg _ (by omega), Int.emod_lt_of_pos _ h1⟩, ⟨_, _, hd'⟩, Fr.set _ _ _ _ rfl, by simp⟩
theorem len_range (lo : Int) (n : Nat) : (rangeL lo n).length = n := by simp [rangeL]
theorem get_range {lo : Int} {n i : Nat} {x : D} (h : (rangeL lo n)[i]? = some x) : x = .int (lo + (i : Int)) := by
  unfold rangeL at h
  rw [List.getElem?_map] at h
  cases hi : (List.range n)[i]? with
  | none => simp [hi] at h
  | some k =>
    obtain ⟨h1, h2⟩ := List.getElem?_eq_some_iff.mp hi
    simp at h2
    subst h2
    rw [hi] at h
    simpa using h.symm
theorem rounds_ok (n : Nat) (ns : List Int) (hn : ns.length ≤ 63) (S : Store) (h : S[0]? = some (.rol (ns.map D.int))) : Wp ((callsI P (n + 2)).f 12 [.ref 0, .int 4] S) fun v S' => ∃ g ds, v = .ref g ∧ S'[g]? = some (.lst ds) ∧ S.length ≤ g ∧ (∀ x ∈ ds, ∃ d, x = .ref d ∧ Dice d S') ∧ Fr no S S' := by
  rw [e_law_rounds]
  apply wp_end
  unfold b_law_rounds
  array_mem_dec
  refine wp_lenR ?_
  array_mem_dec
  refine ⟨_, _, rfl, h, ?_⟩
  array_mem_dec
  refine wp_of rfl ?_
  array_mem_dec
  refine wp_of rfl ?_
  refine ⟨_, rfl, ?_, ?_⟩
  · simp only [List.length_map, rangeOk, Bool.and_eq_true, decide_eq_true_eq, sizeLine]
    split <;> split <;> omega
  refine wp_comp (Inv := fun i ys S' => (∀ x ∈ ys, ∃ d, x = .ref d ∧ Dice d S') ∧ Fr no S S') ⟨fun x hx => by simp at hx, Fr.refl _ _⟩ (fun _ _ _ _ _ => rfl) (fun i x ys S1 hx hI => ?_) (fun ys S1 hI => ?_)
  · rw [get_range hx]
    obtain ⟨h1, h2⟩ := hI
    array_mem_dec
    rw [if_pos rfl]
    array_mem_dec
    refine wp_mono (cell_ok n ns _ S1 (h2.at h fun h => h) (by omega) hn) fun v S2 ⟨⟨z, ez⟩, hf⟩ => ?_
    subst ez
    array_mem_dec
    have hf2 : Fr no S1 (S2 ++ [O.lst [.int z, .int 0]]) := hf.trans (Fr.app no _ _) fun _ _ h => h
    refine ⟨fun y hy => ?_, h2.trans hf2 fun _ _ h => h⟩
    rcases List.mem_append.mp hy with hy | hy
    · obtain ⟨d, e, a, b, hd⟩ := h1 y hy
      exact ⟨d, e, a, b, hf2.at hd fun h => h⟩
    · rw [List.mem_singleton.mp hy]
      exact ⟨_, rfl, _, _, at_new _ _⟩
  · obtain ⟨h1, h2⟩ := hI
    have hf : Fr no S1 (S1 ++ [O.lst ys]) := Fr.app _ _ _
    refine ⟨_, ys, rfl, at_new _ _, h2.1, fun x hx => ?_, h2.trans hf fun _ _ h => h⟩
    obtain ⟨d, e, a, b, hd⟩ := h1 x hx
    exact ⟨d, e, a, b, hf.at hd fun h => h⟩
theorem Dice.lt {d : Nat} {S : Store} (h : Dice d S) : d < S.length := by
  obtain ⟨a, b, h⟩ := h
  exact lt_of h
theorem Dice.fr {d : Nat} {S S' : Store} {W : Nat → Prop} (h : Dice d S) (hf : Fr W S S') (hw : ¬ W d) : Dice d S' := by
  obtain ⟨a, b, h⟩ := h
  exact ⟨a, b, hf.at h hw⟩
theorem head_ok (n d : Nat) (S : Store) (hd : Dice d S) : Wp ((callsI P (n + 3)).f 13 [.ref d] S) fun v S' => (∃ ps : List D, v = .tup ps ∧ ps.length ≤ 4 ∧ ∀ p ∈ ps, p ∈ parts) ∧ Dice d S' ∧ Fr (· = d) S S' := by
  rw [e_law_head]
  apply wp_end
  unfold b_law_head
  array_mem_dec
  have hp : (S ++ [O.lst parts])[S.length]? = some (.lst parts) := at_new _ _
  have hne : S.length ≠ d := fun e => by have := hd.lt; omega
  have hf0 : Fr (· = d) S (S ++ [O.lst parts]) := Fr.app _ _ _
  refine wp_mono (roll_ok n d 5 _ (hd.fr (Fr.app no S [O.lst parts]) fun h => h) (by decide) (by decide)) fun v S1 ⟨⟨j, ej, j1, j2⟩, hd1, hf1, _⟩ => ?_
  subst ej
  refine ⟨_, rfl, ?_, ?_⟩
  · simp only [rangeOk, Bool.and_eq_true, decide_eq_true_eq, sizeLine]
    refine ⟨⟨?_, ?_⟩, ?_⟩
    · omega
    · omega
    · exact decide_eq_true (by omega)
  refine wp_comp (Inv := fun i ys S' => S'[S.length]? = some (.lst parts) ∧ Dice d S' ∧ Fr (· = d) S S' ∧ ys.length = i ∧ ∀ p ∈ ys, p ∈ parts) ⟨hf1.at hp hne, hd1, hf0.trans hf1 fun _ _ h => h, rfl, fun x hx => by simp at hx⟩ (fun _ _ _ _ _ => rfl) (fun i x ys S2 hx hI => ?_) (fun ys S2 hI => ?_)
  · obtain ⟨h1, h2, h3, h4, h5⟩ := hI
    rw [get_range hx]
    array_mem_dec
    rw [if_pos rfl]
    array_mem_dec
    refine wp_mono (roll_ok n d 5 _ h2 (by decide) (by decide)) fun v S3 ⟨⟨p, ep, p1, p2⟩, hd3, hf3, _⟩ => ?_
    subst ep
    array_mem_dec
    refine wp_mono (roll_ok n d 2 _ hd3 (by decide) (by decide)) fun v S4 ⟨⟨q, eq, q1, q2⟩, hd4, hf4, _⟩ => ?_
    subst eq
    refine op_mul (mul_r (by omega)) ?_
    have hpq : 0 ≤ p * q ∧ p * q < 5 := by
      have : q = 0 ∨ q = 1 := by omega
      rcases this with rfl | rfl <;> omega
    obtain ⟨y, e, hm⟩ := getI_in (xs := parts) hpq.1 hpq.2
    refine get_items (items_lst (hf4.at (hf3.at h1 hne) hne)) e ?_
    refine ⟨hf4.at (hf3.at h1 hne) hne, hd4, (h3.trans hf3 fun _ _ h => h).trans hf4 fun _ _ h => h, by simp [h4], fun z hz => ?_⟩
    rcases List.mem_append.mp hz with hz | hz
    · exact h5 z hz
    · rw [List.mem_singleton.mp hz]
      exact hm
  · obtain ⟨h1, h2, h3, h4, h5⟩ := hI
    rw [len_range] at h4
    exact ⟨⟨ys, rfl, by omega, h5⟩, h2, h3⟩
theorem any_name_ok (n d : Nat) (S : Store) (hd : Dice d S) : Wp ((callsI P (n + 4)).f 14 [.ref d] S) fun v S' => NameOk v ∧ Dice d S' ∧ Fr (· = d) S S' := by
  rw [e_law_any_name]
  apply wp_end
  unfold b_law_any_name
  array_mem_dec
  refine wp_mono (roll_ok (n + 1) d 3 _ hd (by decide) (by decide)) fun v S1 ⟨⟨j, ej, j1, j2⟩, hd1, hf1, _⟩ => ?_
  subst ej
  array_mem_dec
  refine wp_of rfl ?_
  refine ⟨_, rfl, fun _ => ?_, fun _ => ?_⟩
  · array_mem_dec
    exact ⟨⟨_, rfl, by decide, by decide, by decide +kernel⟩, hd1, hf1⟩
  · array_mem_dec
    refine wp_mono (head_ok n d _ hd1) fun v S2 ⟨⟨ps, ep, l1, m1⟩, hd2, hf2⟩ => ?_
    subst ep
    array_mem_dec
    refine wp_mono (roll_ok (n + 1) d 2 _ (hd2.fr (Fr.app no S2 _) fun h => h) (by decide) (by decide)) fun v S3 ⟨⟨q, eq, q1, q2⟩, hd3, hf3, _⟩ => ?_
    subst eq
    obtain ⟨y, e, hm⟩ := getI_in (xs := [D.str "a", D.str "b"]) q1 q2
    have hne : S2.length ≠ d := fun e => by have := hd2.lt; omega
    refine get_items (items_lst (hf3.at (at_new _ _) hne)) e ?_
    array_mem_dec
    refine wp_of (a := .tup (ps ++ [y])) (S := S3) ?_ ?_
    · show guardR (big (ps.length + 1)) _ = _
      have : big (ps.length + 1) = true := by simp [big, sizeLine]; omega
      rw [this]
      rfl
    refine ⟨⟨_, rfl, by simp, by simp; omega, fun p hp => ?_⟩, hd3, ((hf1.trans hf2 fun _ _ h => h).trans (Fr.app no _ _) fun _ _ h => h.elim).trans hf3 fun _ _ h => h⟩
    rcases List.mem_append.mp hp with hp | hp
    · exact m1 p hp
    · rw [List.mem_singleton.mp hp]
      have : y = D.str "a" ∨ y = D.str "b" := by simpa using hm
      rcases this with rfl | rfl
      · exact List.mem_map.mpr ⟨"a", by decide +kernel, rfl⟩
      · exact List.mem_map.mpr ⟨"b", by decide +kernel, rfl⟩
end Q30
end

section
set_option Elab.async false
set_option linter.all false
set_option maxRecDepth 100000
namespace Q30
open RF PySem
local macro_rules
  | `(tactic| array_mem_dec) => `(tactic| repeat (first
  | with_reducible apply wf_cons | with_reducible apply wf_nil | with_reducible apply wf_expr | with_reducible apply wf_ret | with_reducible apply wf_if | with_reducible apply wf_set | with_reducible apply wf_par | with_reducible apply wf_tup | with_reducible apply wf_fld | with_reducible apply wf_sub | with_reducible apply wf_del | with_reducible apply wf_dyn | with_reducible apply wf_range
  | ((with_reducible apply wp_var); · rfl) | with_reducible apply wp_c | with_reducible apply wp_bin | with_reducible apply wp_cmp | with_reducible apply wp_ix | with_reducible apply wp_fld | with_reducible apply wp_is | with_reducible apply wp_not | with_reducible apply wp_and | with_reducible apply wp_chain | with_reducible apply wp_if | with_reducible apply wp_nil | with_reducible apply wp_cons | ((with_reducible refine wp_tup ?_ ?_); · rfl) | ((with_reducible refine wp_lst ?_ ?_); · rfl) | with_reducible apply wp_dict | with_reducible apply wp_call
  | with_reducible apply wp_compE | with_reducible apply wp_tupleE | with_reducible apply wp_allE | with_reducible apply wp_dyn | with_reducible apply wp_range | with_reducible apply wp_testE | with_reducible apply wp_testB | with_reducible apply wp_notT | with_reducible apply wp_andT | with_reducible apply wp_orT | with_reducible apply wp_always | with_reducible apply wp_slice1
  | ((with_reducible apply wp_of (r := opD _ _ _ _)); · rfl)))
/-! rows: a name, a value, until when -/
abbrev Row := D × Int × Int
def kv (r : Row) : D × D := (r.1, .tup [.int r.2.1, .int r.2.2])
def line (r : Row) : D := .tup [r.1, .int r.2.1, .int r.2.2]
def dropR (rows : List Row) (x : D) : List Row := rows.filter fun r => decide (r.1 ≠ x)
def RowsOk (rows : List Row) : Prop := (rows.map (·.1)).Nodup ∧ ∀ r ∈ rows, NameOk r.1
theorem part_flat {p : D} (h : p ∈ parts) : keyFlat p = true ∧ flatD p = true ∧ ∃ s, p = .str s := by
  obtain ⟨x, _, rfl⟩ := List.mem_map.mp h
  exact ⟨rfl, rfl, _, rfl⟩
theorem name_key {x : D} (h : NameOk x) : keyTup x = true := by
  obtain ⟨ps, rfl, _, _, h⟩ := h
  simp only [keyTup, List.all_eq_true]
  exact fun p hp => (part_flat (h p hp)).1
theorem keys_ok {rows : List Row} {x : D} (h : ∀ r ∈ rows, NameOk r.1) (hx : NameOk x) : keyFits (rows.map kv) x = true := by
  have : (rows.map kv).all (fun kv => keyTup kv.1) = true := by
    simp only [List.all_map, List.all_eq_true]
    exact fun r hr => name_key (h r hr)
  simp [keyFits, name_key hx, this]
theorem val_rows (rows : List Row) (x : D) : valD (rows.map kv) x = (rows.find? fun r => decide (r.1 = x)).map fun r => .tup [.int r.2.1, .int r.2.2] := by
  induction rows with
  | nil => rfl
  | cons r rows ih =>
    unfold valD at ih ⊢
    by_cases h : r.1 = x
    · simp [kv, h]
    · simp only [List.map_cons, List.find?_cons]
      have : decide ((kv r).1 = x) = false := decide_eq_false h
      rw [this, decide_eq_false h]
      exact ih
theorem drop_rows (rows : List Row) (x : D) : dropD (rows.map kv) x = (dropR rows x).map kv := by
  unfold dropD dropR
  rw [List.filter_map]
  rfl
theorem find_row {rows : List Row} (h : (rows.map (·.1)).Nodup) {r : Row} (hr : r ∈ rows) : (rows.find? fun s => decide (s.1 = r.1)) = some r := by
  induction rows with
  | nil => simp at hr
  | cons s rows ih =>
    simp only [List.map_cons, List.nodup_cons] at h
    rcases List.mem_cons.mp hr with rfl | hr
    · simp
    · have : s.1 ≠ r.1 := fun e => h.1 (e ▸ List.mem_map.mpr ⟨r, hr, rfl⟩)
      rw [List.find?_cons, decide_eq_false this]
      exact ih h.2 hr
theorem drop_no (rows : List Row) (x : D) : ∀ r ∈ dropR rows x, r.1 ≠ x := fun r hr => by simpa using (List.mem_filter.mp hr).2
theorem drop_sub (rows : List Row) (x : D) : (dropR rows x).Sublist rows := List.filter_sublist
theorem drop_same {rows : List Row} {x : D} (h : ∀ r ∈ rows, r.1 ≠ x) : dropR rows x = rows := by
  unfold dropR
  rw [List.filter_eq_self]
  intro r hr
  simpa using h r hr
theorem ok_sub {rows rows' : List Row} (h : RowsOk rows) (hs : rows'.Sublist rows) : RowsOk rows' := ⟨(hs.map _).nodup h.1, fun r hr => h.2 r (hs.subset hr)⟩
theorem ok_add {rows : List Row} {r : Row} (h : RowsOk rows) (hn : ∀ s ∈ rows, s.1 ≠ r.1) (hr : NameOk r.1) : RowsOk (rows ++ [r]) := by
  refine ⟨?_, fun s hs => ?_⟩
  · rw [List.map_append, List.nodup_append]
    refine ⟨h.1, by simp, fun a ha b hb => ?_⟩
    obtain ⟨s, hs, rfl⟩ := List.mem_map.mp ha
    have : b = r.1 := by simpa using hb
    rw [this]
    exact hn s hs
  · rcases List.mem_append.mp hs with hs | hs
    · exact h.2 s hs
    · rw [List.mem_singleton.mp hs]
      exact hr
theorem put_rows {rows : List Row} {r : Row} (hn : ∀ s ∈ rows, s.1 ≠ r.1) : putD (rows.map kv) r.1 (.tup [.int r.2.1, .int r.2.2]) = (rows ++ [r]).map kv := by
  unfold putD
  rw [if_neg]
  · simp [kv]
  · simp only [List.any_map, List.any_eq_true, not_exists, not_and]
    intro s hs
    show ¬ decide (s.1 = r.1) = true
    rw [decide_eq_false (hn s hs)]
    decide
/-! the object -/
def KS (k q : Nat) (room : Int) (rows : List Row) (S : Store) : Prop := S[k]? = some (.obj 0 [(7, .int room), (4, .ref q)]) ∧ S[q]? = some (.dic (rows.map kv))
theorem KS.ne {k q : Nat} {room : Int} {rows : List Row} {S : Store} (h : KS k q room rows S) : k ≠ q := fun e => by
  have := h.1
  rw [e, h.2] at this
  cases this
theorem KS.set {k q : Nat} {room : Int} {rows rows' : List Row} {S : Store} (h : KS k q room rows S) : KS k q room rows' (S.set q (.dic (rows'.map kv))) := ⟨by rw [List.getElem?_set_ne (Ne.symm h.ne)]; exact h.1, at_set h.2⟩
theorem KS.fr {k q : Nat} {room : Int} {rows : List Row} {S S' : Store} {W : Nat → Prop} (h : KS k q room rows S) (hf : Fr W S S') (h1 : ¬ W k) (h2 : ¬ W q) : KS k q room rows S' := ⟨hf.at h.1 h1, hf.at h.2 h2⟩
theorem set_fld {S : Store} {Q : Unit → Store → Prop} {pl : Nat → Nat → Bool} {n c f : Nat} {fs : List (Nat × D)} {v : D} (h : S[n]? = some (.obj c fs)) (hg : (decide (fs.length < 900) && pl c f) = true) (q : Q () (S.set n (.obj c (fputD f v fs)))) : Wp (setFieldD pl (.ref n) f v S) Q := wp_of (by simp only [setFieldD, h, hg]; rfl) q
theorem init_ok (n k : Nat) (room : Int) (S : Store) (h : S[k]? = some (.obj 0 [])) (h1 : 0 ≤ room) (h2 : room ≤ 9) : Wp ((callsI P (n + 4)).m 0 0 [.ref k, .int room] S) fun r S' => r = .non ∧ KS k S.length room [] S' ∧ Fr (· = k) S S' := by
  rw [e_Keeps_init]
  apply wp_end
  unfold b_Keeps_init
  array_mem_dec
  refine wp_of (need_within_ok n _ _ _ _ h1 h2) ?_
  array_mem_dec
  refine set_fld h rfl ?_
  array_mem_dec
  have hk : (S.set k (.obj 0 [(7, .int room)]) ++ [O.dic []])[k]? = some (.obj 0 [(7, .int room)]) := (Fr.app no _ _).at (at_set h) fun h => h
  refine set_fld hk rfl ?_
  array_mem_dec
  refine ⟨rfl, ⟨?_, ?_⟩, ?_⟩
  · refine (at_set hk).trans ?_
    simp [fputD]
  · rw [List.getElem?_set_ne (by have := lt_of h; omega)]
    have := at_new (S.set k (.obj 0 [(7, .int room)])) (.dic [])
    simpa using this
  · exact ((Fr.set (· = k) _ _ _ rfl).trans (Fr.app no _ _) fun _ _ h => h.elim).trans (Fr.set (· = k) _ _ _ rfl) fun _ _ h => h
theorem del_dic {S : Store} {Q : Unit → Store → Prop} {n : Nat} {kvs : List (D × D)} {k : D} (h : S[n]? = some (.dic kvs)) (hk : keyFits kvs k = true) (hv : (valD kvs k).isSome = true) (q : Q () (S.set n (.dic (dropD kvs k)))) : Wp (delItemD (.ref n) k S) Q := wp_of (by simp only [delItemD, h, hk, hv]; rfl) q
theorem set_dic {S : Store} {Q : Unit → Store → Prop} {n : Nat} {kvs : List (D × D)} {k v : D} (h : S[n]? = some (.dic kvs)) (hk : keyFits kvs k = true) (hl : kvs.length < sizeLine) (q : Q () (S.set n (.dic (putD kvs k v)))) : Wp (setItemD (.ref n) k v S) Q := by
  refine wp_of ?_ q
  unfold setItemD
  simp only [h]
  cases k with
  | int i => simp only [hk, hl, decide_true, Bool.and_true]; rfl
  | str i => simp only [hk, hl, decide_true, Bool.and_true]; rfl
  | tup i => simp only [hk, hl, decide_true, Bool.and_true]; rfl
  | non => simp only [hk, hl, decide_true, Bool.and_true]; rfl
  | bl i => simp only [hk, hl, decide_true, Bool.and_true]; rfl
  | ref i => simp only [hk, hl, decide_true, Bool.and_true]; rfl
theorem in_dic {S : Store} {Q : D → Store → Prop} {n : Nat} {kvs : List (D × D)} {k : D} (h : S[n]? = some (.dic kvs)) (hk : keyFits kvs k = true) (q : Q (.bl (valD kvs k).isSome) S) : Wp (cmpD .In k (.ref n) S) Q := wp_of (by simp only [cmpD, inD, isDict, kvsOf, lookD, h, hk, Option.isSome_some, if_pos, Option.map_some, optB]) q
theorem notin_dic {S : Store} {Q : D → Store → Prop} {n : Nat} {kvs : List (D × D)} {k : D} (h : S[n]? = some (.dic kvs)) (hk : keyFits kvs k = true) (q : Q (.bl (!(valD kvs k).isSome)) S) : Wp (cmpD .NotIn k (.ref n) S) Q := wp_of (by simp only [cmpD, inD, isDict, kvsOf, lookD, h, hk, Option.isSome_some, if_pos, Option.map_some, optB]) q
def putR (room : Int) (rows : List Row) (x : D) (v u now : Int) : List Row :=
  if (((if u > now then dropR rows x ++ [(x, v, u)] else dropR rows x).length : Nat) : Int) > room then (if u > now then dropR rows x ++ [(x, v, u)] else dropR rows x).drop 1 else (if u > now then dropR rows x ++ [(x, v, u)] else dropR rows x)
theorem put_ok {n k q : Nat} {room : Int} {rows : List Row} {x : D} {v u now : Int} {S : Store} (h : KS k q room rows S) (hr : RowsOk rows) (hl : (rows.length : Int) ≤ room) (hroom : room ≤ 9) (hx : NameOk x) (v1 : 0 ≤ v) (v2 : v ≤ 999) (u1 : 0 ≤ u) (w1 : 0 ≤ now) :
    Wp ((callsI P (n + 5)).m 0 6 [.ref k, x, .int v, .int u, .int now] S) fun r S' => r = .non ∧ KS k q room (putR room rows x v u now) S' ∧ Fr (· = q) S S' := by
  have ha : ∀ (S1 : Store), KS k q room (dropR rows x) S1 → Fr (· = q) S S1 → Wf (seqS [ifS (testB (cmpE .Gt (varE 3) (varE 4))) (seqS [(subS (fldE (varE 0) 4) (varE 1) (tupE [(varE 2), (varE 3)]))]) (seqS []), (ifS (testB (cmpE .Gt (lenE T.isM (callsI P (n + 4)).m (some 1) (fldE (varE 0) 4)) (fldE (varE 0) 7))) (seqS [(delS (fldE (varE 0) 4) (ixE (callE (callB .list) [(fldE (varE 0) 4)]) (cE (.int 0))))]) (seqS []))]
      [some (.ref k), some x, some (.int v), some (.int u), some (.int now)] S1) { nx := fun _ S' => D.non = .non ∧ KS k q room (putR room rows x v u now) S' ∧ Fr (· = q) S S', rt := fun r S' => r = .non ∧ KS k q room (putR room rows x v u now) S' ∧ Fr (· = q) S S' } := by
    intro S1 h1 hf1
    have hd : RowsOk (dropR rows x) := ok_sub hr (drop_sub _ _)
    have hdl : ((dropR rows x).length : Int) ≤ room := by have := (drop_sub rows x).length_le; omega
    have hb : ∀ (rs : List Row) (S2 : Store), rs = (if u > now then dropR rows x ++ [(x, v, u)] else dropR rows x) → RowsOk rs → KS k q room rs S2 → Fr (· = q) S S2 → Wf (seqS [(ifS (testB (cmpE .Gt (lenE T.isM (callsI P (n + 4)).m (some 1) (fldE (varE 0) 4)) (fldE (varE 0) 7))) (seqS [(delS (fldE (varE 0) 4) (ixE (callE (callB .list) [(fldE (varE 0) 4)]) (cE (.int 0))))]) (seqS []))]
        [some (.ref k), some x, some (.int v), some (.int u), some (.int now)] S2) { nx := fun _ S' => D.non = .non ∧ KS k q room (putR room rows x v u now) S' ∧ Fr (· = q) S S', rt := fun r S' => r = .non ∧ KS k q room (putR room rows x v u now) S' ∧ Fr (· = q) S S' } := by
      intro rs S2 ers ok2 h2 hf2
      have hp : putR room rows x v u now = if ((rs.length : Nat) : Int) > room then rs.drop 1 else rs := by rw [ers]; rfl
      rw [hp]
      array_mem_dec
      refine wp_lenD ?_
      array_mem_dec
      refine fld_obj h2.1 rfl ⟨_, _, rfl, h2.2, ?_⟩
      array_mem_dec
      refine fld_obj h2.1 rfl ?_
      refine wp_of rfl ?_
      refine ⟨_, rfl, fun hc => ?_, fun hc => ?_⟩
      · have hc : ((rs.length : Nat) : Int) > room := by simpa using hc
        rw [if_pos hc]
        cases rs with
        | nil => simp at hc; omega
        | cons r rs =>
          array_mem_dec
          refine fld_obj h2.1 rfl ?_
          array_mem_dec
          refine fld_obj h2.1 rfl ?_
          array_mem_dec
          have hall : (((r :: rs).map kv).all fun kv => keyTup kv.1) = true := by
            simp only [List.all_map, List.all_eq_true]
            exact fun r hr => name_key (ok2.2 r hr)
          refine wp_of (a := .ref S2.length) (S := S2 ++ [.lst (((r :: rs).map kv).map fun p : D × D => p.1)]) ?_ ?_
          · have : kvsOf S2 (.ref q) = some ((r :: rs).map kv) := by simp only [kvsOf, h2.2]
            simp only [callB, this, hall]
            rfl
          array_mem_dec
          refine get_items (items_lst (at_new _ _)) (v := r.1) (by simp [getI, ixI, kv]) ?_
          have h3 : KS k q room (r :: rs) (S2 ++ [.lst (((r :: rs).map kv).map fun p : D × D => p.1)]) := h2.fr (Fr.app no _ _) (fun h => h) fun h => h
          have hd3 : dropR (r :: rs) r.1 = rs := by
            have hn := ok2.1
            simp only [List.map_cons, List.nodup_cons] at hn
            have : dropR rs r.1 = rs := drop_same fun s hs e => hn.1 (e ▸ List.mem_map.mpr ⟨s, hs, rfl⟩)
            unfold dropR at this ⊢
            rw [List.filter_cons, if_neg (by simp)]
            exact this
          refine del_dic h3.2 (keys_ok ok2.2 (ok2.2 r List.mem_cons_self)) (by rw [val_rows, find_row ok2.1 List.mem_cons_self]; rfl) ?_
          rw [drop_rows, hd3]
          array_mem_dec
          exact ⟨rfl, h3.set, (hf2.trans (Fr.app no _ _) fun _ _ h => h.elim).trans (Fr.set (· = q) _ _ _ rfl) fun _ _ h => h⟩
      · have hc : ¬ ((rs.length : Nat) : Int) > room := by simpa using hc
        rw [if_neg hc]
        array_mem_dec
        exact ⟨rfl, h2, hf2⟩
    array_mem_dec
    refine wp_of rfl ?_
    refine ⟨_, rfl, fun hc => ?_, fun hc => ?_⟩
    · have hc : u > now := by simpa using hc
      array_mem_dec
      refine fld_obj h1.1 rfl ?_
      array_mem_dec
      refine set_dic h1.2 (keys_ok hd.2 hx) (by simp [sizeLine]; omega) ?_
      rw [put_rows (r := (x, v, u)) (drop_no rows x)]
      apply wf_nil
      exact hb (dropR rows x ++ [(x, v, u)]) _ (by rw [if_pos hc]) (ok_add hd (drop_no rows x) hx) h1.set (hf1.trans (Fr.set (· = q) _ _ _ rfl) fun _ _ h => h)
    · have hc : ¬ u > now := by simpa using hc
      apply wf_nil
      exact hb (dropR rows x) _ (by rw [if_neg hc]) hd h1 hf1
  rw [e_Keeps_put]
  apply wp_end
  unfold b_Keeps_put
  array_mem_dec
  refine wp_of (need_name_ok (n + 1) x S hx) ?_
  array_mem_dec
  refine wp_of (need_value_ok n v S v1 v2) ?_
  array_mem_dec
  refine wp_of (need_tick_ok (n + 1) u S u1) ?_
  array_mem_dec
  refine wp_of (need_tick_ok (n + 1) now S w1) ?_
  array_mem_dec
  refine fld_obj h.1 rfl ?_
  refine in_dic h.2 (keys_ok hr.2 hx) ?_
  refine ⟨_, rfl, fun hc => ?_, fun hc => ?_⟩
  · array_mem_dec
    refine fld_obj h.1 rfl ?_
    array_mem_dec
    refine del_dic h.2 (keys_ok hr.2 hx) hc ?_
    rw [drop_rows]
    apply wf_nil
    exact ha _ h.set (Fr.set (· = q) _ _ _ rfl)
  · apply wf_nil
    have hno : ∀ r ∈ rows, r.1 ≠ x := by
      rw [val_rows] at hc
      intro r hr' e
      subst e
      rw [find_row hr.1 hr'] at hc
      simp at hc
    exact ha _ (by rw [drop_same hno]; exact h) (Fr.refl _ _)
end Q30
end

section
set_option Elab.async false
set_option linter.all false
set_option maxRecDepth 100000
namespace Q30
open RF PySem
local macro_rules
  | `(tactic| array_mem_dec) => `(tactic| repeat (first
  | with_reducible apply wf_cons | with_reducible apply wf_nil | with_reducible apply wf_expr | with_reducible apply wf_ret | with_reducible apply wf_if | with_reducible apply wf_set | with_reducible apply wf_par | with_reducible apply wf_tup | with_reducible apply wf_fld | with_reducible apply wf_sub | with_reducible apply wf_del | with_reducible apply wf_dyn | with_reducible apply wf_range
  | ((with_reducible apply wp_var); · rfl) | with_reducible apply wp_c | with_reducible apply wp_bin | with_reducible apply wp_cmp | with_reducible apply wp_ix | with_reducible apply wp_fld | with_reducible apply wp_is | with_reducible apply wp_not | with_reducible apply wp_and | with_reducible apply wp_chain | with_reducible apply wp_if | with_reducible apply wp_nil | with_reducible apply wp_cons | ((with_reducible refine wp_tup ?_ ?_); · rfl) | ((with_reducible refine wp_lst ?_ ?_); · rfl) | with_reducible apply wp_dict | with_reducible apply wp_call
  | with_reducible apply wp_compE | with_reducible apply wp_tupleE | with_reducible apply wp_allE | with_reducible apply wp_dyn | with_reducible apply wp_range | with_reducible apply wp_testE | with_reducible apply wp_testB | with_reducible apply wp_notT | with_reducible apply wp_andT | with_reducible apply wp_orT | with_reducible apply wp_always | with_reducible apply wp_slice1
  | ((with_reducible apply wp_of (r := opD _ _ _ _)); · rfl)))
theorem comp_map {α : Type} {chk : Store → Bool} {t : C Bool} {e : C D} {ρ : RF.Env} {S : Store} (g : α → D) (l : List α) (p : α → Bool) (f : α → D) (hc : chk S = true) (ht : ∀ r ∈ l, t (some (g r) :: ρ) S = .ok (p r) S) (he : ∀ r ∈ l, p r = true → e (some (g r) :: ρ) S = .ok (f r) S) : compC chk t e ρ (l.map g) S = .ok ((l.filter p).map f) S := by
  induction l with
  | nil => unfold compC; simp [hc]
  | cons x xs ih =>
    have ih := ih (fun r hr => ht r (List.mem_cons_of_mem _ hr)) fun r hr => he r (List.mem_cons_of_mem _ hr)
    rw [List.map_cons]
    unfold compC
    rw [if_pos hc, ht x List.mem_cons_self, R.bind_ok]
    cases hp : p x with
    | true => rw [if_pos rfl, he x List.mem_cons_self hp, R.bind_ok, ih, R.bind_ok, List.filter_cons, if_pos hp]; rfl
    | false => rw [if_neg (by decide), ih, List.filter_cons, if_neg (by simp [hp])]
theorem comp_lines {t : C Bool} {e : C D} {ρ : RF.Env} {S : Store} {l : Nat} {rows : List Row} {Q : List D → Store → Prop} (hl : S[l]? = some (.lst (rows.map line))) (p : Row → Bool) (f : Row → D) (ht : ∀ r ∈ rows, t (some (line r) :: ρ) S = .ok (p r) S) (he : ∀ r ∈ rows, p r = true → e (some (line r) :: ρ) S = .ok (f r) S) (q : Q ((rows.filter p).map f) S) : Wp (compV t e ρ (.ref l) S) Q := by
  unfold compV
  simp only [hl]
  refine wp_noEx (wp_of (comp_map line rows p f ?_ ht he) q)
  simp only [stands, itemsOf, hl, decide_true]
/-! names are the same or not -/
theorem eq_strs (S : Store) (n : Nat) : ∀ xs ys : List D, (∀ x ∈ xs, ∃ s, x = .str s) → (∀ y ∈ ys, ∃ s, y = .str s) → ∃ b, allO (eqD S (n + 1)) xs ys = some b ∧ (b && xs.length == ys.length) = decide (xs = ys) := by
  intro xs
  induction xs with
  | nil =>
    intro ys _ _
    cases ys with
    | nil => exact ⟨true, rfl, rfl⟩
    | cons y ys => exact ⟨true, rfl, rfl⟩
  | cons x xs ih =>
    intro ys hx hy
    cases ys with
    | nil => exact ⟨true, rfl, rfl⟩
    | cons y ys =>
      obtain ⟨s, rfl⟩ := hx _ List.mem_cons_self
      obtain ⟨z, rfl⟩ := hy _ List.mem_cons_self
      obtain ⟨b, e1, e2⟩ := ih ys (fun x h => hx x (List.mem_cons_of_mem _ h)) fun x h => hy x (List.mem_cons_of_mem _ h)
      have e0 : eqD S (n + 1) (.str s) (.str z) = some (s == z) := rfl
      refine ⟨(s == z) && b, ?_, ?_⟩
      · show (match eqD S (n + 1) (.str s) (.str z), allO (eqD S (n + 1)) xs ys with
          | some a, some b => some (a && b)
          | _, _ => none) = _
        rw [e0, e1]
      · by_cases h : s = z
        · subst h
          have : ((s == s) && b && (D.str s :: xs).length == (D.str s :: ys).length) = (b && xs.length == ys.length) := by simp
          rw [this, e2]
          simp
        · have : (s == z) = false := by simpa using h
          rw [this]
          simp [h]
theorem eq_names (S : Store) {a b : D} (ha : NameOk a) (hb : NameOk b) (n : Nat) : eqD S (n + 2) a b = some (decide (a = b)) := by
  obtain ⟨xs, rfl, _, _, hx⟩ := ha
  obtain ⟨ys, rfl, _, _, hy⟩ := hb
  obtain ⟨b, e1, e2⟩ := eq_strs S n xs ys (fun x h => (part_flat (hx x h)).2.2) fun x h => (part_flat (hy x h)).2.2
  have : eqD S (n + 2) (.tup xs) (.tup ys) = (allO (eqD S (n + 1)) xs ys).map fun b => b && xs.length == ys.length := rfl
  rw [this, e1, Option.map_some, e2]
  congr 1
  by_cases h : xs = ys
  · simp [h]
  · rw [decide_eq_false h, decide_eq_false fun e => h (by cases e; rfl)]
theorem top_names (S : Store) {a b : D} (ha : NameOk a) (hb : NameOk b) : eqTop S depth a b = some (decide (a = b)) := by
  have h := eq_names S ha hb 6
  obtain ⟨xs, rfl, _, _, hx⟩ := ha
  exact h
theorem cmp_ne {S : Store} {a b : D} (ha : NameOk a) (hb : NameOk b) : cmpD .NotEq a b S = .ok (.bl (decide (a ≠ b))) S := by
  simp only [cmpD, top_names S ha hb, Option.map_some, optB]
  by_cases h : a = b
  · simp [h]
  · simp [h]
theorem cmp_eq {S : Store} {a b : D} (ha : NameOk a) (hb : NameOk b) : cmpD .Eq a b S = .ok (.bl (decide (a = b))) S := by
  simp only [cmpD, top_names S ha hb, optB]
/-- x == x -/
def Eqs (n : Nat) (x : D) : Prop := ∀ S, eqD S n x x = some true
theorem eqs_all {n : Nat} {S : Store} {xs : List D} (h : ∀ x ∈ xs, Eqs n x) : allO (eqD S n) xs xs = some true := by
  induction xs with
  | nil => rfl
  | cons x xs ih => simp only [allO, h x List.mem_cons_self S, ih fun y hy => h y (List.mem_cons_of_mem _ hy), Bool.and_self]
theorem eqs_tup {n : Nat} {xs : List D} (h : ∀ x ∈ xs, Eqs n x) : Eqs (n + 1) (.tup xs) := fun S => by
  have : eqD S (n + 1) (.tup xs) (.tup xs) = (allO (eqD S n) xs xs).map fun b => b && xs.length == xs.length := rfl
  rw [this, eqs_all h]
  simp
theorem eqs_int (n : Nat) (i : Int) : Eqs (n + 1) (.int i) := fun S => by
  show some (i == i) = some true
  simp
theorem eqs_name {x : D} (h : NameOk x) (n : Nat) : Eqs (n + 2) x := fun S => by rw [eq_names S h h]; simp
theorem eqs_line {r : Row} (h : NameOk r.1) (n : Nat) : Eqs (n + 3) (line r) := eqs_tup fun x hx => by
  simp only [List.mem_cons, List.not_mem_nil, or_false] at hx
  rcases hx with rfl | rfl | rfl
  · exact eqs_name h n
  · exact eqs_int _ _
  · exact eqs_int _ _
theorem cmp_lists {S : Store} {a b : Nat} {xs : List D} (ha : S[a]? = some (.lst xs)) (hb : S[b]? = some (.lst xs)) (h : ∀ x ∈ xs, Eqs 7 x) : cmpD .NotEq (.ref a) (.ref b) S = .ok (.bl false) S := by
  have : eqTop S depth (.ref a) (.ref b) = some true := by
    simp only [eqTop, ha, hb]
    have : eqD S 8 (.ref a) (.ref b) = some true := by
      unfold eqD
      simp only [ha, hb, if_pos, eqs_all h]
    exact this
  simp only [cmpD, this, Option.map_some, optB, Bool.not_true]
theorem cmp_nil {S : Store} {a b : Nat} {xs : List D} (ha : S[a]? = some (.lst xs)) (hb : S[b]? = some (.lst [])) : cmpD .Eq (.ref a) (.ref b) S = .ok (.bl xs.isEmpty) S := by
  have : eqTop S depth (.ref a) (.ref b) = some xs.isEmpty := by
    simp only [eqTop, ha, hb]
    have : eqD S 8 (.ref a) (.ref b) = some xs.isEmpty := by
      unfold eqD
      simp only [ha, hb]
      cases xs with
      | nil => rfl
      | cons x xs => rfl
    exact this
  simp only [cmpD, this, optB]
/-! the law's own rows -/
def keepR (room : Int) (rows : List Row) (x : D) (v u now : Int) : List Row :=
  if u ≤ now ∨ room = 0 then dropR rows x else if (((dropR rows x ++ [(x, v, u)]).length : Nat) : Int) > room then (dropR rows x ++ [(x, v, u)]).drop 1 else dropR rows x ++ [(x, v, u)]
theorem keep_put {room : Int} {rows : List Row} {x : D} {v u now : Int} (h0 : 0 ≤ room) (hl : (rows.length : Int) ≤ room) : keepR room rows x v u now = putR room rows x v u now := by
  have hdl : ((dropR rows x).length : Int) ≤ room := by have := (drop_sub rows x).length_le; omega
  unfold keepR putR
  by_cases hu : u > now
  · simp only [if_pos hu]
    by_cases hr : room = 0
    · have h0 : (dropR rows x) = [] := List.length_eq_zero_iff.mp (by omega)
      rw [if_pos (Or.inr hr), h0]
      simp [hr]
    · rw [if_neg (by omega)]
  · simp only [if_neg hu]
    rw [if_pos (Or.inl (by omega)), if_neg (by omega)]
theorem put_len {room : Int} {rows : List Row} {x : D} {v u now : Int} (h0 : 0 ≤ room) (hl : (rows.length : Int) ≤ room) : ((putR room rows x v u now).length : Int) ≤ room := by
  have hdl : ((dropR rows x).length : Int) ≤ room := by have := (drop_sub rows x).length_le; omega
  unfold putR
  by_cases hu : u > now
  · simp only [if_pos hu]
    split
    · simp; omega
    · omega
  · simp only [if_neg hu]
    split
    · simp; omega
    · omega
theorem put_rok {room : Int} {rows : List Row} {x : D} {v u now : Int} (hr : RowsOk rows) (hx : NameOk x) : RowsOk (putR room rows x v u now) := by
  have hd : RowsOk (dropR rows x) := ok_sub hr (drop_sub _ _)
  have ha : RowsOk (if u > now then dropR rows x ++ [(x, v, u)] else dropR rows x) := by
    split
    · exact ok_add hd (drop_no rows x) hx
    · exact hd
  unfold putR
  generalize (if u > now then dropR rows x ++ [(x, v, u)] else dropR rows x) = w at ha ⊢
  split
  · exact ok_sub ha (List.drop_sublist _ _)
  · exact ha
theorem lkeep_ok {n l : Nat} {room : Int} {rows : List Row} {x : D} {v u now : Int} {S : Store} (hl : S[l]? = some (.lst (rows.map line))) (hr : RowsOk rows) (hx : NameOk x) (hb : rows.length ≤ 9) :
    Wp ((callsI P (n + 1)).f 15 [.ref l, .int room, x, .int v, .int u, .int now] S) fun y S' => ∃ l', y = .ref l' ∧ S.length ≤ l' ∧ S'[l']? = some (.lst ((keepR room rows x v u now).map line)) ∧ Fr no S S' := by
  rw [e_law_keep]
  apply wp_end
  unfold b_law_keep
  array_mem_dec
  refine comp_lines hl (fun r => decide (r.1 ≠ x)) line (fun r hr' => ?_) (fun r _ _ => rfl) ?_
  · apply eq_of
    array_mem_dec
    refine get_items (xs := [r.1, .int r.2.1, .int r.2.2]) rfl rfl ?_
    array_mem_dec
    refine wp_of (cmp_ne (hr.2 r hr') hx) ?_
    exact ⟨_, rfl, rfl, rfl⟩
  have hd : (S ++ [O.lst ((dropR rows x).map line)])[S.length]? = some (O.lst ((dropR rows x).map line)) := at_new _ _
  have hf : Fr no S (S ++ [O.lst ((dropR rows x).map line)]) := Fr.app _ _ _
  array_mem_dec
  refine wp_of rfl ?_
  refine ⟨_, rfl, fun hc => ?_, fun hc => ?_⟩
  · have hc : u ≤ now := by simpa using hc
    refine ⟨fun _ => ?_, fun h => by cases h⟩
    array_mem_dec
    refine ⟨_, rfl, Nat.le_refl _, ?_, hf⟩
    unfold keepR
    rw [if_pos (Or.inl hc)]
    exact hd
  have hc : ¬ u ≤ now := by simpa using hc
  array_mem_dec
  refine wp_of (a := .bl (decide (room = 0))) (S := S ++ [O.lst ((dropR rows x).map line)]) ?_ ?_
  · show optB (some (room == 0)) _ = _
    rw [show (room == 0) = decide (room = 0) by by_cases h : room = 0 <;> simp [h]]
    rfl
  refine ⟨_, rfl, fun hc2 => ?_, fun hc2 => ?_⟩
  · have hc2 : room = 0 := by simpa using hc2
    array_mem_dec
    refine ⟨_, rfl, Nat.le_refl _, ?_, hf⟩
    unfold keepR
    rw [if_pos (Or.inr hc2)]
    exact hd
  have hc2 : ¬ room = 0 := by simpa using hc2
  have hk : keepR room rows x v u now = if (((dropR rows x ++ [(x, v, u)]).length : Nat) : Int) > room then (dropR rows x ++ [(x, v, u)]).drop 1 else dropR rows x ++ [(x, v, u)] := by
    unfold keepR
    rw [if_neg (by omega)]
  rw [hk]
  array_mem_dec
  have hf2 : Fr no (S ++ [O.lst ((dropR rows x).map line)]) ((S ++ [O.lst ((dropR rows x).map line)]) ++ [O.lst [line (x, v, u)]]) := Fr.app _ _ _
  have hd2 := hf2.at hd fun h => h
  have he2 := at_new (S ++ [O.lst ((dropR rows x).map line)]) (O.lst [line (x, v, u)])
  refine wp_of (a := .ref ((S ++ [O.lst ((dropR rows x).map line)]) ++ [O.lst [line (x, v, u)]]).length) (S := ((S ++ [O.lst ((dropR rows x).map line)]) ++ [O.lst [line (x, v, u)]]) ++ [O.lst ((dropR rows x ++ [(x, v, u)]).map line)]) ?_ ?_
  · have hg : big (((dropR rows x).map line).length + [line (x, v, u)].length) = true := by
      have := (drop_sub rows x).length_le
      simp [big, sizeLine]
      omega
    show addD (.ref S.length) (.ref (S ++ [O.lst ((dropR rows x).map line)]).length) ((S ++ [O.lst ((dropR rows x).map line)]) ++ [O.lst [line (x, v, u)]]) = _
    simp only [addD, hd2, he2, hg, guardR, if_pos, newO, List.map_append, List.map_cons, List.map_nil]
  generalize hT : (S ++ [O.lst ((dropR rows x).map line)]) ++ [O.lst [line (x, v, u)]] = T1 at hf2
  have hf3 : Fr no S T1 := hf.trans hf2 fun _ _ h => h
  have hd3 := at_new T1 (O.lst ((dropR rows x ++ [(x, v, u)]).map line))
  have hf4 : Fr no S (T1 ++ [O.lst ((dropR rows x ++ [(x, v, u)]).map line)]) := hf3.trans (Fr.app no _ _) fun _ _ h => h
  array_mem_dec
  refine wp_lenL ?_
  array_mem_dec
  refine ⟨_, _, rfl, hd3, ?_⟩
  array_mem_dec
  refine wp_of rfl ?_
  refine ⟨_, rfl, fun hc => ?_, fun hc => ?_⟩
  · have hc : (((dropR rows x ++ [(x, v, u)]).length : Nat) : Int) > room := by simpa using hc
    array_mem_dec
    refine ⟨_, rfl, ?_⟩
    refine wp_of (a := .ref (T1 ++ [O.lst ((dropR rows x ++ [(x, v, u)]).map line)]).length) (S := (T1 ++ [O.lst ((dropR rows x ++ [(x, v, u)]).map line)]) ++ [O.lst (((dropR rows x ++ [(x, v, u)]).drop 1).map line)]) ?_ ?_
    · simp only [sliceD, items_lst hd3, newO]
      congr 4
      simp only [cutD, sIx]
      have : min (Int.toNat 1) ((dropR rows x ++ [(x, v, u)]).map line).length = 1 := by simp
      rw [if_neg (by decide), this, List.map_drop]
      exact List.take_of_length_le (by simp)
    rw [if_pos hc]
    exact ⟨_, rfl, by have := hf4.1; omega, at_new _ _, hf4.trans (Fr.app no _ _) fun _ _ h => h⟩
  · have hc : ¬ (((dropR rows x ++ [(x, v, u)]).length : Nat) : Int) > room := by simpa using hc
    array_mem_dec
    rw [if_neg hc]
    exact ⟨_, rfl, hf3.1, hd3, hf4⟩
end Q30
end

section
set_option Elab.async false
set_option linter.all false
set_option maxRecDepth 100000
namespace Q30
open RF PySem
local macro_rules
  | `(tactic| array_mem_dec) => `(tactic| repeat (first
  | with_reducible apply wf_cons | with_reducible apply wf_nil | with_reducible apply wf_expr | with_reducible apply wf_ret | with_reducible apply wf_if | with_reducible apply wf_set | with_reducible apply wf_par | with_reducible apply wf_tup | with_reducible apply wf_fld | with_reducible apply wf_sub | with_reducible apply wf_del | with_reducible apply wf_dyn | with_reducible apply wf_range
  | ((with_reducible apply wp_var); · rfl) | with_reducible apply wp_c | with_reducible apply wp_bin | with_reducible apply wp_cmp | with_reducible apply wp_ix | with_reducible apply wp_fld | with_reducible apply wp_is | with_reducible apply wp_not | with_reducible apply wp_and | with_reducible apply wp_chain | with_reducible apply wp_if | with_reducible apply wp_nil | with_reducible apply wp_cons | ((with_reducible refine wp_tup ?_ ?_); · rfl) | ((with_reducible refine wp_lst ?_ ?_); · rfl) | with_reducible apply wp_dict | with_reducible apply wp_call
  | with_reducible apply wp_compE | with_reducible apply wp_tupleE | with_reducible apply wp_allE | with_reducible apply wp_dyn | with_reducible apply wp_range | with_reducible apply wp_testE | with_reducible apply wp_testB | with_reducible apply wp_notT | with_reducible apply wp_andT | with_reducible apply wp_orT | with_reducible apply wp_always | with_reducible apply wp_slice1
  | ((with_reducible apply wp_of (r := opD _ _ _ _)); · rfl)))
theorem filter_one {rows : List Row} (h : (rows.map (·.1)).Nodup) {r : Row} (hr : r ∈ rows) {now : Int} (hu : r.2.2 > now) : (rows.filter fun s => decide (s.1 = r.1) && decide (s.2.2 > now)) = [r] := by
  induction rows with
  | nil => simp at hr
  | cons s rows ih =>
    simp only [List.map_cons, List.nodup_cons] at h
    rcases List.mem_cons.mp hr with rfl | hr
    · rw [List.filter_cons, if_pos (by simp [hu])]
      congr 1
      rw [List.filter_eq_nil_iff]
      intro s hs
      have : s.1 ≠ r.1 := fun e => h.1 (e ▸ List.mem_map.mpr ⟨s, hs, rfl⟩)
      simp [this]
    · have : s.1 ≠ r.1 := fun e => h.1 (e ▸ List.mem_map.mpr ⟨r, hr, rfl⟩)
      rw [List.filter_cons, if_neg (by simp [this])]
      exact ih h.2 hr
theorem got_yes {n k q : Nat} {room : Int} {rows : List Row} {r : Row} {now : Int} {S : Store} (h : KS k q room rows S) (hr : RowsOk rows) (hl : rows.length ≤ 9) (hm : r ∈ rows) (hu : r.2.2 > now) (w1 : 0 ≤ now) :
    Wp ((callsI P (n + 4)).m 0 3 [.ref k, r.1, .int now] S) fun y S' => y = .tup [.int r.2.1, .int r.2.2] ∧ KS k q room (dropR rows r.1 ++ [r]) S' ∧ Fr (· = q) S S' := by
  have hx := hr.2 r hm
  have hv : valD (rows.map kv) r.1 = some (.tup [.int r.2.1, .int r.2.2]) := by rw [val_rows, find_row hr.1 hm]; rfl
  have hk := keys_ok hr.2 hx
  rw [e_Keeps_got]
  apply wp_end
  unfold b_Keeps_got
  array_mem_dec
  refine wp_of (need_name_ok n r.1 S hx) ?_
  array_mem_dec
  refine wp_of (need_tick_ok n now S w1) ?_
  array_mem_dec
  refine fld_obj h.1 rfl ?_
  refine notin_dic h.2 hk ?_
  rw [hv]
  refine ⟨_, rfl, fun hc => by simp at hc, fun _ => ?_⟩
  array_mem_dec
  refine fld_obj h.1 rfl ?_
  array_mem_dec
  refine get_dic (Or.inl ⟨h.2, hk⟩) hv ?_
  array_mem_dec
  refine get_items (xs := [.int r.2.1, .int r.2.2]) rfl rfl ?_
  array_mem_dec
  refine wp_of rfl ?_
  refine ⟨_, rfl, fun hc => ?_, fun _ => ?_⟩
  · simp at hc
    omega
  array_mem_dec
  refine wp_methB ?_
  array_mem_dec
  refine fld_obj h.1 rfl ?_
  refine ⟨_, _, rfl, h.2, rfl, ?_⟩
  array_mem_dec
  have hp : methD .pop (.ref q) [r.1] S = .ok (.tup [.int r.2.1, .int r.2.2]) (S.set q (.dic ((dropR rows r.1).map kv))) := by
    simp only [methD, h.2, name_key hx, hk, hv, Bool.and_self, guardR, if_pos, drop_rows]
  refine wp_of hp ?_
  have h2 : KS k q room (dropR rows r.1) (S.set q (.dic ((dropR rows r.1).map kv))) := h.set
  have hd : RowsOk (dropR rows r.1) := ok_sub hr (drop_sub _ _)
  array_mem_dec
  refine fld_obj h2.1 rfl ?_
  array_mem_dec
  refine set_dic h2.2 (keys_ok hd.2 hx) (by have := (drop_sub rows r.1).length_le; simp [sizeLine]; omega) ?_
  rw [put_rows (drop_no rows r.1)]
  array_mem_dec
  exact ⟨rfl, h2.set, (Fr.set (· = q) _ _ _ rfl).trans (Fr.set (· = q) _ _ _ rfl) fun _ _ h => h⟩
theorem got_no {n k q : Nat} {room : Int} {rows : List Row} {x : D} {now : Int} {S : Store} (h : KS k q room rows S) (hr : RowsOk rows) (hx : NameOk x) (hn : ∀ r ∈ rows, r.1 = x → r.2.2 ≤ now) (w1 : 0 ≤ now) :
    (callsI P (n + 4)).m 0 3 [.ref k, x, .int now] S = .ok .non S := by
  have hk := keys_ok hr.2 hx
  rw [e_Keeps_got]
  apply eq_of
  apply wp_end
  unfold b_Keeps_got
  array_mem_dec
  refine wp_of (need_name_ok n x S hx) ?_
  array_mem_dec
  refine wp_of (need_tick_ok n now S w1) ?_
  array_mem_dec
  refine fld_obj h.1 rfl ?_
  refine notin_dic h.2 hk ?_
  refine ⟨_, rfl, fun hc => ?_, fun hc => ?_⟩
  · array_mem_dec
    refine ⟨fun _ => ?_, fun h => by cases h⟩
    array_mem_dec
    exact ⟨rfl, rfl⟩
  · array_mem_dec
    refine fld_obj h.1 rfl ?_
    array_mem_dec
    have hf : ∃ r, (rows.find? fun r => decide (r.1 = x)) = some r := by
      rw [val_rows] at hc
      cases hf : (rows.find? fun r => decide (r.1 = x)) with
      | none => simp [hf] at hc
      | some r => exact ⟨r, rfl⟩
    obtain ⟨r, hf⟩ := hf
    have hv : valD (rows.map kv) x = some (.tup [.int r.2.1, .int r.2.2]) := by rw [val_rows, hf]; rfl
    have hm := List.mem_of_find?_eq_some hf
    have he : r.1 = x := by simpa using List.find?_some hf
    refine get_dic (Or.inl ⟨h.2, hk⟩) hv ?_
    array_mem_dec
    refine get_items (xs := [.int r.2.1, .int r.2.2]) rfl rfl ?_
    array_mem_dec
    refine wp_of rfl ?_
    refine ⟨_, rfl, fun _ => ?_, fun hc => ?_⟩
    · array_mem_dec
      exact ⟨rfl, rfl⟩
    · have := hn r hm he
      simp at hc
      omega
theorem test_got {rows : List Row} {r : Row} {x : D} {l : Nat} {now : Int} {S : Store} {v : Option D} (h : NameOk r.1) (hx : NameOk x) : andT (testB (cmpE .Eq (ixE (varE 0) (cE (.int 0))) (varE 2))) (testB (cmpE .Gt (ixE (varE 0) (cE (.int 2))) (varE 3))) (some (line r) :: [some (.ref l), some x, some (.int now), v]) S = .ok (decide (r.1 = x) && decide (r.2.2 > now)) S := by
  apply eq_of
  array_mem_dec
  refine get_items (xs := [r.1, .int r.2.1, .int r.2.2]) rfl rfl ?_
  array_mem_dec
  refine wp_of (cmp_eq h hx) ?_
  refine ⟨_, rfl, fun hc => ?_, fun hc => ?_⟩
  · array_mem_dec
    refine get_items (xs := [r.1, .int r.2.1, .int r.2.2]) rfl rfl ?_
    array_mem_dec
    refine wp_of rfl ?_
    refine ⟨_, rfl, ?_, rfl⟩
    rw [hc, Bool.true_and]
  · rw [hc]
    exact ⟨rfl, rfl⟩
theorem lgot_yes {n l : Nat} {rows : List Row} {r : Row} {now : Int} {S : Store} (hl : S[l]? = some (.lst (rows.map line))) (hr : RowsOk rows) (hb : rows.length ≤ 9) (hm : r ∈ rows) (hu : r.2.2 > now) :
    Wp ((callsI P (n + 1)).f 16 [.ref l, r.1, .int now] S) fun y S' => ∃ l', y = .tup [.tup [.int r.2.1, .int r.2.2], .ref l'] ∧ S.length ≤ l' ∧ S'[l']? = some (.lst ((dropR rows r.1 ++ [r]).map line)) ∧ Fr no S S' := by
  have hx := hr.2 r hm
  rw [e_law_got]
  apply wp_end
  unfold b_law_got
  array_mem_dec
  refine comp_lines hl (fun s => decide (s.1 = r.1) && decide (s.2.2 > now)) line (fun s hs => test_got (rows := rows) (hr.2 s hs) hx) (fun s _ _ => rfl) ?_
  rw [filter_one hr.1 hm hu]
  have h1 : (S ++ [O.lst ([r].map line)])[S.length]? = some (O.lst ([r].map line)) := at_new _ _
  have f1 : Fr no S (S ++ [O.lst ([r].map line)]) := Fr.app _ _ _
  generalize hS1 : S ++ [O.lst ([r].map line)] = S1 at h1 f1
  array_mem_dec
  have f2 : Fr no S1 (S1 ++ [O.lst []]) := Fr.app _ _ _
  refine wp_of (cmp_nil (f2.at h1 fun h => h) (at_new _ _)) ?_
  refine ⟨_, rfl, fun hc => by simp at hc, fun _ => ?_⟩
  have h2 := f2.at h1 fun h => h
  have hl2 := (f1.trans f2 fun _ _ h => h).at hl fun h => h
  have f12 := f1.trans f2 fun _ _ h => h
  generalize hS2 : S1 ++ [O.lst []] = S2 at h2 hl2 f12
  array_mem_dec
  refine get_items (items_lst h2) rfl ?_
  array_mem_dec
  refine ⟨_, rfl, ?_⟩
  refine wp_of (a := .tup [.int r.2.1, .int r.2.2]) (S := S2) rfl ?_
  array_mem_dec
  refine comp_lines hl2 (fun s => decide (s.1 ≠ r.1)) line (fun s hs => ?_) (fun s _ _ => rfl) ?_
  · apply eq_of
    array_mem_dec
    refine get_items (xs := [s.1, .int s.2.1, .int s.2.2]) rfl rfl ?_
    array_mem_dec
    refine wp_of (cmp_ne (hr.2 s hs) hx) ?_
    exact ⟨_, rfl, rfl, rfl⟩
  have f3 : Fr no S2 (S2 ++ [O.lst ((dropR rows r.1).map line)]) := Fr.app _ _ _
  have h3 : (S2 ++ [O.lst ((dropR rows r.1).map line)])[S2.length]? = some (O.lst ((dropR rows r.1).map line)) := at_new _ _
  have h3' := f3.at h2 fun h => h
  have f13 := f12.trans f3 fun _ _ h => h
  array_mem_dec
  refine wp_of (a := .ref (S2 ++ [O.lst ((dropR rows r.1).map line)]).length) (S := (S2 ++ [O.lst ((dropR rows r.1).map line)]) ++ [O.lst ((dropR rows r.1 ++ [r]).map line)]) ?_ ?_
  · have hg : big (((dropR rows r.1).map line).length + ([r].map line).length) = true := by
      have := (drop_sub rows r.1).length_le
      simp [big, sizeLine]
      omega
    show addD (.ref S2.length) (.ref S.length) (S2 ++ [O.lst ((dropR rows r.1).map line)]) = _
    rw [List.map_append]
    simp only [addD, h3, h3', hg, guardR, if_pos, newO]
  array_mem_dec
  exact ⟨_, rfl, f13.1, at_new _ _, f13.trans (Fr.app no _ _) fun _ _ h => h⟩
theorem lgot_no {n l : Nat} {rows : List Row} {x : D} {now : Int} {S : Store} (hl : S[l]? = some (.lst (rows.map line))) (hr : RowsOk rows) (hx : NameOk x) (hn : ∀ r ∈ rows, r.1 = x → r.2.2 ≤ now) :
    Wp ((callsI P (n + 1)).f 16 [.ref l, x, .int now] S) fun y S' => y = .tup [.non, .ref l] ∧ Fr no S S' := by
  rw [e_law_got]
  apply wp_end
  unfold b_law_got
  array_mem_dec
  refine comp_lines hl (fun s => decide (s.1 = x) && decide (s.2.2 > now)) line (fun s hs => test_got (rows := rows) (hr.2 s hs) hx) (fun s _ _ => rfl) ?_
  have he : (rows.filter fun s => decide (s.1 = x) && decide (s.2.2 > now)) = [] := by
    rw [List.filter_eq_nil_iff]
    intro s hs
    simp only [Bool.and_eq_true, decide_eq_true_eq, not_and]
    intro e
    have := hn s hs e
    omega
  rw [he]
  array_mem_dec
  refine wp_of (cmp_nil (xs := []) ((Fr.app no _ _).at (at_new _ _) fun h => h) (at_new _ _)) ?_
  refine ⟨_, rfl, fun _ => ?_, fun hc => by simp at hc⟩
  array_mem_dec
  exact ⟨rfl, (Fr.app no _ _).trans (Fr.app no _ _) fun _ _ h => h⟩
/-! aged, rows, len -/
theorem comp_dict {α : Type} {t : C Bool} {e : C D} {ρ : RF.Env} {S : Store} {q : Nat} {kvs : List (D × D)} (g : α → D) (l : List α) (p : α → Bool) (f : α → D) {Q : List D → Store → Prop} (h : S[q]? = some (.dic kvs)) (hk : (kvs.all fun kv => keyTup kv.1) = true) (hg : kvs.map (·.1) = l.map g) (ht : ∀ r ∈ l, t (some (g r) :: ρ) (S.set q (.fdc kvs)) = .ok (p r) (S.set q (.fdc kvs))) (he : ∀ r ∈ l, p r = true → e (some (g r) :: ρ) (S.set q (.fdc kvs)) = .ok (f r) (S.set q (.fdc kvs))) (hq : Q ((l.filter p).map f) S) : Wp (compV t e ρ (.ref q) S) Q := by
  unfold compV
  simp only [h]
  refine wp_guard hk (wp_bind (wp_noEx ?_))
  rw [hg]
  refine wp_of (comp_map (chk := fun _ => true) g l p f rfl ht he) ?_
  rw [at_set h]
  have : (S.set q (.fdc kvs)).set q (.dic kvs) = S := by
    rw [List.set_set]
    apply List.ext_getElem?
    intro i
    by_cases hi : q = i
    · subst hi
      rw [at_set h, h]
    · rw [List.getElem?_set_ne hi]
  show Q _ ((S.set q (.fdc kvs)).set q (.dic kvs))
  rw [this]
  exact hq
theorem keys_all {rows : List Row} (h : RowsOk rows) : ((rows.map kv).all fun kv => keyTup kv.1) = true := by
  simp only [List.all_map, List.all_eq_true]
  exact fun r hr => name_key (h.2 r hr)
theorem rows_ok {n k q : Nat} {room : Int} {rows : List Row} {S : Store} (h : KS k q room rows S) (hr : RowsOk rows) : Wp ((callsI P (n + 1)).m 0 8 [.ref k] S) fun y S' => y = .ref S.length ∧ S' = S ++ [.lst (rows.map line)] := by
  rw [e_Keeps_rows]
  apply wp_end
  unfold b_Keeps_rows
  array_mem_dec
  refine fld_obj h.1 rfl ?_
  refine comp_dict (fun r : Row => r.1) rows (fun _ => true) line h.2 (keys_all hr) (by rw [List.map_map]; rfl) (fun _ _ => rfl) (fun r hr' _ => ?_) ?_
  · have hk' : (S.set q (.fdc (rows.map kv)))[k]? = some (.obj 0 [(7, .int room), (4, .ref q)]) := by rw [List.getElem?_set_ne (Ne.symm h.ne)]; exact h.1
    have hq' : (S.set q (.fdc (rows.map kv)))[q]? = some (.fdc (rows.map kv)) := at_set h.2
    have hv : valD (rows.map kv) r.1 = some (.tup [.int r.2.1, .int r.2.2]) := by rw [val_rows, find_row hr.1 hr']; rfl
    apply eq_of
    array_mem_dec
    refine fld_obj hk' rfl ?_
    array_mem_dec
    refine get_dic (Or.inr ⟨hq', name_key (hr.2 r hr')⟩) hv ?_
    array_mem_dec
    refine get_items (xs := [.int r.2.1, .int r.2.2]) rfl rfl ?_
    array_mem_dec
    refine fld_obj hk' rfl ?_
    array_mem_dec
    refine get_dic (Or.inr ⟨hq', name_key (hr.2 r hr')⟩) hv ?_
    array_mem_dec
    refine get_items (xs := [.int r.2.1, .int r.2.2]) rfl rfl ?_
    array_mem_dec
    exact ⟨rfl, rfl⟩
  · have : (rows.filter fun _ => true) = rows := by simp
    rw [this]
    exact ⟨rfl, rfl⟩
theorem len_ok {n k q : Nat} {room : Int} {rows : List Row} {S : Store} (h : KS k q room rows S) : (callsI P (n + 1)).m 0 1 [.ref k] S = .ok (.int rows.length) S := by
  rw [e_Keeps_len]
  apply eq_of
  apply wp_end
  unfold b_Keeps_len
  array_mem_dec
  refine wp_lenD ?_
  array_mem_dec
  refine fld_obj h.1 rfl ⟨_, _, rfl, h.2, ?_, rfl⟩
  simp
def oldR (rows : List Row) (now : Int) : List Row := rows.filter fun r => decide (r.2.2 ≤ now)
def newR (rows : List Row) (now : Int) : List Row := rows.filter fun r => decide (r.2.2 > now)
theorem aged_ok {n k q : Nat} {room : Int} {rows : List Row} {now : Int} {S : Store} (h : KS k q room rows S) (hr : RowsOk rows) (w1 : 0 ≤ now) :
    Wp ((callsI P (n + 4)).m 0 2 [.ref k, .int now] S) fun y S' => y = .ref S.length ∧ S'[S.length]? = some (.lst ((oldR rows now).map (·.1))) ∧ KS k q room (newR rows now) S' ∧ Fr (· = q) S S' := by
  rw [e_Keeps_aged]
  apply wp_end
  unfold b_Keeps_aged
  array_mem_dec
  refine wp_of (need_tick_ok n now S w1) ?_
  array_mem_dec
  refine fld_obj h.1 rfl ?_
  refine comp_dict (fun r : Row => r.1) rows (fun r => decide (r.2.2 ≤ now)) (fun r => r.1) h.2 (keys_all hr) (by rw [List.map_map]; rfl) (fun r hr' => ?_) (fun _ _ _ => rfl) ?_
  · have hk' : (S.set q (.fdc (rows.map kv)))[k]? = some (.obj 0 [(7, .int room), (4, .ref q)]) := by rw [List.getElem?_set_ne (Ne.symm h.ne)]; exact h.1
    have hq' : (S.set q (.fdc (rows.map kv)))[q]? = some (.fdc (rows.map kv)) := at_set h.2
    have hv : valD (rows.map kv) r.1 = some (.tup [.int r.2.1, .int r.2.2]) := by rw [val_rows, find_row hr.1 hr']; rfl
    apply eq_of
    array_mem_dec
    refine fld_obj hk' rfl ?_
    array_mem_dec
    refine get_dic (Or.inr ⟨hq', name_key (hr.2 r hr')⟩) hv ?_
    array_mem_dec
    refine get_items (xs := [.int r.2.1, .int r.2.2]) rfl rfl ?_
    array_mem_dec
    refine wp_of rfl ?_
    exact ⟨_, rfl, rfl, rfl⟩
  have hold : (rows.filter fun r => decide (r.2.2 ≤ now)) = oldR rows now := rfl
  rw [hold]
  generalize ho : (oldR rows now).map (·.1) = os
  have hos : os.Nodup := by
    rw [← ho]
    exact ((List.filter_sublist (l := rows)).map _).nodup hr.1
  have hd1 : (S ++ [O.lst os])[S.length]? = some (.lst os) := at_new _ _
  have h1 : KS k q room rows (S ++ [O.lst os]) := h.fr (Fr.app no _ _) (fun h => h) fun h => h
  have hqne : S.length ≠ q := fun e => by have := lt_of h.2; omega
  array_mem_dec
  unfold forV
  simp only [hd1]
  have hgone : ∀ i, i ≤ os.length → RowsOk (rows.filter fun r => decide (r.1 ∉ os.take i)) := fun i _ => ok_sub hr List.filter_sublist
  refine wf_for (Inv := fun i ρ S' => (∃ v, ρ = [some (.ref k), some (.int now), v, some (.ref S.length)]) ∧ S'[S.length]? = some (.lst os) ∧ KS k q room (rows.filter fun r => decide (r.1 ∉ os.take i)) S' ∧ Fr (· = q) S S') ⟨⟨_, rfl⟩, hd1, by
      have : (rows.filter fun r => decide (r.1 ∉ os.take 0)) = rows := by simp
      rw [this]; exact h1, Fr.app _ _ _⟩ (fun i ρ S' _ hI => ?_) (fun i x ρ S' hx hI => ?_) (fun ρ S' hI => ?_)
  · simp only [stands, itemsOf, hI.2.1, decide_true]
  · obtain ⟨⟨v, rfl⟩, g1, g2, g3⟩ := hI
    refine ⟨_, rfl, ?_⟩
    obtain ⟨hlt, hxi⟩ := List.getElem?_eq_some_iff.mp hx
    have hxm : x ∈ os := hxi ▸ List.getElem_mem _
    have hxn : x ∉ os.take i := by
      intro hc
      have hsp : os = os.take i ++ os.drop i := (List.take_append_drop i os).symm
      rw [hsp, List.nodup_append] at hos
      refine hos.2.2 x hc x ?_ rfl
      rw [← hxi]
      rw [List.drop_eq_getElem_cons hlt]
      exact List.mem_cons_self
    obtain ⟨r, hro, hrx⟩ : ∃ r ∈ rows, r.1 = x := by
      rw [← ho] at hxm
      obtain ⟨r, hr1, hr2⟩ := List.mem_map.mp hxm
      exact ⟨r, (List.mem_filter.mp hr1).1, hr2⟩
    have hok := hgone i (Nat.le_of_lt hlt)
    have hrm : r ∈ rows.filter fun r => decide (r.1 ∉ os.take i) := List.mem_filter.mpr ⟨hro, by simpa [hrx] using hxn⟩
    array_mem_dec
    refine fld_obj g2.1 rfl ?_
    array_mem_dec
    refine del_dic g2.2 (keys_ok hok.2 (hrx ▸ hr.2 r hro)) (by rw [← hrx, val_rows, find_row hok.1 hrm]; rfl) ?_
    rw [drop_rows]
    have hnext : dropR (rows.filter fun r => decide (r.1 ∉ os.take i)) x = rows.filter fun r => decide (r.1 ∉ os.take (i + 1)) := by
      unfold dropR
      rw [List.filter_filter]
      apply List.filter_congr
      intro s _
      have : os.take (i + 1) = os.take i ++ [x] := by rw [List.take_succ, hx]; rfl
      rw [this]
      simp only [List.mem_append, List.mem_singleton, not_or]
      by_cases a : s.1 = x <;> by_cases b : s.1 ∈ os.take i <;> simp [a, b]
    rw [hnext]
    array_mem_dec
    exact ⟨⟨_, rfl⟩, by rw [List.getElem?_set_ne (Ne.symm hqne)]; exact g1, g2.set, g3.trans (Fr.set (· = q) _ _ _ rfl) fun _ _ h => h⟩
  · obtain ⟨⟨v, rfl⟩, g1, g2, g3⟩ := hI
    array_mem_dec
    refine ⟨rfl, g1, ?_, g3⟩
    have : (rows.filter fun r => decide (r.1 ∉ os.take os.length)) = newR rows now := by
      unfold newR
      apply List.filter_congr
      intro s hs
      rw [List.take_length]
      by_cases hu : s.2.2 > now
      · have : s.1 ∉ os := by
          rw [← ho]
          intro hc
          obtain ⟨r, hr1, hr2⟩ := List.mem_map.mp hc
          obtain ⟨hr3, hr4⟩ := List.mem_filter.mp hr1
          have e1 := find_row hr.1 hr3
          rw [hr2, find_row hr.1 hs] at e1
          have : s = r := by simpa using e1
          subst this
          simp at hr4
          omega
        simp [this, hu]
      · have : s.1 ∈ os := by
          rw [← ho]
          exact List.mem_map.mpr ⟨s, List.mem_filter.mpr ⟨hs, by simpa using (by omega : s.2.2 ≤ now)⟩, rfl⟩
        simp [this, hu]
    rw [this] at g2
    exact g2
end Q30
end

section
set_option Elab.async false
set_option linter.all false
set_option maxRecDepth 100000
namespace Q30
open RF PySem
local macro_rules
  | `(tactic| array_mem_dec) => `(tactic| repeat (first
  | with_reducible apply wf_cons | with_reducible apply wf_nil | with_reducible apply wf_expr | with_reducible apply wf_ret | with_reducible apply wf_if | with_reducible apply wf_set | with_reducible apply wf_par | with_reducible apply wf_tup | with_reducible apply wf_fld | with_reducible apply wf_sub | with_reducible apply wf_del | with_reducible apply wf_dyn | with_reducible apply wf_range
  | ((with_reducible apply wp_var); · rfl) | with_reducible apply wp_c | with_reducible apply wp_bin | with_reducible apply wp_cmp | with_reducible apply wp_ix | with_reducible apply wp_fld | with_reducible apply wp_is | with_reducible apply wp_not | with_reducible apply wp_and | with_reducible apply wp_chain | with_reducible apply wp_if | with_reducible apply wp_nil | with_reducible apply wp_cons | ((with_reducible refine wp_tup ?_ ?_); · rfl) | ((with_reducible refine wp_lst ?_ ?_); · rfl) | with_reducible apply wp_dict | with_reducible apply wp_call
  | with_reducible apply wp_compE | with_reducible apply wp_tupleE | with_reducible apply wp_allE | with_reducible apply wp_dyn | with_reducible apply wp_range | with_reducible apply wp_testE | with_reducible apply wp_testB | with_reducible apply wp_notT | with_reducible apply wp_andT | with_reducible apply wp_orT | with_reducible apply wp_always | with_reducible apply wp_slice1
  | ((with_reducible apply wp_of (r := opD _ _ _ _)); · rfl)))
/-- what holds ahead of each turn -/
def Inn (S0 : Store) (d : Nat) (room : Int) (ρ : RF.Env) (S : Store) : Prop := ∃ (l : Nat) (now : Int) (k q : Nat) (rows : List Row) (x6 x7 x8 x9 x10 x11 : Option D),
  ρ = [some (.ref 0), some (.ref d), some (.int room), some (.ref l), some (.int now), some (.ref k), x6, x7, x8, x9, x10, x11] ∧ 0 ≤ now ∧ Dice d S ∧ KS k q room rows S ∧ S[l]? = some (.lst (rows.map line)) ∧ l ≠ d ∧ S0.length ≤ q ∧ RowsOk rows ∧ (rows.length : Int) ≤ room ∧ Fr (· = d) S0 S
theorem dice_k {d k q : Nat} {room : Int} {rows : List Row} {S : Store} (hd : Dice d S) (h : KS k q room rows S) : k ≠ d ∧ q ≠ d := by
  obtain ⟨a, b, hd⟩ := hd
  refine ⟨fun e => ?_, fun e => ?_⟩
  · subst e
    rw [h.1] at hd
    cases hd
  · subst e
    rw [h.2] at hd
    cases hd
theorem line_k {l k q : Nat} {room : Int} {rows : List Row} {S : Store} {xs : List D} (hl : S[l]? = some (.lst xs)) (h : KS k q room rows S) : l ≠ k ∧ l ≠ q := by
  refine ⟨fun e => ?_, fun e => ?_⟩
  · subst e
    rw [h.1] at hl
    cases hl
  · subst e
    rw [h.2] at hl
    cases hl
def cFin : CS := seqS [(ifS (orT (testB (cmpE .NotEq (methE T.isM (callsI P 12).m (some 8) none (varE 5) []) (varE 3))) (testB (cmpE .NotEq (lenE T.isM (callsI P 12).m (some 1) (varE 5)) (lenE T.isM (callsI P 12).m (some 1) (varE 3))))) (seqS [(retS (cE (.bl false)))]) (seqS []))]
theorem fin_ok {S0 : Store} {d : Nat} {room : Int} {K : En} (hroom : room ≤ 9) (hK : ∀ ρ S, Inn S0 d room ρ S → K.nx ρ S) {ρ : RF.Env} {S : Store} (h : Inn S0 d room ρ S) : Wf (cFin ρ S) K := by
  obtain ⟨l, now, k, q, rows, x6, x7, x8, x9, x10, x11, rfl, hn, hd, hk, hl, hne, hq, hr, hlen, hf⟩ := h
  unfold cFin
  array_mem_dec
  refine wp_meth ?_
  array_mem_dec
  refine ⟨_, _, _, rfl, hk.1, rfl, ?_⟩
  array_mem_dec
  refine wp_mono (rows_ok (n := 11) hk hr) fun y S1 ⟨ey, eS⟩ => ?_
  subst ey
  have f1 : Fr no S S1 := by subst eS; exact Fr.app _ _ _
  have h1 : S1[S.length]? = some (.lst (rows.map line)) := by subst eS; exact at_new _ _
  have hl1 := f1.at hl fun h => h
  have hk1 := hk.fr f1 (fun h => h) fun h => h
  array_mem_dec
  refine wp_of (cmp_lists h1 hl1 fun x hx => ?_) ?_
  · obtain ⟨r, hr', rfl⟩ := List.mem_map.mp hx
    exact eqs_line (hr.2 r hr') 4
  refine ⟨_, rfl, fun hc => by simp at hc, fun _ => ?_⟩
  array_mem_dec
  refine wp_lenO ?_
  array_mem_dec
  refine ⟨_, _, _, rfl, hk1.1, rfl, ?_⟩
  refine wp_of (len_ok (n := 11) hk1) ?_
  refine ⟨_, rfl, by simp [sizeLine]; omega, ?_⟩
  refine wp_lenL ?_
  array_mem_dec
  refine ⟨_, _, rfl, hl1, ?_⟩
  refine wp_of (a := .bl false) (S := S1) ?_ ?_
  · rw [List.length_map]
    show optB (some (!((rows.length : Int) == (rows.length : Int)))) S1 = _
    simp [optB]
  refine ⟨_, rfl, fun hc => by simp at hc, fun _ => ?_⟩
  array_mem_dec
  exact hK _ _ ⟨l, now, k, q, rows, x6, x7, x8, x9, x10, x11, rfl, hn, hd.fr f1 fun h => h, hk1, hl1, hne, hq, hr, hlen, hf.trans f1 fun _ _ h => h.elim⟩
def cTurn : CS := (seqS [(parS [7, 8, 9] [(callE ((callsI P 12).f 11) [(varE 1), (cE (.int 5))]), (callE ((callsI P 12).f 14) [(varE 1)]), (callE ((callsI P 12).f 11) [(varE 1), (cE (.int 1000))])]), (setS 4 (binE .Add (varE 4) (callE ((callsI P 12).f 11) [(varE 1), (cE (.int 2))]))), (ifS (testB (cmpE .Lt (varE 7) (cE (.int 2)))) (seqS [(setS 10 (binE .Add (varE 4) (callE ((callsI P 12).f 11) [(varE 1), (cE (.int 6))]))), (ifS (testB (cmpE .IsNot (methE T.isM (callsI P 12).m (some 6) none (varE 5) [(varE 8), (varE 9), (varE 10), (varE 4)]) (cE .non))) (seqS [(retS (cE (.bl false)))]) (seqS [])), (setS 3 (callE ((callsI P 12).f 15) [(varE 3), (varE 2), (varE 8), (varE 9), (varE 10), (varE 4)]))]) (seqS [(ifS (testB (cmpE .Lt (varE 7) (cE (.int 4)))) (seqS [(tupS [11, 3] (callE ((callsI P 12).f 16) [(varE 3), (varE 8), (varE 4)])), (ifS (testB (cmpE .NotEq (methE T.isM (callsI P 12).m (some 3) none (varE 5) [(varE 8), (varE 4)]) (varE 11))) (seqS [(retS (cE (.bl false)))]) (seqS []))]) (seqS [(ifS (testB (cmpE .NotEq (methE T.isM (callsI P 12).m (some 2) none (varE 5) [(varE 4)]) (compE (.dyn (varE 3)) (testB (cmpE .LtE (ixE (varE 0) (cE (.int 2))) (varE 5))) (ixE (varE 0) (cE (.int 0)))))) (seqS [(retS (cE (.bl false)))]) (seqS [])), (setS 3 (compE (.dyn (varE 3)) (testB (cmpE .Gt (ixE (varE 0) (cE (.int 2))) (varE 5))) (varE 0)))]))])), (ifS (orT (testB (cmpE .NotEq (methE T.isM (callsI P 12).m (some 8) none (varE 5) []) (varE 3))) (testB (cmpE .NotEq (lenE T.isM (callsI P 12).m (some 1) (varE 5)) (lenE T.isM (callsI P 12).m (some 1) (varE 3))))) (seqS [(retS (cE (.bl false)))]) (seqS []))])
set_option maxHeartbeats 4000000 in
theorem turn_ok {S0 : Store} {d : Nat} {room : Int} {K : En} (hroom : room ≤ 9) (h0 : 0 ≤ room) (hd0 : d < S0.length) (hK : ∀ ρ S, Inn S0 d room ρ S → K.nx ρ S) {ρ : RF.Env} {S : Store} (h : Inn S0 d room ρ S) : Wf (cTurn ρ S) K := by
  obtain ⟨l, now, k, q, rows, x6, x7, x8, x9, x10, x11, rfl, hn, hd, hk, hl, hne, hq, hr, hlen, hf⟩ := h
  have hlen9 : rows.length ≤ 9 := by omega
  unfold cTurn
  array_mem_dec
  refine wp_mono (roll_ok 10 d 5 _ hd (by decide) (by decide)) fun v S1 ⟨⟨kind, ev, kind1, kind2⟩, hd1, f1, _⟩ => ?_
  subst ev
  array_mem_dec
  refine wp_mono (any_name_ok 8 d _ hd1) fun x S2 ⟨hx, hd2, f2⟩ => ?_
  array_mem_dec
  refine wp_mono (roll_ok 10 d 1000 _ hd2 (by decide) (by decide)) fun v S3 ⟨⟨val, ev, val1, val2⟩, hd3, f3, _⟩ => ?_
  subst ev
  array_mem_dec
  refine ⟨_, rfl, ?_⟩
  array_mem_dec
  refine wp_mono (roll_ok 10 d 2 _ hd3 (by decide) (by decide)) fun v S4 ⟨⟨z, ev, z1, z2⟩, hd4, f4, _⟩ => ?_
  subst ev
  have ff : Fr (· = d) S S4 := ((f1.trans f2 fun _ _ h => h).trans f3 fun _ _ h => h).trans f4 fun _ _ h => h
  have hk4 : KS k q room rows S4 := hk.fr ff (dice_k hd hk).1 (dice_k hd hk).2
  have hl4 := ff.at hl hne
  have hf4 : Fr (· = d) S0 S4 := hf.trans ff fun _ _ h => h
  clear f1 f2 f3 f4 ff hd hd1 hd2 hd3 hk hl hf
  have hn4 : 0 ≤ now + z := by omega
  obtain ⟨w, ew⟩ : ∃ w, w = now + z := ⟨_, rfl⟩
  refine wp_of (a := .int w) (S := S4) (by rw [ew]; rfl) ?_
  rw [← ew] at hn4
  clear ew
  array_mem_dec
  refine wp_of rfl ?_
  refine ⟨_, rfl, fun _ => ?_, fun _ => ?_⟩
  · array_mem_dec
    refine wp_mono (roll_ok 10 d 6 _ hd4 (by decide) (by decide)) fun v S5 ⟨⟨m, ev, m1, m2⟩, hd5, f5, _⟩ => ?_
    subst ev
    have hk5 := hk4.fr f5 (dice_k hd4 hk4).1 (dice_k hd4 hk4).2
    have hl5 := f5.at hl4 hne
    have hf5 : Fr (· = d) S0 S5 := hf4.trans f5 fun _ _ h => h
    array_mem_dec
    refine wp_meth ?_
    array_mem_dec
    refine ⟨_, _, _, rfl, hk5.1, rfl, ?_⟩
    array_mem_dec
    refine wp_mono (put_ok (n := 7) hk5 hr hlen hroom hx val1 (by omega) (by omega) hn4) fun y S6 ⟨ey, hk6, f6⟩ => ?_
    subst ey
    array_mem_dec
    refine wp_of rfl ?_
    refine ⟨_, rfl, fun hc => by simp at hc, fun _ => ?_⟩
    have hl6 := f6.at hl5 (line_k hl5 hk5).2
    have hd6 : Dice d S6 := hd5.fr f6 (Ne.symm (dice_k hd5 hk5).2)
    have hf6 : Fr (· = d) S0 S6 := hf5.trans f6 fun i hi e => by subst e; omega
    array_mem_dec
    refine wp_mono (lkeep_ok (n := 11) hl6 hr hx hlen9) fun y S7 ⟨l', ey, hl', hg, f7⟩ => ?_
    subst ey
    rw [keep_put h0 hlen] at hg
    apply wf_nil
    exact fin_ok hroom hK ⟨_, _, k, q, _, _, _, _, _, _, _, rfl, hn4, hd6.fr f7 fun h => h, hk6.fr f7 (fun h => h) fun h => h, hg, fun e => by have := hd6.lt; omega, hq, put_rok hr hx, put_len h0 hlen, hf6.trans f7 fun _ _ h => h.elim⟩
  · array_mem_dec
    refine wp_of rfl ?_
    refine ⟨_, rfl, fun _ => ?_, fun _ => ?_⟩
    · by_cases hex : ∃ r ∈ rows, r.1 = x ∧ r.2.2 > w
      · obtain ⟨r, hm, e, hu⟩ := hex
        subst e
        array_mem_dec
        refine wp_mono (lgot_yes (n := 11) hl4 hr hlen9 hm hu) fun y S5 ⟨l', ey, hl', hg, f5⟩ => ?_
        subst ey
        refine ⟨_, _, rfl, rfl, ?_⟩
        have hk5 := hk4.fr f5 (fun h => h) fun h => h
        array_mem_dec
        refine wp_meth ?_
        array_mem_dec
        refine ⟨_, _, _, rfl, hk5.1, rfl, ?_⟩
        array_mem_dec
        refine wp_mono (got_yes (n := 8) hk5 hr hlen9 hm hu hn4) fun y S6 ⟨ey, hk6, f6⟩ => ?_
        subst ey
        array_mem_dec
        refine wp_of (a := .bl false) (S := S6) ?_ ?_
        · have := eqs_tup (n := 7) (xs := [.int r.2.1, .int r.2.2]) (fun x hx => by
            simp only [List.mem_cons, List.not_mem_nil, or_false] at hx
            rcases hx with rfl | rfl <;> exact eqs_int _ _) S6
          show optB ((eqD S6 8 (.tup [.int r.2.1, .int r.2.2]) (.tup [.int r.2.1, .int r.2.2])).map (! ·)) S6 = _
          rw [this]
          rfl
        refine ⟨_, rfl, fun hc => by simp at hc, fun _ => ?_⟩
        apply wf_nil
        apply wf_nil
        apply wf_nil
        have hd5 := hd4.fr f5 fun h => h
        have hd6 : Dice d S6 := hd5.fr f6 (Ne.symm (dice_k hd5 hk5).2)
        exact fin_ok hroom hK ⟨_, _, k, q, _, _, _, _, _, _, _, rfl, hn4, hd6, hk6, f6.at hg (line_k hg hk5).2, fun e => by have := hd4.lt; omega, hq, ok_add (ok_sub hr (drop_sub _ _)) (drop_no _ _) (hr.2 r hm), by
          have e1 : (dropR rows r.1).length < rows.length := by
            unfold dropR
            exact List.length_filter_lt_length_iff_exists.mpr ⟨r, hm, by simp⟩
          simp
          omega, (hf4.trans f5 fun _ _ h => h.elim).trans f6 fun i hi e => by subst e; omega⟩
      · have hno : ∀ r ∈ rows, r.1 = x → r.2.2 ≤ w := fun r hm e => by
          have : ¬ r.2.2 > w := fun hu => hex ⟨r, hm, e, hu⟩
          omega
        array_mem_dec
        refine wp_mono (lgot_no (n := 11) hl4 hr hx hno) fun y S5 ⟨ey, f5⟩ => ?_
        subst ey
        refine ⟨_, _, rfl, rfl, ?_⟩
        have hk5 := hk4.fr f5 (fun h => h) fun h => h
        array_mem_dec
        refine wp_meth ?_
        array_mem_dec
        refine ⟨_, _, _, rfl, hk5.1, rfl, ?_⟩
        array_mem_dec
        refine wp_of (got_no (n := 8) hk5 hr hx hno hn4) ?_
        array_mem_dec
        refine wp_of (a := .bl false) (S := S5) rfl ?_
        refine ⟨_, rfl, fun hc => by simp at hc, fun _ => ?_⟩
        apply wf_nil
        apply wf_nil
        apply wf_nil
        exact fin_ok hroom hK ⟨_, _, k, q, _, _, _, _, _, _, _, rfl, hn4, hd4.fr f5 fun h => h, hk5, f5.at hl4 fun h => h, hne, hq, hr, hlen, hf4.trans f5 fun _ _ h => h.elim⟩
    · array_mem_dec
      refine wp_meth ?_
      array_mem_dec
      refine ⟨_, _, _, rfl, hk4.1, rfl, ?_⟩
      array_mem_dec
      refine wp_mono (aged_ok (n := 8) hk4 hr hn4) fun y S5 ⟨ey, ho, hk5, f5⟩ => ?_
      subst ey
      have hl5 := f5.at hl4 (line_k hl4 hk4).2
      have hd5 : Dice d S5 := hd4.fr f5 (Ne.symm (dice_k hd4 hk4).2)
      array_mem_dec
      refine comp_lines hl5 (fun r => decide (r.2.2 ≤ w)) (fun r => r.1) (fun r _ => ?_) (fun r _ _ => ?_) ?_
      · apply eq_of
        array_mem_dec
        refine get_items (xs := [r.1, .int r.2.1, .int r.2.2]) rfl rfl ?_
        array_mem_dec
        refine wp_of rfl ?_
        exact ⟨_, rfl, rfl, rfl⟩
      · apply eq_of
        array_mem_dec
        refine get_items (xs := [r.1, .int r.2.1, .int r.2.2]) rfl rfl ?_
        exact ⟨rfl, rfl⟩
      have f6 : Fr no S5 (S5 ++ [O.lst ((oldR rows w).map (·.1))]) := Fr.app _ _ _
      refine wp_of (cmp_lists (xs := (oldR rows w).map (·.1)) (f6.at ho fun h => h) (at_new _ _) fun y hy => ?_) ?_
      · obtain ⟨r, hr', rfl⟩ := List.mem_map.mp hy
        exact eqs_name (hr.2 r (List.mem_filter.mp hr').1) 5
      have hk6 := hk5.fr f6 (fun h => h) fun h => h
      have hl6 := f6.at hl5 fun h => h
      have hd6 := hd5.fr f6 fun h => h
      refine ⟨_, rfl, fun hc => by simp at hc, fun _ => ?_⟩
      array_mem_dec
      refine comp_lines hl6 (fun r => decide (r.2.2 > w)) line (fun r _ => ?_) (fun r _ _ => rfl) ?_
      · apply eq_of
        array_mem_dec
        refine get_items (xs := [r.1, .int r.2.1, .int r.2.2]) rfl rfl ?_
        array_mem_dec
        refine wp_of rfl ?_
        exact ⟨_, rfl, rfl, rfl⟩
      have f7 : Fr no (S5 ++ [O.lst ((oldR rows w).map (·.1))]) ((S5 ++ [O.lst ((oldR rows w).map (·.1))]) ++ [O.lst ((newR rows w).map line)]) := Fr.app _ _ _
      apply wf_nil
      apply wf_nil
      exact fin_ok hroom hK ⟨_, _, k, q, newR rows w, _, _, _, _, _, _, rfl, hn4, hd6.fr f7 fun h => h, hk6.fr f7 (fun h => h) fun h => h, at_new _ _, fun e => Nat.lt_irrefl _ (Nat.lt_of_lt_of_eq hd6.lt e), hq, ok_sub hr List.filter_sublist, by
        have := (List.filter_sublist (p := fun r : Row => decide (r.2.2 > w)) (l := rows)).length_le
        unfold newR
        omega, ((hf4.trans f5 fun i hi e => by subst e; omega).trans f6 fun _ _ h => h.elim).trans f7 fun _ _ h => h.elim⟩
theorem law_true : ∀ ns : List Int, ns.length ≤ 63 → ∃ S', (calls P (12 + 1)).f 17 [.ref 0] [.rol (ns.map D.int)] = .ok (.bl true) S' := by
  intro ns hns
  rw [← callsI_eq]
  suffices h : Wp ((callsI P (12 + 1)).f 17 [.ref 0] [.rol (ns.map D.int)]) fun v _ => v = .bl true by
    obtain ⟨v, S', e, rfl⟩ := wp_ex h
    exact ⟨S', e⟩
  rw [e_law]
  apply wp_end
  unfold b_law
  array_mem_dec
  refine wp_mono (rounds_ok 10 ns hns _ rfl) fun v S1 ⟨g, ds, ev, hg, _, hds, _⟩ => ?_
  subst ev
  unfold forV
  simp only [hg]
  refine wf_for (Inv := fun i ρ S => (∃ x1 x2 x3 x4 x5 x6 x7 x8 x9 x10 x11, ρ = [some (.ref 0), x1, x2, x3, x4, x5, x6, x7, x8, x9, x10, x11]) ∧ S[g]? = some (.lst ds) ∧ ∀ x ∈ ds, ∃ d, x = .ref d ∧ Dice d S) ⟨⟨_, _, _, _, _, _, _, _, _, _, _, rfl⟩, hg, hds⟩ (fun i ρ S _ hI => ?_) (fun i x ρ S hx hI => ?_) (fun ρ S hI => ?_)
  · simp only [stands, itemsOf, hI.2.1, decide_true]
  · obtain ⟨⟨x1, x2, x3, x4, x5, x6, x7, x8, x9, x10, x11, rfl⟩, hg, hds⟩ := hI
    obtain ⟨d, rfl, hd⟩ := hds x (List.mem_of_getElem? hx)
    refine ⟨_, rfl, ?_⟩
    have hgd : g ≠ d := fun e => by
      subst e
      obtain ⟨a, b, hd⟩ := hd
      rw [hg] at hd
      cases hd
      obtain ⟨d, e, _⟩ := hds (.int a) List.mem_cons_self
      cases e
    array_mem_dec
    refine wp_mono (roll_ok 10 d 6 _ hd (by decide) (by decide)) fun v S2 ⟨⟨room, ev, r1, r2⟩, hd2, f2, _⟩ => ?_
    subst ev
    array_mem_dec
    refine ⟨_, rfl, ?_⟩
    array_mem_dec
    refine wp_make ?_
    array_mem_dec
    have f3 : Fr (· = d) S2 (S2 ++ [O.lst []]) := Fr.app _ _ _
    have hl3 : (S2 ++ [O.lst []])[S2.length]? = some (.lst []) := at_new _ _
    have hd3 : Dice d (S2 ++ [O.lst []]) := hd2.fr (Fr.app no _ _) fun h => h
    have e3 : (S2 ++ [O.lst []]).length = S2.length + 1 := by simp
    generalize S2 ++ [O.lst []] = S3 at f3 hl3 hd3 e3
    refine wp_mono (init_ok 8 S3.length room _ (at_new _ _) r1 (by omega)) fun y S4 ⟨ey, hk4, f4⟩ => ?_
    subst ey
    refine ⟨rfl, ?_⟩
    have f4' : Fr no S3 S4 := (Fr.app (fun i => i = S3.length) S3 [O.obj 0 []]).trans f4 (fun _ _ h => h) |>.mono fun i hi e => by
      have : i = S3.length := e
      omega
    have hd4 := hd3.fr f4' fun h => h
    have hl4 := f4'.at hl3 fun h => h
    have ff : Fr (· = d) S S4 := (f2.trans f3 fun _ _ h => h).trans f4' fun _ _ h => h.elim
    array_mem_dec
    refine wp_mono (roll_ok 10 d 31 _ hd4 (by decide) (by decide)) fun v S5 ⟨⟨m, ev, m1, m2⟩, hd5, f5, _⟩ => ?_
    subst ev
    refine ⟨_, rfl, ?_, ?_⟩
    · simp only [rangeOk, Bool.and_eq_true, decide_eq_true_eq]
      omega
    have hl2 : S2.length ≠ d := fun e => by have := hd2.lt; omega
    refine wf_for (Inv := fun i ρ S' => Inn S d room ρ S') ⟨_, _, _, _, [], _, _, _, _, _, _, rfl, by decide, hd5, hk4.fr f5 (dice_k hd4 hk4).1 (dice_k hd4 hk4).2, f5.at hl4 hl2, hl2, ?_, ⟨List.nodup_nil, fun r hr => by simp at hr⟩, by simpa using r1, ff.trans f5 fun _ _ h => h⟩ (fun _ _ _ _ _ => rfl) (fun i x ρ S' hx hI => ?_) (fun ρ S' hI => ?_)
    · have a1 := f2.1
      have a2 := f3.1
      simp
      omega
    · obtain ⟨l, now, k, q, rows, y6, y7, y8, y9, y10, y11, rfl, hr⟩ := hI
      refine ⟨_, rfl, ?_⟩
      exact turn_ok (S0 := S) (d := d) (room := room) (by omega) r1 hd.lt (fun ρ S h => h) ⟨l, now, k, q, rows, _, y7, y8, y9, y10, y11, rfl, hr⟩
    · obtain ⟨l, now, k, q, rows, y6, y7, y8, y9, y10, y11, rfl, _, hd6, _, _, _, _, _, _, hf6⟩ := hI
      array_mem_dec
      refine ⟨⟨_, _, _, _, _, _, _, _, _, _, _, rfl⟩, hf6.at hg hgd, fun x hx => ?_⟩
      obtain ⟨j, e, hj⟩ := hds x hx
      refine ⟨j, e, ?_⟩
      by_cases ej : j = d
      · rw [ej]; exact hd6
      · exact hj.fr hf6 ej
  · obtain ⟨⟨x1, x2, x3, x4, x5, x6, x7, x8, x9, x10, x11, rfl⟩, hg, hds⟩ := hI
    array_mem_dec
    rfl
end Q30
end

section
set_option Elab.async false
set_option linter.all false
set_option maxRecDepth 100000
set_option maxHeartbeats 4000000
namespace Q30
open PySem L2
theorem all_mk {l : PySem.W.OpenLaw} {w : World} {K : PySem.W.Frag} {h : Heap} {mg : Str → Option Value} {fa C0 fu0 fu1 fu2 fu3 fu4 fu5 fu6 fu7 fu8 fu9 fu10 fu11 fu12 fu13 fu14 fu15 fu16 fu17 fm0_0 fm0_1 fm0_2 fm0_3 fm0_4 fm0_5 e0 e1 eW : Addr} (X : K.In h) (G : h.Ns mainGlobals mg) (hfa : mg "law" = some (.ref fa))
    {odu0 anu0 odu1 anu1 odu2 anu2 odu3 anu3 odu4 anu4 odu5 anu5 odu6 anu6 odu7 anu7 odu8 anu8 odu9 anu9 odu10 anu10 odu11 anu11 odu12 anu12 odu13 anu13 odu14 anu14 odu15 anu15 odu16 anu16 odu17 anu17 odm0_0 anm0_0 odm0_1 anm0_1 odm0_2 anm0_2 odm0_3 anm0_3 odm0_4 anm0_4 odm0_5 anm0_5 odW odNW : Option Addr} {slu0 slu1 slu2 slu3 slu4 slu5 slu6 slu7 slu8 slu9 slu10 slu11 slu12 slu13 slu14 slu15 slu16 slu17 slm0_0 slm0_1 slm0_2 slm0_3 slm0_4 slm0_5 slW slNW : Array (Option Value)}
    {ocu0 kVu0 dcu0 pmu0 cdu0 ctu0 ocu1 kVu1 dcu1 pmu1 cdu1 ctu1 ocu2 kVu2 dcu2 pmu2 cdu2 ctu2 ocu3 kVu3 dcu3 pmu3 cdu3 ctu3 ocu4 kVu4 dcu4 pmu4 cdu4 ctu4 ocu5 kVu5 dcu5 pmu5 cdu5 ctu5 ocu6 kVu6 dcu6 pmu6 cdu6 ctu6 ocu7 kVu7 dcu7 pmu7 cdu7 ctu7 ocu8 kVu8 dcu8 pmu8 cdu8 ctu8 ocu9 kVu9 dcu9 pmu9 cdu9 ctu9 ocu10 kVu10 dcu10 pmu10 cdu10 ctu10 ocu11 kVu11 dcu11 pmu11 cdu11 ctu11 ocu12 kVu12 dcu12 pmu12 cdu12 ctu12 ocu13 kVu13 dcu13 pmu13 cdu13 ctu13 ocu14 kVu14 dcu14 pmu14 cdu14 ctu14 ocu15 kVu15 dcu15 pmu15 cdu15 ctu15 ocu16 kVu16 dcu16 pmu16 cdu16 ctu16 ocu17 kVu17 dcu17 pmu17 cdu17 ctu17 ocm0_0 kVm0_0 dcm0_0 pmm0_0 cdm0_0 ctm0_0 ocm0_1 kVm0_1 dcm0_1 pmm0_1 cdm0_1 ctm0_1 ocm0_2 kVm0_2 dcm0_2 pmm0_2 cdm0_2 ctm0_2 ocm0_3 kVm0_3 dcm0_3 pmm0_3 cdm0_3 ctm0_3 ocm0_4 kVm0_4 dcm0_4 pmm0_4 cdm0_4 ctm0_4 ocm0_5 kVm0_5 dcm0_5 pmm0_5 cdm0_5 ctm0_5 oW oNW : Value} {t0 t1 t2 t3 t4 : Tok} {cdW : ClassData} {esW : Array DictEntry} {epW : Nat}
    {nm0 q0 : Str} {N0 : Addr} {bs0 sub0 : List Value} {hx0 ab0 : Bool} {sn0 : List Str} {col0 : Option Bool} {dd0 : Option Addr} {ka0 kb0 kc_0 kd0 kf0 : Option Value} {oN0 : Value} {odN0 : Option Addr} {es0 : Array DictEntry} {ep0 : Nat} {slN0 : Array (Option Value)}
    {nm1 q1 : Str} {N1 : Addr} {bs1 sub1 : List Value} {hx1 ab1 : Bool} {sn1 : List Str} {col1 : Option Bool} {dd1 : Option Addr} {ka1 kb1 kc_1 kd1 kf1 : Option Value} {oN1 : Value} {odN1 : Option Addr} {es1 : Array DictEntry} {ep1 : Nat} {slN1 : Array (Option Value)}
    (aC0 : PySem.W.nsIn K mainGlobals "Keeps" = some (some (.ref C0)))
    (au0 : PySem.W.nsIn K mainGlobals "is_whole" = some (some (.ref fu0)))
    (lu0 : K.lookup fu0 = some ⟨ocu0, odu0, .func (PySem.W.fnOf "is_whole" "is_whole" (defArgs (top 6)) (defBody (top 6)) (defScope (top 6)) .none kVu0 dcu0 pmu0 anu0 cdu0 ctu0), slu0⟩)
    (cu0d : PySem.W.codeIn K cdu0 "is_whole" = true)
    (ku0 : PySem.W.keepIn K (.ref fu0) = true)
    (au1 : PySem.W.nsIn K mainGlobals "is_within" = some (some (.ref fu1)))
    (lu1 : K.lookup fu1 = some ⟨ocu1, odu1, .func (PySem.W.fnOf "is_within" "is_within" (defArgs (top 7)) (defBody (top 7)) (defScope (top 7)) .none kVu1 dcu1 pmu1 anu1 cdu1 ctu1), slu1⟩)
    (cu1d : PySem.W.codeIn K cdu1 "is_within" = true)
    (ku1 : PySem.W.keepIn K (.ref fu1) = true)
    (au2 : PySem.W.nsIn K mainGlobals "is_tick" = some (some (.ref fu2)))
    (lu2 : K.lookup fu2 = some ⟨ocu2, odu2, .func (PySem.W.fnOf "is_tick" "is_tick" (defArgs (top 8)) (defBody (top 8)) (defScope (top 8)) .none kVu2 dcu2 pmu2 anu2 cdu2 ctu2), slu2⟩)
    (cu2d : PySem.W.codeIn K cdu2 "is_tick" = true)
    (ku2 : PySem.W.keepIn K (.ref fu2) = true)
    (au3 : PySem.W.nsIn K mainGlobals "need_within" = some (some (.ref fu3)))
    (lu3 : K.lookup fu3 = some ⟨ocu3, odu3, .func (PySem.W.fnOf "need_within" "need_within" (defArgs (top 9)) (defBody (top 9)) (defScope (top 9)) .none kVu3 dcu3 pmu3 anu3 cdu3 ctu3), slu3⟩)
    (cu3d : PySem.W.codeIn K cdu3 "need_within" = true)
    (ku3 : PySem.W.keepIn K (.ref fu3) = true)
    (au4 : PySem.W.nsIn K mainGlobals "need_value" = some (some (.ref fu4)))
    (lu4 : K.lookup fu4 = some ⟨ocu4, odu4, .func (PySem.W.fnOf "need_value" "need_value" (defArgs (top 10)) (defBody (top 10)) (defScope (top 10)) .none kVu4 dcu4 pmu4 anu4 cdu4 ctu4), slu4⟩)
    (cu4d : PySem.W.codeIn K cdu4 "need_value" = true)
    (ku4 : PySem.W.keepIn K (.ref fu4) = true)
    (au5 : PySem.W.nsIn K mainGlobals "need_tick" = some (some (.ref fu5)))
    (lu5 : K.lookup fu5 = some ⟨ocu5, odu5, .func (PySem.W.fnOf "need_tick" "need_tick" (defArgs (top 11)) (defBody (top 11)) (defScope (top 11)) .none kVu5 dcu5 pmu5 anu5 cdu5 ctu5), slu5⟩)
    (cu5d : PySem.W.codeIn K cdu5 "need_tick" = true)
    (ku5 : PySem.W.keepIn K (.ref fu5) = true)
    (au6 : PySem.W.nsIn K mainGlobals "is_part" = some (some (.ref fu6)))
    (lu6 : K.lookup fu6 = some ⟨ocu6, odu6, .func (PySem.W.fnOf "is_part" "is_part" (defArgs (top 16)) (defBody (top 16)) (defScope (top 16)) .none kVu6 dcu6 pmu6 anu6 cdu6 ctu6), slu6⟩)
    (cu6d : PySem.W.codeIn K cdu6 "is_part" = true)
    (ku6 : PySem.W.keepIn K (.ref fu6) = true)
    (au7 : PySem.W.nsIn K mainGlobals "is_name" = some (some (.ref fu7)))
    (lu7 : K.lookup fu7 = some ⟨ocu7, odu7, .func (PySem.W.fnOf "is_name" "is_name" (defArgs (top 17)) (defBody (top 17)) (defScope (top 17)) .none kVu7 dcu7 pmu7 anu7 cdu7 ctu7), slu7⟩)
    (cu7d : PySem.W.codeIn K cdu7 "is_name" = true)
    (ku7 : PySem.W.keepIn K (.ref fu7) = true)
    (au8 : PySem.W.nsIn K mainGlobals "need_name" = some (some (.ref fu8)))
    (lu8 : K.lookup fu8 = some ⟨ocu8, odu8, .func (PySem.W.fnOf "need_name" "need_name" (defArgs (top 18)) (defBody (top 18)) (defScope (top 18)) .none kVu8 dcu8 pmu8 anu8 cdu8 ctu8), slu8⟩)
    (cu8d : PySem.W.codeIn K cdu8 "need_name" = true)
    (ku8 : PySem.W.keepIn K (.ref fu8) = true)
    (au9 : PySem.W.nsIn K mainGlobals "_law_cell" = some (some (.ref fu9)))
    (lu9 : K.lookup fu9 = some ⟨ocu9, odu9, .func (PySem.W.fnOf "_law_cell" "_law_cell" (defArgs (top 23)) (defBody (top 23)) (defScope (top 23)) .none kVu9 dcu9 pmu9 anu9 cdu9 ctu9), slu9⟩)
    (cu9d : PySem.W.codeIn K cdu9 "_law_cell" = true)
    (ku9 : PySem.W.keepIn K (.ref fu9) = true)
    (au10 : PySem.W.nsIn K mainGlobals "_law_drawn" = some (some (.ref fu10)))
    (lu10 : K.lookup fu10 = some ⟨ocu10, odu10, .func (PySem.W.fnOf "_law_drawn" "_law_drawn" (defArgs (top 24)) (defBody (top 24)) (defScope (top 24)) .none kVu10 dcu10 pmu10 anu10 cdu10 ctu10), slu10⟩)
    (cu10d : PySem.W.codeIn K cdu10 "_law_drawn" = true)
    (ku10 : PySem.W.keepIn K (.ref fu10) = true)
    (au11 : PySem.W.nsIn K mainGlobals "_law_roll" = some (some (.ref fu11)))
    (lu11 : K.lookup fu11 = some ⟨ocu11, odu11, .func (PySem.W.fnOf "_law_roll" "_law_roll" (defArgs (top 25)) (defBody (top 25)) (defScope (top 25)) .none kVu11 dcu11 pmu11 anu11 cdu11 ctu11), slu11⟩)
    (cu11d : PySem.W.codeIn K cdu11 "_law_roll" = true)
    (ku11 : PySem.W.keepIn K (.ref fu11) = true)
    (au12 : PySem.W.nsIn K mainGlobals "_law_rounds" = some (some (.ref fu12)))
    (lu12 : K.lookup fu12 = some ⟨ocu12, odu12, .func (PySem.W.fnOf "_law_rounds" "_law_rounds" (defArgs (top 26)) (defBody (top 26)) (defScope (top 26)) .none kVu12 dcu12 pmu12 anu12 cdu12 ctu12), slu12⟩)
    (cu12d : PySem.W.codeIn K cdu12 "_law_rounds" = true)
    (ku12 : PySem.W.keepIn K (.ref fu12) = true)
    (au13 : PySem.W.nsIn K mainGlobals "_law_head" = some (some (.ref fu13)))
    (lu13 : K.lookup fu13 = some ⟨ocu13, odu13, .func (PySem.W.fnOf "_law_head" "_law_head" (defArgs (top 27)) (defBody (top 27)) (defScope (top 27)) .none kVu13 dcu13 pmu13 anu13 cdu13 ctu13), slu13⟩)
    (cu13d : PySem.W.codeIn K cdu13 "_law_head" = true)
    (ku13 : PySem.W.keepIn K (.ref fu13) = true)
    (au14 : PySem.W.nsIn K mainGlobals "_law_any_name" = some (some (.ref fu14)))
    (lu14 : K.lookup fu14 = some ⟨ocu14, odu14, .func (PySem.W.fnOf "_law_any_name" "_law_any_name" (defArgs (top 28)) (defBody (top 28)) (defScope (top 28)) .none kVu14 dcu14 pmu14 anu14 cdu14 ctu14), slu14⟩)
    (cu14d : PySem.W.codeIn K cdu14 "_law_any_name" = true)
    (ku14 : PySem.W.keepIn K (.ref fu14) = true)
    (au15 : PySem.W.nsIn K mainGlobals "_law_keep" = some (some (.ref fu15)))
    (lu15 : K.lookup fu15 = some ⟨ocu15, odu15, .func (PySem.W.fnOf "_law_keep" "_law_keep" (defArgs (top 29)) (defBody (top 29)) (defScope (top 29)) .none kVu15 dcu15 pmu15 anu15 cdu15 ctu15), slu15⟩)
    (cu15d : PySem.W.codeIn K cdu15 "_law_keep" = true)
    (ku15 : PySem.W.keepIn K (.ref fu15) = true)
    (au16 : PySem.W.nsIn K mainGlobals "_law_got" = some (some (.ref fu16)))
    (lu16 : K.lookup fu16 = some ⟨ocu16, odu16, .func (PySem.W.fnOf "_law_got" "_law_got" (defArgs (top 30)) (defBody (top 30)) (defScope (top 30)) .none kVu16 dcu16 pmu16 anu16 cdu16 ctu16), slu16⟩)
    (cu16d : PySem.W.codeIn K cdu16 "_law_got" = true)
    (ku16 : PySem.W.keepIn K (.ref fu16) = true)
    (au17 : PySem.W.nsIn K mainGlobals "law" = some (some (.ref fu17)))
    (lu17 : K.lookup fu17 = some ⟨ocu17, odu17, .func (PySem.W.fnOf "law" "law" (defArgs (top 31)) (defBody (top 31)) (defScope (top 31)) .none kVu17 dcu17 pmu17 anu17 cdu17 ctu17), slu17⟩)
    (cu17d : PySem.W.codeIn K cdu17 "law" = true)
    (ku17 : PySem.W.keepIn K (.ref fu17) = true)
    (am0_0 : PySem.W.findIn K (.ref C0) "__init__" = some (some (.ref fm0_0)))
    (im0_0 : PySem.W.isFn K (.ref fm0_0) = true)
    (lm0_0 : K.lookup fm0_0 = some ⟨ocm0_0, odm0_0, .func (PySem.W.fnOf "__init__" "Keeps.__init__" (defArgs (inCls (top 21) 0)) (defBody (inCls (top 21) 0)) (defScope (inCls (top 21) 0)) .none kVm0_0 dcm0_0 pmm0_0 anm0_0 cdm0_0 ctm0_0), slm0_0⟩)
    (cm0_0d : PySem.W.codeIn K cdm0_0 "Keeps.__init__" = true)
    (km0_0 : PySem.W.keepIn K (.ref fm0_0) = true)
    (am0_1 : PySem.W.findIn K (.ref C0) "put" = some (some (.ref fm0_1)))
    (im0_1 : PySem.W.isFn K (.ref fm0_1) = true)
    (lm0_1 : K.lookup fm0_1 = some ⟨ocm0_1, odm0_1, .func (PySem.W.fnOf "put" "Keeps.put" (defArgs (inCls (top 21) 1)) (defBody (inCls (top 21) 1)) (defScope (inCls (top 21) 1)) .none kVm0_1 dcm0_1 pmm0_1 anm0_1 cdm0_1 ctm0_1), slm0_1⟩)
    (cm0_1d : PySem.W.codeIn K cdm0_1 "Keeps.put" = true)
    (km0_1 : PySem.W.keepIn K (.ref fm0_1) = true)
    (am0_2 : PySem.W.findIn K (.ref C0) "got" = some (some (.ref fm0_2)))
    (im0_2 : PySem.W.isFn K (.ref fm0_2) = true)
    (lm0_2 : K.lookup fm0_2 = some ⟨ocm0_2, odm0_2, .func (PySem.W.fnOf "got" "Keeps.got" (defArgs (inCls (top 21) 2)) (defBody (inCls (top 21) 2)) (defScope (inCls (top 21) 2)) .none kVm0_2 dcm0_2 pmm0_2 anm0_2 cdm0_2 ctm0_2), slm0_2⟩)
    (cm0_2d : PySem.W.codeIn K cdm0_2 "Keeps.got" = true)
    (km0_2 : PySem.W.keepIn K (.ref fm0_2) = true)
    (am0_3 : PySem.W.findIn K (.ref C0) "aged" = some (some (.ref fm0_3)))
    (im0_3 : PySem.W.isFn K (.ref fm0_3) = true)
    (lm0_3 : K.lookup fm0_3 = some ⟨ocm0_3, odm0_3, .func (PySem.W.fnOf "aged" "Keeps.aged" (defArgs (inCls (top 21) 3)) (defBody (inCls (top 21) 3)) (defScope (inCls (top 21) 3)) .none kVm0_3 dcm0_3 pmm0_3 anm0_3 cdm0_3 ctm0_3), slm0_3⟩)
    (cm0_3d : PySem.W.codeIn K cdm0_3 "Keeps.aged" = true)
    (km0_3 : PySem.W.keepIn K (.ref fm0_3) = true)
    (am0_4 : PySem.W.findIn K (.ref C0) "rows" = some (some (.ref fm0_4)))
    (im0_4 : PySem.W.isFn K (.ref fm0_4) = true)
    (lm0_4 : K.lookup fm0_4 = some ⟨ocm0_4, odm0_4, .func (PySem.W.fnOf "rows" "Keeps.rows" (defArgs (inCls (top 21) 4)) (defBody (inCls (top 21) 4)) (defScope (inCls (top 21) 4)) .none kVm0_4 dcm0_4 pmm0_4 anm0_4 cdm0_4 ctm0_4), slm0_4⟩)
    (cm0_4d : PySem.W.codeIn K cdm0_4 "Keeps.rows" = true)
    (km0_4 : PySem.W.keepIn K (.ref fm0_4) = true)
    (am0_5 : PySem.W.findIn K (.ref C0) "__len__" = some (some (.ref fm0_5)))
    (im0_5 : PySem.W.isFn K (.ref fm0_5) = true)
    (lm0_5 : K.lookup fm0_5 = some ⟨ocm0_5, odm0_5, .func (PySem.W.fnOf "__len__" "Keeps.__len__" (defArgs (inCls (top 21) 5)) (defBody (inCls (top 21) 5)) (defScope (inCls (top 21) 5)) .none kVm0_5 dcm0_5 pmm0_5 anm0_5 cdm0_5 ctm0_5), slm0_5⟩)
    (cm0_5d : PySem.W.codeIn K cdm0_5 "Keeps.__len__" = true)
    (km0_5 : PySem.W.keepIn K (.ref fm0_5) = true)
    (pg0 : PySem.W.plainGet K C0 Str.empty = true)
    (hd0 : PySem.W.hasDictIn K C0 = true)
    (po0 : PySem.W.plainOver K C0 = true)
    (sa0 : PySem.W.findIn K (.ref C0) "__setattr__" = some (some (.builtin "object.__setattr__")))
    (mk0 : PySem.W.makesIn K C0 = true)
    (kc0 : PySem.W.keepIn K (.ref C0) = true)
    (n0_4 : PySem.W.findIn K (.ref C0) "kept" = some none)
    (n0_5 : PySem.W.findIn K (.ref C0) "pop" = some none)
    (n0_7 : PySem.W.findIn K (.ref C0) "room" = some none)
    (gc0 : PySem.W.nsIn K mainGlobals "VALUE_MOST" = some (some (.int 999 t0)))
    (gc1 : PySem.W.nsIn K mainGlobals "SIGNS" = some (some (.str "abcdefghijklmnopqrstuvwxyz0123456789" t1)))
    (gc2 : PySem.W.nsIn K mainGlobals "PART_LONGEST" = some (some (.int 4 t2)))
    (gc3 : PySem.W.nsIn K mainGlobals "NAME_LONGEST" = some (some (.int 5 t3)))
    (gc4 : PySem.W.nsIn K mainGlobals "ROOM_MOST" = some (some (.int 9 t4)))
    (zn0 : PySem.W.nsIn K mainGlobals "isinstance" = some none)
    (zn1 : PySem.W.nsIn K mainGlobals "int" = some none)
    (zn2 : PySem.W.nsIn K mainGlobals "bool" = some none)
    (zn3 : PySem.W.nsIn K mainGlobals "str" = some none)
    (zn4 : PySem.W.nsIn K mainGlobals "tuple" = some none)
    (zn5 : PySem.W.nsIn K mainGlobals "list" = some none)
    (zn6 : PySem.W.nsIn K mainGlobals "len" = some none)
    (zn7 : PySem.W.nsIn K mainGlobals "all" = some none)
    (zn8 : PySem.W.nsIn K mainGlobals "max" = some none)
    (zn9 : PySem.W.nsIn K mainGlobals "min" = some none)
    (zn10 : PySem.W.nsIn K mainGlobals "range" = some none)
    (eaW : PySem.W.nsIn K mainGlobals "WantError" = some (some (.ref eW)))
    (elW : K.lookup eW = some ⟨oW, odW, .cls cdW, slW⟩)
    (eNW : K.lookup cdW.ns = some ⟨oNW, odNW, .dict esW epW, slNW⟩)
    (eKW : exNs esW = true)
    (ea0 : PySem.W.nsIn K mainGlobals "BadName" = some (some (.ref e0)))
    (el0 : K.lookup e0 = some (excClassObj nm0 q0 e0 N0 bs0 (.ref eW :: [.type "ValueError", .type "Exception", .type "BaseException", .type "object"]) hx0 sn0 sub0 ab0 col0 dd0 ka0 kb0 kc_0 kd0 kf0 "ValueError.__new__"))
    (eN0 : K.lookup N0 = some ⟨oN0, odN0, .dict es0 ep0, slN0⟩)
    (eK0 : exNs es0 = true)
    (ea1 : PySem.W.nsIn K mainGlobals "BadNumber" = some (some (.ref e1)))
    (el1 : K.lookup e1 = some (excClassObj nm1 q1 e1 N1 bs1 (.ref eW :: [.type "ValueError", .type "Exception", .type "BaseException", .type "object"]) hx1 sn1 sub1 ab1 col1 dd1 ka1 kb1 kc_1 kd1 kf1 "ValueError.__new__"))
    (eN1 : K.lookup N1 = some ⟨oN1, odN1, .dict es1 ep1, slN1⟩)
    (eK1 : exNs es1 = true) :
    ∃ fd : FuncData, (∀ (s : Shared) (v : Value), BindsTo s fd ⟨[v], []⟩ [("_law_script", v)]) ∧ ∀ base : Heap, K.In base → base.Ns mainGlobals mg → BmAt mg base → FnOk l.prog w K mg base (CXF l.prog w) (2 * 12 + 2) fa fd ["_law_script"] (spLaw K P.T ((RF.calls P (12 + 1)).f 17)) := by
  have e := hfa.symm.trans (PySem.W.mg_of X G au17)
  cases e
  have Fu0 := fun_mk (st := top 6) lu0 cu0d ku0
  have bu0 := Fu0.binds (ps := ["thing"]) fun _ _ _ _ _ _ us hl => match us, hl with | [_], _ => rfl
  have Fu1 := fun_mk (st := top 7) lu1 cu1d ku1
  have bu1 := Fu1.binds (ps := ["thing", "least", "most"]) fun _ _ _ _ _ _ us hl => match us, hl with | [_, _, _], _ => rfl
  have Fu2 := fun_mk (st := top 8) lu2 cu2d ku2
  have bu2 := Fu2.binds (ps := ["thing"]) fun _ _ _ _ _ _ us hl => match us, hl with | [_], _ => rfl
  have Fu3 := fun_mk (st := top 9) lu3 cu3d ku3
  have bu3 := Fu3.binds (ps := ["thing", "least", "most"]) fun _ _ _ _ _ _ us hl => match us, hl with | [_, _, _], _ => rfl
  have Fu4 := fun_mk (st := top 10) lu4 cu4d ku4
  have bu4 := Fu4.binds (ps := ["thing"]) fun _ _ _ _ _ _ us hl => match us, hl with | [_], _ => rfl
  have Fu5 := fun_mk (st := top 11) lu5 cu5d ku5
  have bu5 := Fu5.binds (ps := ["thing"]) fun _ _ _ _ _ _ us hl => match us, hl with | [_], _ => rfl
  have Fu6 := fun_mk (st := top 16) lu6 cu6d ku6
  have bu6 := Fu6.binds (ps := ["thing"]) fun _ _ _ _ _ _ us hl => match us, hl with | [_], _ => rfl
  have Fu7 := fun_mk (st := top 17) lu7 cu7d ku7
  have bu7 := Fu7.binds (ps := ["thing"]) fun _ _ _ _ _ _ us hl => match us, hl with | [_], _ => rfl
  have Fu8 := fun_mk (st := top 18) lu8 cu8d ku8
  have bu8 := Fu8.binds (ps := ["thing"]) fun _ _ _ _ _ _ us hl => match us, hl with | [_], _ => rfl
  have Fu9 := fun_mk (st := top 23) lu9 cu9d ku9
  have bu9 := Fu9.binds (ps := ["_law_script", "_law_k"]) fun _ _ _ _ _ _ us hl => match us, hl with | [_, _], _ => rfl
  have Fu10 := fun_mk (st := top 24) lu10 cu10d ku10
  have bu10 := Fu10.binds (ps := ["_law_cell_here", "_law_k"]) fun _ _ _ _ _ _ us hl => match us, hl with | [_, _], _ => rfl
  have Fu11 := fun_mk (st := top 25) lu11 cu11d ku11
  have bu11 := Fu11.binds (ps := ["_law_dice", "_law_many"]) fun _ _ _ _ _ _ us hl => match us, hl with | [_, _], _ => rfl
  have Fu12 := fun_mk (st := top 26) lu12 cu12d ku12
  have bu12 := Fu12.binds (ps := ["_law_script", "_law_most"]) fun _ _ _ _ _ _ us hl => match us, hl with | [_, _], _ => rfl
  have Fu13 := fun_mk (st := top 27) lu13 cu13d ku13
  have bu13 := Fu13.binds (ps := ["_law_dice"]) fun _ _ _ _ _ _ us hl => match us, hl with | [_], _ => rfl
  have Fu14 := fun_mk (st := top 28) lu14 cu14d ku14
  have bu14 := Fu14.binds (ps := ["_law_dice"]) fun _ _ _ _ _ _ us hl => match us, hl with | [_], _ => rfl
  have Fu15 := fun_mk (st := top 29) lu15 cu15d ku15
  have bu15 := Fu15.binds (ps := ["_law_lines", "_law_size", "_law_name", "_law_value", "_law_until", "_law_now"]) fun _ _ _ _ _ _ us hl => match us, hl with | [_, _, _, _, _, _], _ => rfl
  have Fu16 := fun_mk (st := top 30) lu16 cu16d ku16
  have bu16 := Fu16.binds (ps := ["_law_lines", "_law_name", "_law_now"]) fun _ _ _ _ _ _ us hl => match us, hl with | [_, _, _], _ => rfl
  have Fu17 := fun_mk (st := top 31) lu17 cu17d ku17
  have Fm0_0 := fun_mk (st := inCls (top 21) 0) lm0_0 cm0_0d km0_0
  have bm0_0 := Fm0_0.binds (ps := ["self", "room"]) fun _ _ _ _ _ _ us hl => match us, hl with | [_, _], _ => rfl
  have Fm0_1 := fun_mk (st := inCls (top 21) 1) lm0_1 cm0_1d km0_1
  have bm0_1 := Fm0_1.binds (ps := ["self", "name", "value", "until", "now"]) fun _ _ _ _ _ _ us hl => match us, hl with | [_, _, _, _, _], _ => rfl
  have Fm0_2 := fun_mk (st := inCls (top 21) 2) lm0_2 cm0_2d km0_2
  have bm0_2 := Fm0_2.binds (ps := ["self", "name", "now"]) fun _ _ _ _ _ _ us hl => match us, hl with | [_, _, _], _ => rfl
  have Fm0_3 := fun_mk (st := inCls (top 21) 3) lm0_3 cm0_3d km0_3
  have bm0_3 := Fm0_3.binds (ps := ["self", "now"]) fun _ _ _ _ _ _ us hl => match us, hl with | [_, _], _ => rfl
  have Fm0_4 := fun_mk (st := inCls (top 21) 4) lm0_4 cm0_4d km0_4
  have bm0_4 := Fm0_4.binds (ps := ["self"]) fun _ _ _ _ _ _ us hl => match us, hl with | [_], _ => rfl
  have Fm0_5 := fun_mk (st := inCls (top 21) 5) lm0_5 cm0_5d km0_5
  have bm0_5 := Fm0_5.binds (ps := ["self"]) fun _ _ _ _ _ _ us hl => match us, hl with | [_], _ => rfl
  have bl := Fu17.binds (ps := ["_law_script"]) fun _ _ _ _ _ _ us hl => match us, hl with | [_], _ => rfl
  have CL0 : Cls K C0 := ⟨pg0, hd0, po0, sa0⟩
  have RC0 : ExcC K e0 := excC_mk el0 eN0 eK0 elW eNW eKW
  have RC1 : ExcC K e1 := excC_mk el1 eN1 eK1 elW eNW eKW
  refine ⟨PySem.W.fnOf "law" "law" (defArgs (top 31)) (defBody (top 31)) (defScope (top 31)) .none kVu17 dcu17 pmu17 anu17 cdu17 ctu17, fun s v => .of_eq rfl, fun base _ _ BM => ?_⟩
  have GG : ProgK l.prog w K mg base ⟨P.T, fun c => [C0].getD c 0, fun c => [e0, e1].getD c 0⟩ P := by
    refine ⟨rfl, fun x d hx => ?_, fun x i hx => ?_, fun x c hx => ?_, fun c hc => ?_, fun c f x hc hp hx => ?_, fun c m x hM hx => ?_, fun x c hx => ?_, fun x hx => ?_⟩
    · obtain ⟨p, hp, e1, e2⟩ := lookup_mem hx
      subst e1 e2
      simp only [P, T, List.mem_cons, List.not_mem_nil, or_false] at hp
      rcases hp with rfl | rfl | rfl | rfl | rfl
      · exact ⟨_, V.int 999, PySem.W.mg_of X G gc0, ⟨_, rfl⟩, fun _ _ => .int _⟩
      · exact ⟨_, V.str "abcdefghijklmnopqrstuvwxyz0123456789", PySem.W.mg_of X G gc1, ⟨_, rfl⟩, fun _ _ => .str _⟩
      · exact ⟨_, V.int 4, PySem.W.mg_of X G gc2, ⟨_, rfl⟩, fun _ _ => .int _⟩
      · exact ⟨_, V.int 5, PySem.W.mg_of X G gc3, ⟨_, rfl⟩, fun _ _ => .int _⟩
      · exact ⟨_, V.int 9, PySem.W.mg_of X G gc4, ⟨_, rfl⟩, fun _ _ => .int _⟩
    · have hx := ixOf_get hx
      show FnAtK K mg P x i
      match i, hx with
      | 0, hx => cases hx; exact fnAt_mk (g := (RF.fnOf (top 6)).getD ⟨[], [], (defScope (top 6)), []⟩) Fu0 rfl rfl (by decide +kernel) (PySem.W.mg_of X G au0) bu0
      | 1, hx => cases hx; exact fnAt_mk (g := (RF.fnOf (top 7)).getD ⟨[], [], (defScope (top 7)), []⟩) Fu1 rfl rfl (by decide +kernel) (PySem.W.mg_of X G au1) bu1
      | 2, hx => cases hx; exact fnAt_mk (g := (RF.fnOf (top 8)).getD ⟨[], [], (defScope (top 8)), []⟩) Fu2 rfl rfl (by decide +kernel) (PySem.W.mg_of X G au2) bu2
      | 3, hx => cases hx; exact fnAt_mk (g := (RF.fnOf (top 9)).getD ⟨[], [], (defScope (top 9)), []⟩) Fu3 rfl rfl (by decide +kernel) (PySem.W.mg_of X G au3) bu3
      | 4, hx => cases hx; exact fnAt_mk (g := (RF.fnOf (top 10)).getD ⟨[], [], (defScope (top 10)), []⟩) Fu4 rfl rfl (by decide +kernel) (PySem.W.mg_of X G au4) bu4
      | 5, hx => cases hx; exact fnAt_mk (g := (RF.fnOf (top 11)).getD ⟨[], [], (defScope (top 11)), []⟩) Fu5 rfl rfl (by decide +kernel) (PySem.W.mg_of X G au5) bu5
      | 6, hx => cases hx; exact fnAt_mk (g := (RF.fnOf (top 16)).getD ⟨[], [], (defScope (top 16)), []⟩) Fu6 rfl rfl (by decide +kernel) (PySem.W.mg_of X G au6) bu6
      | 7, hx => cases hx; exact fnAt_mk (g := (RF.fnOf (top 17)).getD ⟨[], [], (defScope (top 17)), []⟩) Fu7 rfl rfl (by decide +kernel) (PySem.W.mg_of X G au7) bu7
      | 8, hx => cases hx; exact fnAt_mk (g := (RF.fnOf (top 18)).getD ⟨[], [], (defScope (top 18)), []⟩) Fu8 rfl rfl (by decide +kernel) (PySem.W.mg_of X G au8) bu8
      | 9, hx => cases hx; exact fnAt_mk (g := (RF.fnOf (top 23)).getD ⟨[], [], (defScope (top 23)), []⟩) Fu9 rfl rfl (by decide +kernel) (PySem.W.mg_of X G au9) bu9
      | 10, hx => cases hx; exact fnAt_mk (g := (RF.fnOf (top 24)).getD ⟨[], [], (defScope (top 24)), []⟩) Fu10 rfl rfl (by decide +kernel) (PySem.W.mg_of X G au10) bu10
      | 11, hx => cases hx; exact fnAt_mk (g := (RF.fnOf (top 25)).getD ⟨[], [], (defScope (top 25)), []⟩) Fu11 rfl rfl (by decide +kernel) (PySem.W.mg_of X G au11) bu11
      | 12, hx => cases hx; exact fnAt_mk (g := (RF.fnOf (top 26)).getD ⟨[], [], (defScope (top 26)), []⟩) Fu12 rfl rfl (by decide +kernel) (PySem.W.mg_of X G au12) bu12
      | 13, hx => cases hx; exact fnAt_mk (g := (RF.fnOf (top 27)).getD ⟨[], [], (defScope (top 27)), []⟩) Fu13 rfl rfl (by decide +kernel) (PySem.W.mg_of X G au13) bu13
      | 14, hx => cases hx; exact fnAt_mk (g := (RF.fnOf (top 28)).getD ⟨[], [], (defScope (top 28)), []⟩) Fu14 rfl rfl (by decide +kernel) (PySem.W.mg_of X G au14) bu14
      | 15, hx => cases hx; exact fnAt_mk (g := (RF.fnOf (top 29)).getD ⟨[], [], (defScope (top 29)), []⟩) Fu15 rfl rfl (by decide +kernel) (PySem.W.mg_of X G au15) bu15
      | 16, hx => cases hx; exact fnAt_mk (g := (RF.fnOf (top 30)).getD ⟨[], [], (defScope (top 30)), []⟩) Fu16 rfl rfl (by decide +kernel) (PySem.W.mg_of X G au16) bu16
      | 17, hx => cases hx; exact fnAt_mk (g := (RF.fnOf (top 31)).getD ⟨[], [], (defScope (top 31)), []⟩) Fu17 rfl rfl (by decide +kernel) (PySem.W.mg_of X G au17) bl
      | i + 18, hx => exact absurd hx (by simp [P, T])
    · have hx := ixOf_get hx
      match c, hx with
      | 0, hx => cases hx; exact PySem.W.mg_of X G aC0
      | c + 1, hx => exact absurd hx (by simp [P, T])
    · match c, hc with
      | 0, _ => exact CL0
      | c + 1, hc => exact absurd hc (by simp [P, T])
    · match c, hc with
      | 0, _ =>
        match f, hx with
        | 0, hx => cases hp
        | 1, hx => cases hp
        | 2, hx => cases hp
        | 3, hx => cases hp
        | 4, hx => cases hx; exact n0_4
        | 5, hx => cases hx; exact n0_5
        | 6, hx => cases hp
        | 7, hx => cases hx; exact n0_7
        | 8, hx => cases hp
        | f + 9, hx => exact absurd hx (by simp [P, T])
      | c + 1, hc => exact absurd hc (by simp [P, T])
    · show MtAtK K _ P c m x
      match c, m, hM, hx with
      | 0, 0, _, hx => cases hx; exact mtAt_mk (g := (RF.fnOf (inCls (top 21) 0)).getD ⟨[], [], (defScope (inCls (top 21) 0)), []⟩) Fm0_0 rfl rfl (by decide +kernel) ⟨am0_0, im0_0, km0_0⟩ bm0_0 (fun _ => ⟨mk0, am0_0, im0_0, kc0⟩) CL0
      | 0, 6, _, hx => cases hx; exact mtAt_mk (g := (RF.fnOf (inCls (top 21) 1)).getD ⟨[], [], (defScope (inCls (top 21) 1)), []⟩) Fm0_1 rfl rfl (by decide +kernel) ⟨am0_1, im0_1, km0_1⟩ bm0_1 (fun z => absurd z (by decide +kernel)) CL0
      | 0, 3, _, hx => cases hx; exact mtAt_mk (g := (RF.fnOf (inCls (top 21) 2)).getD ⟨[], [], (defScope (inCls (top 21) 2)), []⟩) Fm0_2 rfl rfl (by decide +kernel) ⟨am0_2, im0_2, km0_2⟩ bm0_2 (fun z => absurd z (by decide +kernel)) CL0
      | 0, 2, _, hx => cases hx; exact mtAt_mk (g := (RF.fnOf (inCls (top 21) 3)).getD ⟨[], [], (defScope (inCls (top 21) 3)), []⟩) Fm0_3 rfl rfl (by decide +kernel) ⟨am0_3, im0_3, km0_3⟩ bm0_3 (fun z => absurd z (by decide +kernel)) CL0
      | 0, 8, _, hx => cases hx; exact mtAt_mk (g := (RF.fnOf (inCls (top 21) 4)).getD ⟨[], [], (defScope (inCls (top 21) 4)), []⟩) Fm0_4 rfl rfl (by decide +kernel) ⟨am0_4, im0_4, km0_4⟩ bm0_4 (fun z => absurd z (by decide +kernel)) CL0
      | 0, 1, _, hx => cases hx; exact mtAt_mk (g := (RF.fnOf (inCls (top 21) 5)).getD ⟨[], [], (defScope (inCls (top 21) 5)), []⟩) Fm0_5 rfl rfl (by decide +kernel) ⟨am0_5, im0_5, km0_5⟩ bm0_5 (fun z => absurd z (by decide +kernel)) CL0
      | 0, 4, hM, _ => cases hM
      | 0, 5, hM, _ => cases hM
      | 0, 7, hM, _ => cases hM
      | 0, m + 9, _, hx => exact absurd hx (by simp [P, T])
      | c + 1, m, hM, _ => exact absurd hM (by simp [P, T, RF.Tab.isM])
    · have hx := ixOf_get hx
      match c, hx with
      | 0, hx => cases hx; exact ⟨RC0, PySem.W.mg_of X G ea0⟩
      | 1, hx => cases hx; exact ⟨RC1, PySem.W.mg_of X G ea1⟩
      | c + 2, hx => exact absurd hx (by simp [P, T])
    · simp only [bNames, List.mem_cons, List.not_mem_nil, or_false] at hx
      rcases hx with rfl | rfl | rfl | rfl | rfl | rfl | rfl | rfl | rfl | rfl | rfl
      · exact PySem.W.mg_none_of X G zn0
      · exact PySem.W.mg_none_of X G zn1
      · exact PySem.W.mg_none_of X G zn2
      · exact PySem.W.mg_none_of X G zn3
      · exact PySem.W.mg_none_of X G zn4
      · exact PySem.W.mg_none_of X G zn5
      · exact PySem.W.mg_none_of X G zn6
      · exact PySem.W.mg_none_of X G zn7
      · exact PySem.W.mg_none_of X G zn8
      · exact PySem.W.mg_none_of X G zn9
      · exact PySem.W.mg_none_of X G zn10
  exact fn_law (g := (RF.fnOf (top 31)).getD ⟨[], [], (defScope (top 31)), []⟩) GG Fu17 rfl rfl (by decide +kernel) rfl
theorem nd : P.T.nams.Nodup := nodup_of (by decide +kernel)
theorem walk {l : PySem.W.OpenLaw} {q : Program} {loose : List Str} {XP : (Str → Option Value) → Heap → Prop} {YP : World → Heap → Prop} {d : DefRec} {K : Params → PySem.W.Frag} (hn : l.most = some 63) (hdf : d.params.defaults = [])
    (hY : ∀ (w : World) (h : Heap), YP w h → (K w.params).In h)
    (F : ∀ (w : World) (mg : Str → Option Value) (fa : Addr) (h : Heap), (K w.params).In h → h.Ns mainGlobals mg → mg d.name = some (.ref fa) →
      ∃ fd : FuncData, (∀ (s : Shared) (u : Value), BindsTo s fd ⟨[u], []⟩ [("_law_script", u)]) ∧ ∀ base : Heap, (K w.params).In base → base.Ns mainGlobals mg → BmAt mg base → FnOk l.prog w (K w.params) mg base (CXF l.prog w) (2 * 12 + 2) fa fd ["_law_script"] (spLaw (K w.params) P.T ((RF.calls P (12 + 1)).f 17))) :
    PySem.W.WalkO q loose XP YP l.row.toRowW d [] (fun f vs => PySem.call f vs) :=
  L2.walk_ofR (n := 63) (k := 2 * 12 + 2) (x := "_law_script") (CX := fun w => CXF l.prog w) (sp := fun w => spLaw (K w.params) P.T ((RF.calls P (12 + 1)).f 17)) [] hn (by decide) hdf ⟨rfl, by decide, by decide⟩ hY
    (fun w h Y X P hP => by cases hP) (fun w P hP => by cases hP) F
    (fun _ _ a ns hl hP hS => ⟨rfl, fun W hW => by
      obtain ⟨S', e⟩ := law_true ns hl
      exact law_sp (by rw [hW]; exact nd) e hS⟩) fun _ _ _ _ _ ⟨_, _, _, _, _, _, _, _, _, _, _, _, _, _, _, _, _, _, _, h⟩ => h
end Q30
open PySem PySem.W PyProof.Rows
set_option maxRecDepth 100000 in
set_option maxHeartbeats 0 in
theorem PySem.Challenge.cw_namewants_k30_whole_keeps_holds : PySem.Challenge.rw_namewants_k30_whole_keeps.Holds := by
  w_on; o_law; k_head; (case hw => w_witness2)
  k_fill
  refine Q30.walk (l := PySem.Challenge.rw_namewants_k30_whole_keeps) rfl rfl (fun w h Y => PySem.W.kIn_of Y) ?F
  case F =>
    intro w mg fa h KX G hmg
    refine' Q30.all_mk KX G hmg ?aC0 ?au0 ?lu0 ?cu0d ?ku0 ?au1 ?lu1 ?cu1d ?ku1 ?au2 ?lu2 ?cu2d ?ku2 ?au3 ?lu3 ?cu3d ?ku3 ?au4 ?lu4 ?cu4d ?ku4 ?au5 ?lu5 ?cu5d ?ku5 ?au6 ?lu6 ?cu6d ?ku6 ?au7 ?lu7 ?cu7d ?ku7 ?au8 ?lu8 ?cu8d ?ku8 ?au9 ?lu9 ?cu9d ?ku9 ?au10 ?lu10 ?cu10d ?ku10 ?au11 ?lu11 ?cu11d ?ku11 ?au12 ?lu12 ?cu12d ?ku12 ?au13 ?lu13 ?cu13d ?ku13 ?au14 ?lu14 ?cu14d ?ku14 ?au15 ?lu15 ?cu15d ?ku15 ?au16 ?lu16 ?cu16d ?ku16 ?au17 ?lu17 ?cu17d ?ku17 ?am0_0 ?im0_0 ?lm0_0 ?cm0_0d ?km0_0 ?am0_1 ?im0_1 ?lm0_1 ?cm0_1d ?km0_1 ?am0_2 ?im0_2 ?lm0_2 ?cm0_2d ?km0_2 ?am0_3 ?im0_3 ?lm0_3 ?cm0_3d ?km0_3 ?am0_4 ?im0_4 ?lm0_4 ?cm0_4d ?km0_4 ?am0_5 ?im0_5 ?lm0_5 ?cm0_5d ?km0_5 ?pg0 ?hd0 ?po0 ?sa0 ?mk0 ?kc0 ?n0_4 ?n0_5 ?n0_7 ?gc0 ?gc1 ?gc2 ?gc3 ?gc4 ?zn0 ?zn1 ?zn2 ?zn3 ?zn4 ?zn5 ?zn6 ?zn7 ?zn8 ?zn9 ?zn10 ?eaW ?elW ?eNW ?eKW ?ea0 ?el0 ?eN0 ?eK0 ?ea1 ?el1 ?eN1 ?eK1
    (case aC0 => k_is)
    (case au0 => k_is)
    (case lu0 => k_is)
    (case cu0d => k_is)
    (case ku0 => k_is)
    (case au1 => k_is)
    (case lu1 => k_is)
    (case cu1d => k_is)
    (case ku1 => k_is)
    (case au2 => k_is)
    (case lu2 => k_is)
    (case cu2d => k_is)
    (case ku2 => k_is)
    (case au3 => k_is)
    (case lu3 => k_is)
    (case cu3d => k_is)
    (case ku3 => k_is)
    (case au4 => k_is)
    (case lu4 => k_is)
    (case cu4d => k_is)
    (case ku4 => k_is)
    (case au5 => k_is)
    (case lu5 => k_is)
    (case cu5d => k_is)
    (case ku5 => k_is)
    (case au6 => k_is)
    (case lu6 => k_is)
    (case cu6d => k_is)
    (case ku6 => k_is)
    (case au7 => k_is)
    (case lu7 => k_is)
    (case cu7d => k_is)
    (case ku7 => k_is)
    (case au8 => k_is)
    (case lu8 => k_is)
    (case cu8d => k_is)
    (case ku8 => k_is)
    (case au9 => k_is)
    (case lu9 => k_is)
    (case cu9d => k_is)
    (case ku9 => k_is)
    (case au10 => k_is)
    (case lu10 => k_is)
    (case cu10d => k_is)
    (case ku10 => k_is)
    (case au11 => k_is)
    (case lu11 => k_is)
    (case cu11d => k_is)
    (case ku11 => k_is)
    (case au12 => k_is)
    (case lu12 => k_is)
    (case cu12d => k_is)
    (case ku12 => k_is)
    (case au13 => k_is)
    (case lu13 => k_is)
    (case cu13d => k_is)
    (case ku13 => k_is)
    (case au14 => k_is)
    (case lu14 => k_is)
    (case cu14d => k_is)
    (case ku14 => k_is)
    (case au15 => k_is)
    (case lu15 => k_is)
    (case cu15d => k_is)
    (case ku15 => k_is)
    (case au16 => k_is)
    (case lu16 => k_is)
    (case cu16d => k_is)
    (case ku16 => k_is)
    (case au17 => k_is)
    (case lu17 => k_is)
    (case cu17d => k_is)
    (case ku17 => k_is)
    (case am0_0 => k_is)
    (case im0_0 => k_is)
    (case lm0_0 => k_is)
    (case cm0_0d => k_is)
    (case km0_0 => k_is)
    (case am0_1 => k_is)
    (case im0_1 => k_is)
    (case lm0_1 => k_is)
    (case cm0_1d => k_is)
    (case km0_1 => k_is)
    (case am0_2 => k_is)
    (case im0_2 => k_is)
    (case lm0_2 => k_is)
    (case cm0_2d => k_is)
    (case km0_2 => k_is)
    (case am0_3 => k_is)
    (case im0_3 => k_is)
    (case lm0_3 => k_is)
    (case cm0_3d => k_is)
    (case km0_3 => k_is)
    (case am0_4 => k_is)
    (case im0_4 => k_is)
    (case lm0_4 => k_is)
    (case cm0_4d => k_is)
    (case km0_4 => k_is)
    (case am0_5 => k_is)
    (case im0_5 => k_is)
    (case lm0_5 => k_is)
    (case cm0_5d => k_is)
    (case km0_5 => k_is)
    (case pg0 => k_is)
    (case hd0 => k_is)
    (case po0 => k_is)
    (case sa0 => k_is)
    (case mk0 => k_is)
    (case kc0 => k_is)
    (case n0_4 => k_is)
    (case n0_5 => k_is)
    (case n0_7 => k_is)
    (case gc0 => k_is)
    (case gc1 => k_is)
    (case gc2 => k_is)
    (case gc3 => k_is)
    (case gc4 => k_is)
    (case zn0 => k_is)
    (case zn1 => k_is)
    (case zn2 => k_is)
    (case zn3 => k_is)
    (case zn4 => k_is)
    (case zn5 => k_is)
    (case zn6 => k_is)
    (case zn7 => k_is)
    (case zn8 => k_is)
    (case zn9 => k_is)
    (case zn10 => k_is)
    (case eaW => k_is)
    (case elW => k_is)
    (case eNW => k_is)
    (case eKW => rfl)
    (case ea0 => k_is)
    (case el0 => k_is)
    (case eN0 => k_is)
    (case eK0 => rfl)
    (case ea1 => k_is)
    (case el1 => k_is)
    (case eN1 => k_is)
    (case eK1 => rfl)
#print axioms PySem.Challenge.cw_namewants_k30_whole_keeps_holds
end
