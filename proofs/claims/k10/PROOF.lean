import PyProof.Rows.All
import Wide.All
import OpenK.AllK
import Wide.FinOn
import Lean
import PyProof.EqAt
import PyProof.EqKinds
import PyProof.TupleCall
import PyProof.NeKinds
import PyProof.ConsumeWalk
import KE.IntBitsLaws
import PyProof.DictWalks
import PyProof.DictRoadsH
import KE.KDictList
import PyProof.RaisesMany
import PyProof.StationsW
import PyProof.ExcClass2
import PyProof.RulesTry
import PyProof.ExcBaseAll.ValueError
import PyProof.Rows.FStr
import KE.KLam
import KE.KNestM
import PyProof.Seq
import PyProof.Walks
import PyProof.SumWalkG
import PyProof.FactsTree
import PyProof.CodeObj
import PyProof.WalkInts
import KE.KIsNot
import OpenK.KDescr
import OpenK.KCls
import PyProof.ExcAttrAll.ValueError
import KE.KIsAll
import PyProof.RulesAs
import PyProof.Rows.SumGenD
import KE.KNest
import PyProof.Rows.SetFrom
import PyProof.SetRoads
import PyProof.Rows.SortShell
import KE.KDictSum
import PyProof.ListMulRoad
import PySem.Challenge.RW_namewants_k10_whole_names
section
set_option Elab.async false
set_option linter.all false
set_option maxRecDepth 100000
namespace L2
open PySem PySem.Spec PyProof.Rows
noncomputable abbrev Key := Sum Int Str
noncomputable def keyIs : Key → Value → Bool
  | .inl k, v => Value.isInt k v
  | .inr x, v => Value.isStrOf x v
noncomputable def keyH (w : World) : Key → Int
  | .inl k => hashInt k
  | .inr x => hashStr w x
theorem keyIs_shape : ∀ {k : Key} {v : Value}, keyIs k v = true → (∃ i t, k = Sum.inl i ∧ v = Value.int i t) ∨ (∃ x t, k = Sum.inr x ∧ v = Value.str x t)
  | .inl i, v, h => by
    obtain ⟨t, e⟩ := Value.isInt_shape (k := i) (v := v) h
    exact .inl ⟨i, t, rfl, e⟩
  | .inr x, v, h => by
    obtain ⟨t, e⟩ := Value.isStrOf_shape (x := x) (v := v) h
    exact .inr ⟨x, t, rfl, e⟩
theorem key_ll (a b : Int) : decide ((Sum.inl a : Key) = Sum.inl b) = (a == b) := by
  by_cases e : a = b
  · subst e; simp
  · have h : ¬ (Sum.inl a : Key) = Sum.inl b := fun q => e (Sum.inl.inj q)
    rw [decide_eq_false h]
    exact (beq_eq_false_iff_ne.mpr e).symm
theorem key_rr (a b : Str) : decide ((Sum.inr a : Key) = Sum.inr b) = decide (a = b) := by
  by_cases e : a = b
  · subst e; simp
  · have h : ¬ (Sum.inr a : Key) = Sum.inr b := fun q => e (Sum.inr.inj q)
    rw [decide_eq_false h, decide_eq_false e]
theorem key_lr (a : Int) (b : Str) : decide ((Sum.inl a : Key) = Sum.inr b) = false := decide_eq_false (fun q => nomatch q)
theorem key_rl (a : Str) (b : Int) : decide ((Sum.inr a : Key) = Sum.inl b) = false := decide_eq_false (fun q => nomatch q)
noncomputable def mixKind (prog : Program) (w : World) : PySem.KeyKind prog w Key where
  is := keyIs
  hash := keyH w
  inj := fun v a b ha hb => by
    rcases keyIs_shape ha with ⟨i, t, rfl, rfl⟩ | ⟨x, t, rfl, rfl⟩
    · rcases keyIs_shape hb with ⟨j, u, rfl, e⟩ | ⟨y, u, rfl, e⟩
      · injection e with e1 _; rw [e1]
      · exact nomatch e
    · rcases keyIs_shape hb with ⟨j, u, rfl, e⟩ | ⟨y, u, rfl, e⟩
      · exact nomatch e
      · injection e with e1 _; rw [e1]
  byValue := fun k v h => by
    rcases keyIs_shape h with ⟨i, t, rfl, rfl⟩ | ⟨x, t, rfl, rfl⟩ <;> rfl
  pyHash := fun hv h => by
    rcases keyIs_shape hv with ⟨i, t, rfl, rfl⟩ | ⟨x, t, rfl, rfl⟩
    · exact wpAny_pyHash_int h
    · exact wpAny_pyHash_str h
  eqBool := fun hu hv h => by
    rcases keyIs_shape hu with ⟨i, t, rfl, rfl⟩ | ⟨x, t, rfl, rfl⟩
    · rcases keyIs_shape hv with ⟨j, u, rfl, rfl⟩ | ⟨y, u, rfl, rfl⟩
      · rw [key_ll] at h; exact wpAny_eqBool_int h
      · rw [key_lr] at h; exact SeqAt.EqAt.int_str i t y u _ _ _ _ h
    · rcases keyIs_shape hv with ⟨j, u, rfl, rfl⟩ | ⟨y, u, rfl, rfl⟩
      · rw [key_rl] at h; exact SeqAt.EqAt.str_int x t j u _ _ _ _ h
      · rw [key_rr] at h; exact wpAny_eqBool_str h
  «strs» := fun k x t v h => by
    rcases keyIs_shape h with ⟨i, u, rfl, e⟩ | ⟨y, u, rfl, e⟩
    · exact nomatch e
    · injection e with e1 _
      subst e1
      cases v <;> rfl
end L2
namespace L2
open PySem PySem.Spec PyProof.Rows
inductive V where
  | non | bl (b : Bool) | int (i : Int) | str (x : Str) | byt (b : Array UInt8) | flt (b : UInt64) | ref (a : Addr) | ty (n : String)
  deriving DecidableEq
noncomputable def RelV : V → Value → Prop
  | .non, u => u = Value.none
  | .bl b, u => u = Value.bool b
  | .int i, u => ∃ t, u = Value.int i t
  | .str x, u => ∃ t, u = Value.str x t
  | .byt b, u => ∃ t, u = Value.bytes b t
  | .flt b, u => ∃ t, u = Value.float b t
  | .ref a, u => u = Value.ref a
  | .ty n, u => u = Value.type n
noncomputable abbrev Vals : List V → List Value → Prop := Paired RelV
theorem Vals.length {xs : List V} {us : List Value} (r : Vals xs us) : xs.length = us.length := Paired.length r
theorem Vals.get : ∀ {xs : List V} {us : List Value} {i : Nat} {x : V}, Vals xs us → xs[i]? = some x → ∃ u, us[i]? = some u ∧ RelV x u
  | _, _, _, _, .nil, e => by simp at e
  | _, _, 0, _, .cons r _, e => by simp at e; subst e; exact ⟨_, rfl, r⟩
  | _, _, i + 1, x, .cons _ t, e => by
    obtain ⟨u, h1, h2⟩ := Vals.get (i := i) (x := x) t (by simpa using e)
    exact ⟨u, by simpa using h1, h2⟩
theorem Vals.set {x : V} {u : Value} (r : RelV x u) : ∀ {xs : List V} {us : List Value} (i : Nat), Vals xs us → Vals (xs.set i x) (us.set i u)
  | _, _, _, .nil => .nil
  | _, _, 0, .cons _ t => .cons r t
  | _, _, i + 1, .cons q t => .cons q (Vals.set r i t)
theorem Vals.append : ∀ {xs ys : List V} {us ws : List Value}, Vals xs us → Vals ys ws → Vals (xs ++ ys) (us ++ ws)
  | _, _, _, _, .nil, s => s
  | _, _, _, _, .cons r t, s => .cons r (Vals.append t s)
theorem Vals.take : ∀ {xs : List V} {us : List Value} (n : Nat), Vals xs us → Vals (xs.take n) (us.take n)
  | _, _, 0, _ => .nil
  | _, _, _ + 1, .nil => .nil
  | _, _, n + 1, .cons r t => .cons r (Vals.take n t)
theorem Vals.drop : ∀ {xs : List V} {us : List Value} (n : Nat), Vals xs us → Vals (xs.drop n) (us.drop n)
  | _, _, 0, r => r
  | _, _, _ + 1, .nil => .nil
  | _, _, n + 1, .cons _ t => Vals.drop n t
noncomputable def RelO : Option V → Option Value → Prop
  | some v, some u => RelV v u
  | none, none => True
  | _, _ => False
noncomputable def KV {κ : Type} : List (κ × V) → List (κ × Value) → Prop := Paired fun (p : κ × V) (q : κ × Value) => p.1 = q.1 ∧ RelV p.2 q.2
noncomputable def kV : Key → V
  | .inl i => .int i
  | .inr x => .str x
inductive HO where
  | lst (xs : List V)
  | tup (xs : List V)
  | dK (kvs : List (Key × V)) | dT (kvs : List (List Key × V))
  | set (S : Int → Bool) (n : Nat)
  | ins (C dx : Addr) (fs : List (Str × V))
  | own (x : Addr)
  | xd (fs : List (Str × V))
  | met (f x : Addr)
  | rng (lo hi : Int)
  | frz (o : Obj) (u : HO)
  | tbl (ps : Array Value)
  | ext (φ : Heap → Prop)
noncomputable abbrev Hp := Addr → Option HO
noncomputable def upd (H : Hp) (a : Addr) (o : HO) : Hp := fun b => if b = a then some o else H b
theorem upd_same {H : Hp} {a : Addr} {o : HO} : upd H a o a = some o := by unfold upd; rw [if_pos rfl]
theorem upd_ne {H : Hp} {a b : Addr} {o : HO} (h : b ≠ a) : upd H a o b = H b := by unfold upd; rw [if_neg h]
theorem upd_upd {H : Hp} {a : Addr} {o u : HO} : upd (upd H a o) a u = upd H a u := by
  funext b; unfold upd; split <;> rfl
theorem ne_of {H : Hp} {a b : Addr} {o u : HO} (h : H a = some o) (h' : H b = some u) (d : o ≠ u) : a ≠ b := by
  intro e; subst e; rw [h] at h'; exact d (Option.some.inj h')
theorem ne_of_none {H : Hp} {a b : Addr} {o : HO} (h : H a = some o) (h' : H b = none) : a ≠ b := by
  intro e; subst e; rw [h] at h'; cases h'
section
variable (P : Program) (w : World)
noncomputable def ObjOk (H : Hp) (h : Heap) (a : Addr) : HO → Prop
  | .lst xs => xs.length ≤ sizeLine ∧ ∃ (its : List Value) (n : Nat), Vals xs its ∧ h.get? a = some { cls := .type "list", data := .seq its.toArray n }
  | .tup xs => xs.length ≤ sizeLine ∧ ∃ its : List Value, Vals xs its ∧ IsTup h a its.toArray
  | .dK kvs => kvs.length ≤ sizeLine ∧ (a == sysModules) = false ∧ ∃ vs, KV kvs vs ∧ h.DictOf (mixKind P w) a vs
  | .dT kvs => kvs.length ≤ sizeLine ∧ (a == sysModules) = false ∧ ∃ xs : List (List Key × Addr × Value),
      Paired (fun (p : List Key × V) (q : List Key × Addr × Value) => p.1 = q.1 ∧ H q.2.1 = some (.tup (p.1.map kV)) ∧ RelV p.2 q.2.2) kvs xs ∧
      ∃ o es ep, h.get? a = some o ∧ o.ExactDict ∧ o.data = .dict es ep ∧ es.toList = xs.map (entryOfKey (tupleKind (mixKind P w))) ∧ (xs.map (·.1)).Nodup
  | .set S n => h.SetOf (intKind P w) a S n
  | .ins C dx fs => H dx = some (.own a) ∧ fs.length ≤ 1000 ∧ dx ≠ a ∧ h.get? a = some (PySem.W.instObj C dx) ∧
      ∃ mA, h.Ns1 dx mA ∧ (∀ f, RelO (fs.lookup f) (mA f)) ∧ PySem.Within mA (fs.map (·.1))
  | .own _ => ∃ o, h.get? a = some o
  | .xd fs => ∃ mA, h.Ns1 a mA ∧ ∀ f, RelO (fs.lookup f) (mA f)
  | .rng lo hi => ∃ t u v, h.get? a = some { cls := .type "range", data := .fields #[.int lo t, .int hi u, .int 1 v] }
  | .frz o u => h.get? a = some o ∧ ObjOk H h a u
  | .tbl ps => h.get? a = some { cls := .none, data := .fields ps }
  | .met f x => h.get? a = some (PySem.W.methodObj (.ref f) (.ref x))
  | .ext φ => φ h ∧ (∃ o, h.get? a = some o) ∧ ∀ h1 h2 : Heap, φ h1 → (∀ o, h1.get? a = some o → h2.get? a = some o) → φ h2
noncomputable def HOk (H : Hp) (h : Heap) : Prop := ∀ a o, H a = some o → ObjOk P w H h a o
end
section
variable {P : Program} {w : World} {H H' : Hp} {h h' : Heap} {a : Addr} {o : HO}
theorem ObjOk.lt (x : ObjOk P w H h a o) : a < h.objs.size := by
  cases o with
  | lst xs => obtain ⟨_, _, _, _, e⟩ := x; exact Heap.lt_size e
  | tup xs => obtain ⟨_, _, _, p⟩ := x; exact p.lt
  | dK kvs => obtain ⟨_, _, _, _, o, _, _, e, _⟩ := x; exact Heap.lt_size e
  | dT kvs => obtain ⟨_, _, _, _, o, _, _, e, _⟩ := x; exact Heap.lt_size e
  | set S n => obtain ⟨o, _, _, _, e, _⟩ := x; exact Heap.lt_size e
  | ins C dx fs => obtain ⟨_, _, _, e, _⟩ := x; exact Heap.lt_size e
  | own y => obtain ⟨_, e⟩ := x; exact Heap.lt_size e
  | xd fs => obtain ⟨_, ⟨_, _, _, e, _⟩, _⟩ := x; exact Heap.lt_size e
  | rng lo hi => obtain ⟨_, _, _, e⟩ := x; exact Heap.lt_size e
  | frz ob u => obtain ⟨e, _⟩ := x; exact Heap.lt_size e
  | tbl ps => exact Heap.lt_size (show h.get? a = some _ from x)
  | met f y => exact Heap.lt_size (show h.get? a = some _ from x)
  | ext φ => obtain ⟨_, ⟨_, e⟩, _⟩ := x; exact Heap.lt_size e
theorem Paired.mapP {α β : Type} {F G : α → β → Prop} : ∀ {l₁ : List α} {l₂ : List β}, Paired F l₁ l₂ → (∀ a b, F a b → G a b) → Paired G l₁ l₂
  | _, _, .nil, _ => .nil
  | _, _, .cons r t, f => .cons (f _ _ r) (Paired.mapP t f)
theorem ObjOk.stay (x : ObjOk P w H h a o) (k : ∀ b u, (b = a ∨ H b = some (.own a)) → h.get? b = some u → h'.get? b = some u)
    (ho : ∀ b, H b = some (.own a) → H' b = some (.own a)) (ht : ∀ b xs, H b = some (.tup xs) → H' b = some (.tup xs)) : ObjOk P w H' h' a o := by
  induction o with
  | lst xs => obtain ⟨z, its, n, r, e⟩ := x; exact ⟨z, its, n, r, k _ _ (.inl rfl) e⟩
  | tup xs => obtain ⟨z, its, r, ob, e, c⟩ := x; exact ⟨z, its, r, ob, k _ _ (.inl rfl) e, c⟩
  | dK kvs => obtain ⟨z, y, vs, r, ob, es, ep, e, c⟩ := x; exact ⟨z, y, vs, r, ob, es, ep, k _ _ (.inl rfl) e, c⟩
  | dT kvs =>
    obtain ⟨z, y, xs, r, ob, es, ep, e, c⟩ := x
    exact ⟨z, y, xs, Paired.mapP r fun p q z => ⟨z.1, ht _ _ z.2.1, z.2.2⟩, ob, es, ep, k _ _ (.inl rfl) e, c⟩
  | set S n => obtain ⟨ob, es, ep, t, e, c⟩ := x; exact ⟨ob, es, ep, t, k _ _ (.inl rfl) e, c⟩
  | ins C dx fs =>
    obtain ⟨d, z, ne, e, mA, ⟨od, es, ep, e2, c⟩, r⟩ := x
    exact ⟨ho _ d, z, ne, k _ _ (.inl rfl) e, mA, ⟨od, es, ep, k _ _ (.inr d) e2, c⟩, r⟩
  | own y => obtain ⟨ob, e⟩ := x; exact ⟨ob, k _ _ (.inl rfl) e⟩
  | xd fs => obtain ⟨mA, ⟨od, es, ep, e, c⟩, r⟩ := x; exact ⟨mA, ⟨od, es, ep, k _ _ (.inl rfl) e, c⟩, r⟩
  | rng lo hi => obtain ⟨t, u, v, e⟩ := x; exact ⟨t, u, v, k _ _ (.inl rfl) e⟩
  | frz ob u ih => obtain ⟨e, q⟩ := x; exact ⟨k _ _ (.inl rfl) e, ih q⟩
  | tbl ps =>
    have e : h.get? a = some { cls := .none, data := .fields ps } := x
    show h'.get? a = some { cls := .none, data := .fields ps }
    exact k a _ (.inl rfl) e
  | met f y =>
    have e : h.get? a = some (PySem.W.methodObj (.ref f) (.ref y)) := x
    show h'.get? a = some (PySem.W.methodObj (.ref f) (.ref y))
    exact k a _ (.inl rfl) e
  | ext φ => obtain ⟨p, ⟨o, e⟩, st⟩ := x; exact ⟨st _ _ p fun o q => k _ _ (.inl rfl) q, ⟨o, k _ _ (.inl rfl) e⟩, st⟩
theorem HOk.lt (x : HOk P w H h) (e : H a = some o) : a < h.objs.size := (x a o e).lt
theorem HOk.fresh (x : HOk P w H h) (e : h.objs.size ≤ a) : H a = none := by
  cases q : H a with
  | none => rfl
  | some u => exact absurd (Nat.lt_of_lt_of_le (x.lt q) e) (Nat.lt_irrefl _)
theorem HOk.kept (x : HOk P w H h) (k : ∀ b u, h.get? b = some u → h'.get? b = some u) : HOk P w H h' := fun a o e =>
  (x a o e).stay (fun b u _ q => k b u q) (fun _ q => q) fun _ _ q => q
theorem HOk.laid (x : HOk P w H h) (k : ∀ b u, h.get? b = some u → h'.get? b = some u) (hp : h.objs.size ≤ a) (new : ObjOk P w (upd H a o) h' a o) : HOk P w (upd H a o) h' := fun b u e => by
  have hn := x.fresh hp
  by_cases hb : b = a
  · subst hb; rw [upd_same] at e; cases e; exact new
  · rw [upd_ne hb] at e
    exact (x b u e).stay (fun c v _ q => k c v q) (fun c q => by rw [upd_ne (ne_of_none q hn)]; exact q) fun c xs q => by rw [upd_ne (ne_of_none q hn)]; exact q
end
noncomputable def Rd (H : Hp) (a : Addr) (u : HO) : Prop := H a = some u ∨ ∃ o, H a = some (.frz o u)
theorem Rd.ok {P : Program} {w : World} {H : Hp} {h : Heap} {a : Addr} {u : HO} (r : Rd H a u) (x : HOk P w H h) : ObjOk P w H h a u := by
  rcases r with r | ⟨o, r⟩
  · exact x a u r
  · obtain ⟨_, q⟩ := x a _ r
    exact q
noncomputable def Mut : Option HO → Prop
  | some (.lst _) => True
  | some (.dK _) => True
  | some (.dT _) => True
  | some (.set _ _) => True
  | some (.ins _ _ _) => True
  | some (.ext _) => True
  | _ => False
section
variable {P : Program} {w : World} {H : Hp} {h h' : Heap} {x e : Addr} {o' : HO}
theorem HOk.write (ok : HOk P w H h) (mu : Mut (H x)) (he : e = x ∨ H e = some (.own x)) (k : ∀ b u, b ≠ e → h.get? b = some u → h'.get? b = some u) (heo : ∃ u, h'.get? e = some u)
    (new : ObjOk P w (upd H x o') h' x o') : HOk P w (upd H x o') h' := fun b u q => by
  have nown : ∀ c y, H c = some (.own y) → c ≠ x := fun c y r z => by subst z; rw [r] at mu; exact mu
  have ntup : ∀ c xs, H c = some (.tup xs) → c ≠ x := fun c xs r z => by subst z; rw [r] at mu; exact mu
  by_cases hb : b = x
  · subst hb; rw [upd_same] at q; cases q; exact new
  · rw [upd_ne hb] at q
    by_cases hbe : b = e
    · have q' : H b = some (.own x) := by
        rcases he with z | z
        · exact absurd (hbe.trans z) hb
        · rw [hbe]; exact z
      rw [q] at q'; cases q'
      obtain ⟨v, hv⟩ := heo
      exact ⟨v, by rw [hbe]; exact hv⟩
    · refine (ok b u q).stay (fun c v hc r => k c v ?_ r) (fun c r => by rw [upd_ne (nown c b r)]; exact r) fun c xs r => by rw [upd_ne (ntup c xs r)]; exact r
      rcases hc with rfl | hc
      · exact hbe
      · rintro rfl
        rcases he with z | z
        · exact nown c b hc z
        · rw [hc] at z; cases z; exact hb rfl
end
structure Un (fs ex : List Addr) (H H' : Hp) (h h' : Heap) : Prop where
  keep : ∀ b o, h.get? b = some o → H b = none → b ∉ fs → b ∉ ex → h'.get? b = some o
  slot : ∀ b o, h.get? b = some o → H b = none → b ∈ fs → b ∉ ex → ∃ sl, h'.get? b = some { o with slots := sl }
  free : ∀ b o, h.get? b = some o → H b = none → b ∉ ex → H' b = none
  there : ∀ b o, h.get? b = some o → b ∉ ex → ∃ o', h'.get? b = some o'
  tups : ∀ b xs, H b = some (.tup xs) → H' b = some (.tup xs)
  frzs : ∀ b o u, H b = some (.frz o u) → H' b = some (.frz o u)
  tbls : ∀ b ps, H b = some (.tbl ps) → ∃ more, H' b = some (.tbl (ps ++ more))
section
variable {fs fs' ex ex' : List Addr} {H H1 H2 : Hp} {h h1 h2 h' : Heap} {a x e : Addr} {o : HO}
theorem Un.any (u : Un fs ex H H1 h h1) {b : Addr} {ob : Obj} (q : h.get? b = some ob) (n : H b = none) (hx : b ∉ ex) : ∃ sl, h1.get? b = some { ob with slots := sl } := by
  by_cases hb : b ∈ fs
  · exact u.slot b ob q n hb hx
  · exact ⟨ob.slots, u.keep b ob q n hb hx⟩
theorem Un.kept (k : ∀ b u, h.get? b = some u → h'.get? b = some u) : Un fs ex H H h h' :=
  ⟨fun b ob q _ _ _ => k b ob q, fun b ob q _ _ _ => ⟨ob.slots, k b ob q⟩, fun _ _ _ n _ => n, fun b ob q _ => ⟨ob, k b ob q⟩, fun _ _ q => q, fun _ _ _ q => q, fun _ ps q => ⟨#[], by rw [q]; simp⟩⟩
theorem Un.refl : Un fs ex H H h h := Un.kept fun _ _ q => q
theorem Un.laid (k : ∀ b u, h.get? b = some u → h'.get? b = some u) (hp : h.objs.size ≤ a) (hn : H a = none) : Un fs ex H (upd H a o) h h' where
  keep := fun b u q _ _ _ => k b u q
  slot := fun b u q _ _ _ => ⟨u.slots, k b u q⟩
  free := fun b u q n _ => by rw [upd_ne (Nat.ne_of_lt (Nat.lt_of_lt_of_le (Heap.lt_size q) hp))]; exact n
  there := fun b u q _ => ⟨u, k b u q⟩
  tups := fun b xs q => by rw [upd_ne (ne_of_none q hn)]; exact q
  frzs := fun b u xs q => by rw [upd_ne (ne_of_none q hn)]; exact q
  tbls := fun b ps q => ⟨#[], by rw [upd_ne (ne_of_none q hn), q]; simp⟩
theorem Un.write (mu : Mut (H x)) (he : e = x ∨ H e = some (.own x)) (k : ∀ b u, b ≠ e → h.get? b = some u → h'.get? b = some u) (heo : ∃ u, h'.get? e = some u) : Un fs ex H (upd H x o) h h' := by
  have hx : ∀ b, H b = none → b ≠ x := fun b n z => by subst z; rw [n] at mu; exact mu
  have hb : ∀ b, H b = none → b ≠ e := fun b n z => by
    subst z
    rcases he with r | r
    · exact hx b n r
    · rw [n] at r; cases r
  have hm : ∀ b u, H b = some u → ¬ Mut (some u) → b ≠ x := fun b u q nm z => by subst z; rw [q] at mu; exact nm mu
  refine ⟨fun b u q n _ _ => k b u (hb b n) q, fun b u q n _ _ => ⟨u.slots, k b u (hb b n) q⟩, fun b u q n _ => by rw [upd_ne (hx b n)]; exact n, fun b u q _ => ?_,
    fun b xs q => by rw [upd_ne (hm b _ q fun z => z)]; exact q, fun b u xs q => by rw [upd_ne (hm b _ q fun z => z)]; exact q, fun b ps q => ⟨#[], by rw [upd_ne (hm b _ q fun z => z), q]; simp⟩⟩
  by_cases hbe : b = e
  · subst hbe; exact heo
  · exact ⟨u, k b u hbe q⟩
end
noncomputable def trk (h : Heap) (H : Hp) : List Addr := (List.range h.objs.size).filter fun a => (H a).isSome
noncomputable def hidT (h : Heap) (H : Hp) : Heap := PySem.W.hideAll h (trk h H)
theorem hidT_size (h : Heap) (H : Hp) : (hidT h H).objs.size = h.objs.size := PySem.W.hideAll_size _ _
theorem hidT_get {h : Heap} {H : Hp} {b : Addr} {o : Obj} (e : h.get? b = some o) (n : H b = none) : (hidT h H).get? b = some o :=
  PySem.W.hideAll_get _ e fun hm => by
    have q : (H b).isSome = true := (List.mem_filter.mp hm).2
    rw [n] at q; simp at q
theorem of_hidT {h : Heap} {H : Hp} {b : Addr} {o : Obj} (e : (hidT h H).get? b = some o) : h.get? b = some o ∧ H b = none := by
  have e' : h.get? b = some o := PySem.W.of_hideAll (trk h H) e
  refine ⟨e', ?_⟩
  cases q : H b with
  | none => rfl
  | some x =>
    have hm : b ∈ trk h H := List.mem_filter.mpr ⟨List.mem_range.mpr (Heap.lt_size e'), by simp [q]⟩
    have z : (hidT h H).get? b = none := PySem.W.hideAll_none (trk h H) hm
    rw [z] at e; cases e
noncomputable def allNews (g h : Heap) (L : Addr) : List (Addr × Obj) := (List.range h.objs.size).filterMap fun a => if a = L ∨ (g.get? a).isSome = true then none else (h.get? a).map fun o => (a, o)
noncomputable def rest (g h : Heap) (L d : Addr) : List (Addr × Obj) := (allNews g h L).filter fun p => decide (p.1 ≠ d)
end L2
namespace L2
open PySem PySem.Spec PyProof.Rows
structure Mod (K : PySem.W.Frag) (mg : Str → Option Value) (base : Heap) : Prop where
  kin : K.In base
  glob : base.Ns mainGlobals mg
  blt : ∃ mb, base.Ns builtinsNs mb ∧ ∀ x : Str, x ≠ "__name__" → mb x = bootBuiltins x
  nolimit : base.NoLimit
structure Cx where
  prog : Program
  w : World
  K : PySem.W.Frag
  mg : Str → Option Value
  base : Heap
  A : Around
  N : List Str
  s₀ : Shared
  H₀ : Hp
  env : Env
  outer : List Env
  stack : List Env
  ex : List Addr
  fn : Str → Bool
  calm : Bool
  pn : List (Addr × Obj)
  xe : Value → Shared → Prop
noncomputable def frs (l : List Env) : List Addr := l.filterMap (·.frame)
noncomputable abbrev Cx.fs (X : Cx) : List Addr := frs X.outer
noncomputable def Vis (sc : Scope) (x : Str) : Prop := sc.names.lookup x = some .local ∨ sc.names.lookup x = some .cell ∨ sc.names.lookup x = some .free
noncomputable def Loc (sc : Scope) (x : Str) : Prop := sc.names.lookup x = some .local ∨ sc.names.lookup x = some .cell
noncomputable def Look (env : Env) (h : Heap) (m : Str → Option Value) (x : Str) (u : Value) : Prop :=
  (env.kindOf x = some .local ∧ m x = some u) ∨ ((env.kindOf x = some .cell ∨ env.kindOf x = some .free) ∧ ∃ c, env.cells.lookup x = some c ∧ h.IsCell c (some u))
structure Cx.Ok (X : Cx) : Prop where
  mod : Mod X.K X.mg X.base
  kind : X.env.scope.kind = .function
  glob : X.env.globals = mainGlobals
  blt : X.env.builtins = builtinsNs
  above : X.s₀.heap.objs.size ≤ X.env.locals
  inj : ∀ x y c, X.env.cells.lookup x = some c → X.env.cells.lookup y = some c → x = y
  has : ∀ x, (X.env.kindOf x = some .cell ∨ X.env.kindOf x = some .free) → ∃ c, X.env.cells.lookup x = some c
  cab : ∀ x c, X.fn x = true → X.env.cells.lookup x = some c → X.s₀.heap.objs.size ≤ c
  hd : X.calm = true → X.A.handled = none
  frames : X.A.frames = some X.stack
  stk : X.stack = X.outer ∨ (X.stack = X.env :: X.outer ∧ X.env.frame = some X.env.locals)
  exf : ∀ b ∈ X.ex, b ≠ X.env.locals ∧ ∀ x c, X.env.cells.lookup x = some c → c ≠ b
  bs : ∀ b o, X.base.get? b = some o → X.s₀.heap.get? b = some o ∧ X.H₀ b = none
  bsz : X.base.objs.size ≤ X.s₀.heap.objs.size
  noex : ∀ b o, X.base.get? b = some o → b ∉ X.ex
  exfs : ∀ b ∈ X.ex, b ∉ X.fs
  funs : X.s₀.heap.FunFrames X.base X.outer
  frf : ∀ b ∈ X.fs, X.H₀ b = none
structure Inv (X : Cx) (pins : List (Addr × Obj)) (σ : List (Option V)) (H : Hp) (s : Shared) : Prop where
  ok : X.Ok
  os : s.os = X.s₀.os
  bare : AllBare s.gens
  base : Un X.fs X.ex X.H₀ H X.s₀.heap s.heap
  loc : ∃ m, s.heap.Ns X.env.locals m ∧ ∀ (i : Nat) (x : Str) (v : V), X.N[i]? = some x → σ[i]? = some (some v) → Vis X.env.scope x → ∃ u, RelV v u ∧ Look X.env s.heap m x u
  cell : ∀ x c, X.env.cells.lookup x = some c → ∃ v, s.heap.IsCell c v
  free : H X.env.locals = none
  freeC : ∀ x c, X.env.cells.lookup x = some c → H c = none
  pin : ∀ p ∈ X.pn ++ pins, s.heap.get? p.1 = some p.2 ∧ H p.1 = none ∧ p.1 ≠ X.env.locals ∧ p.1 ∉ X.fs ∧ ∀ v, p.2.data ≠ .cell v
  hok : HOk X.prog X.w H s.heap
  len : σ.length = X.N.length
section
variable {X : Cx} {pins : List (Addr × Obj)} {σ : List (Option V)} {H H' : Hp} {s : Shared} {h' : Heap}
theorem Cx.Ok.nofr (ok : X.Ok) {b : Addr} {o : Obj} (e : X.base.get? b = some o) : b ∉ X.fs := fun hb => by
  have := (ok.funs.mem hb).1
  rw [e] at this; cases this
theorem Inv.bs (I : Inv X pins σ H s) : ∀ b o, X.base.get? b = some o → s.heap.get? b = some o ∧ H b = none := fun b o e =>
  ⟨I.base.keep b o (I.ok.bs b o e).1 (I.ok.bs b o e).2 (I.ok.nofr e) (I.ok.noex b o e), I.base.free b o (I.ok.bs b o e).1 (I.ok.bs b o e).2 (I.ok.noex b o e)⟩
theorem Inv.bk (I : Inv X pins σ H s) : ∀ b o, X.base.get? b = some o → s.heap.get? b = some o := fun b o e => (I.bs b o e).1
theorem Inv.mod (I : Inv X pins σ H s) : Mod X.K X.mg X.base := I.ok.mod
theorem Inv.kIn (I : Inv X pins σ H s) : X.K.In s.heap := I.ok.mod.kin.keeps I.bk
theorem Inv.lt (I : Inv X pins σ H s) : X.env.locals < s.heap.objs.size := let ⟨_, hn, _⟩ := I.loc; hn.lt
theorem Inv.sz (I : Inv X pins σ H s) : X.s₀.heap.objs.size ≤ s.heap.objs.size := Nat.le_trans I.ok.above (Nat.le_of_lt I.lt)
theorem Inv.nofs (I : Inv X pins σ H s) {a : Addr} (h : s.heap.objs.size ≤ a) : a ∉ X.fs := fun hb => by
  obtain ⟨_, o, ho, _⟩ := I.ok.funs.mem hb
  exact absurd (Nat.lt_of_lt_of_le (Heap.lt_size ho) (Nat.le_trans I.sz h)) (Nat.lt_irrefl _)
theorem Inv.cne (I : Inv X pins σ H s) : ∀ x c, X.env.cells.lookup x = some c → c ≠ X.env.locals := fun x c e z => by
  obtain ⟨v, o, ho, hd⟩ := I.cell x c e
  obtain ⟨m, ⟨o', es, ep, ho', hd', _⟩, _⟩ := I.loc
  rw [z, ho'] at ho; cases ho; rw [hd'] at hd; cases hd
theorem Inv.funs (I : Inv X pins σ H s) : s.heap.FunFrames X.base X.outer := by
  have all : ∀ (l : List Env), (∀ b ∈ frs l, b ∈ X.fs) → X.s₀.heap.FunFrames X.base l → s.heap.FunFrames X.base l := by
    intro l
    induction l with
    | nil => intro _ _; trivial
    | cons env r ih =>
      intro hs hl
      obtain ⟨hk, ⟨L, o, hf, hn, ho, hd⟩, hr⟩ := hl
      have hL : L ∈ X.fs := hs L (by unfold frs; rw [List.filterMap_cons, hf]; exact List.mem_cons_self)
      obtain ⟨sl, e⟩ := I.base.slot L o ho (I.ok.frf L hL) hL fun z => I.ok.exfs L z hL
      exact ⟨hk, ⟨L, _, hf, hn, e, hd⟩, ih (fun b hb => hs b (by unfold frs; rw [List.filterMap_cons, hf]; exact List.mem_cons_of_mem _ hb)) hr⟩
  exact all X.outer (fun _ hb => hb) I.ok.funs
theorem Inv.stack (I : Inv X pins σ H s) : s.heap.FunFrames X.base X.stack := by
  rcases I.ok.stk with e | ⟨e, hf⟩
  · rw [e]; exact I.funs
  · rw [e]
    obtain ⟨m, hn, _⟩ := I.loc
    refine .cons (by rw [I.ok.kind]; decide) hf hn ?_ I.funs
    exact Heap.get?_none_of_le (Nat.le_trans I.ok.bsz I.ok.above)
theorem Inv.stkSub (I : Inv X pins σ H s) : ∀ b ∈ frs X.stack, b ∈ X.env.locals :: X.fs := fun b hb => by
  rcases I.ok.stk with e | ⟨e, hf⟩
  · rw [e] at hb; exact List.mem_cons_of_mem _ hb
  · rw [e] at hb
    unfold frs at hb
    rw [List.filterMap_cons, hf] at hb
    exact hb
theorem Inv.stkFree (I : Inv X pins σ H s) : ∀ b ∈ frs X.stack, H b = none := fun b hb => by
  rcases List.mem_cons.mp (I.stkSub b hb) with e | hb
  · rw [e]; exact I.free
  · obtain ⟨_, o, ho, _⟩ := I.ok.funs.mem hb
    exact I.base.free b o ho (I.ok.frf b hb) fun z => I.ok.exfs b z hb
theorem Inv.step {g' : Array GenState} {t' : Nat} {d' : Drawn} {ch : List Addr} (I : Inv X pins σ H s)
    (hch : ∀ b ∈ ch, (b ∈ X.ex ∨ X.s₀.heap.objs.size ≤ b) ∧ b ≠ X.env.locals ∧ (∀ x c, X.env.cells.lookup x = some c → c ≠ b) ∧ ∀ p ∈ X.pn ++ pins, p.1 ≠ b)
    (keep : ∀ b o, b ≠ X.env.locals → b ∉ X.fs → b ∉ ch → s.heap.get? b = some o → H b = none → h'.get? b = some o)
    (slot : ∀ b o, b ≠ X.env.locals → b ∈ X.fs → b ∉ ch → s.heap.get? b = some o → H b = none → ∃ sl, h'.get? b = some { o with slots := sl }) (free : ∀ b o, b ∉ ch → s.heap.get? b = some o → H b = none → H' b = none)
    (there : ∀ b o, b ∉ ch → s.heap.get? b = some o → ∃ o', h'.get? b = some o')
    (tups : ∀ b xs, H b = some (.tup xs) → H' b = some (.tup xs)) (frzs : ∀ b o u, H b = some (.frz o u) → H' b = some (.frz o u)) (tbls : ∀ b ps, H b = some (.tbl ps) → ∃ more, H' b = some (.tbl (ps ++ more)))
    (ns : ∀ m, s.heap.Ns X.env.locals m → h'.Ns X.env.locals m) (hok : HOk X.prog X.w H' h') (hg : AllBare g') :
    Inv X pins σ H' { s with heap := h', gens := g', drawn := d', toks := t' } := by
  have neL : ∀ b o, X.s₀.heap.get? b = some o → b ≠ X.env.locals := fun b o e => Nat.ne_of_lt (Nat.lt_of_lt_of_le (Heap.lt_size e) I.ok.above)
  have neC : ∀ b o, X.s₀.heap.get? b = some o → b ∉ X.ex → b ∉ ch := fun b o e hx hb => by
    rcases (hch b hb).1 with z | z
    · exact hx z
    · exact absurd (Nat.lt_of_lt_of_le (Heap.lt_size e) z) (Nat.lt_irrefl _)
  have cellK : ∀ x c, X.env.cells.lookup x = some c → ∀ v, s.heap.IsCell c v → h'.IsCell c v := fun x c e v ⟨o, ho, hd⟩ => by
    have nch : c ∉ ch := fun z => (hch c z).2.2.1 x c e rfl
    by_cases hc : c ∈ X.fs
    · obtain ⟨sl, q⟩ := slot c o (I.cne x c e) hc nch ho (I.freeC x c e)
      exact ⟨_, q, hd⟩
    · exact ⟨o, keep c o (I.cne x c e) hc nch ho (I.freeC x c e), hd⟩
  refine ⟨I.ok, I.os, hg, ⟨fun b o e n hb hx => ?_, fun b o e n hb hx => ?_, fun b o e n hx => ?_, fun b o e hx => ?_, fun b xs e => tups b xs (I.base.tups b xs e), fun b o xs e => frzs b o xs (I.base.frzs b o xs e), fun b ps e => ?_⟩, ?_, fun x c e => ?_, ?_, fun x c e => ?_, fun p hp => ?_, hok, I.len⟩
  · exact keep b o (neL b o e) hb (neC b o e hx) (I.base.keep b o e n hb hx) (I.base.free b o e n hx)
  · obtain ⟨sl, e1⟩ := I.base.slot b o e n hb hx
    obtain ⟨sl', e2⟩ := slot b _ (neL b o e) hb (neC b o e hx) e1 (I.base.free b o e n hx)
    exact ⟨sl', e2⟩
  · obtain ⟨o', e1⟩ := I.base.there b o e hx
    exact free b o' (neC b o e hx) e1 (I.base.free b o e n hx)
  · obtain ⟨o', e1⟩ := I.base.there b o e hx
    exact there b o' (neC b o e hx) e1
  · obtain ⟨m1, e1⟩ := I.base.tbls b ps e
    obtain ⟨m2, e2⟩ := tbls b _ e1
    exact ⟨m1 ++ m2, by rw [e2, Array.append_assoc]⟩
  · obtain ⟨m, hn, hl⟩ := I.loc
    refine ⟨m, ns m hn, fun i x v e1 e2 e3 => ?_⟩
    obtain ⟨u, r, l⟩ := hl i x v e1 e2 e3
    refine ⟨u, r, ?_⟩
    rcases l with l | ⟨k, c, e, z⟩
    · exact .inl l
    · exact .inr ⟨k, c, e, cellK x c e _ z⟩
  · obtain ⟨v, z⟩ := I.cell x c e
    exact ⟨v, cellK x c e v z⟩
  · obtain ⟨m, ⟨o, _, _, ho, _⟩, _⟩ := I.loc
    exact free _ o (fun z => (hch _ z).2.1 rfl) ho I.free
  · obtain ⟨v, o, ho, hd⟩ := I.cell x c e
    exact free c o (fun z => (hch c z).2.2.1 x c e rfl) ho (I.freeC x c e)
  · obtain ⟨e, n, ne, nf, d⟩ := I.pin p hp
    have nch : p.1 ∉ ch := fun z => (hch p.1 z).2.2.2 p hp rfl
    exact ⟨keep p.1 p.2 ne nf nch e n, free p.1 p.2 nch e n, ne, nf, d⟩
theorem Inv.un {t' : Nat} (I : Inv X pins σ H s) (u : Un X.fs [] H H' s.heap h') (hok : HOk X.prog X.w H' h') : Inv X pins σ H' { s with heap := h', toks := t' } := by
  obtain ⟨m, ⟨o, es, ep, ho, r⟩, _⟩ := id I.loc
  obtain ⟨sl, hL⟩ := u.any ho I.free (by simp)
  exact I.step (g' := s.gens) (d' := s.drawn) (ch := []) (fun _ z => nomatch z) (fun b o _ hb _ e n => u.keep b o e n hb (by simp)) (fun b o _ hb _ e n => u.slot b o e n hb (by simp)) (fun b o _ e n => u.free b o e n (by simp)) (fun b o _ e => u.there b o e (by simp)) u.tups u.frzs u.tbls (fun m' hm => by
    obtain ⟨o', es', ep', ho', r'⟩ := hm
    rw [ho] at ho'; cases ho'
    exact ⟨_, es', ep', hL, r'⟩) hok I.bare
theorem Inv.call {g' : Array GenState} {t' : Nat} {d' : Drawn} {ch : List Addr} (I : Inv X pins σ H s) (u : Un (frs X.stack) ch H H' s.heap h') (hok : HOk X.prog X.w H' h') (hg : AllBare g')
    (hch : ∀ b ∈ ch, (b ∈ X.ex ∨ X.s₀.heap.objs.size ≤ b) ∧ b ≠ X.env.locals ∧ (∀ x c, X.env.cells.lookup x = some c → c ≠ b) ∧ ∀ p ∈ X.pn ++ pins, p.1 ≠ b) :
    Inv X pins σ H' { s with heap := h', gens := g', drawn := d', toks := t' } := by
  obtain ⟨m, ⟨o, es, ep, ho, r⟩, _⟩ := id I.loc
  obtain ⟨sl, hL⟩ := u.any ho I.free fun z => (hch _ z).2.1 rfl
  exact I.step (ch := ch) hch (fun b o hL hb hc e n => u.keep b o e n (fun z => (List.mem_cons.mp (I.stkSub b z)).elim hL hb) hc) (fun b o _ _ hc e n => u.any e n hc) (fun b o hc e n => u.free b o e n hc) (fun b o hc e => u.there b o e hc) u.tups u.frzs u.tbls (fun m' hm => by
    obtain ⟨o', es', ep', ho', r'⟩ := hm
    rw [ho] at ho'; cases ho'
    exact ⟨_, es', ep', hL, r'⟩) hok hg
theorem Inv.turned {t' : Nat} {it : Addr} (I : Inv X pins σ H s) (k : ∀ b o, b ≠ it → s.heap.get? b = some o → h'.get? b = some o) (hn : H it = none) (hL : it ≠ X.env.locals)
    (h1 : it ∈ X.ex ∨ X.s₀.heap.objs.size ≤ it) (h2 : ∀ x c, X.env.cells.lookup x = some c → c ≠ it) (h3 : ∀ p ∈ X.pn ++ pins, p.1 ≠ it) : Inv X pins σ H { s with heap := h', toks := t' } := by
  have nit : ∀ b u, H b = some u → b ≠ it := fun b u e z => by rw [z, hn] at e; cases e
  refine I.step (g' := s.gens) (d' := s.drawn) (ch := [it]) (fun b hb => ?_) (fun b o _ _ hc e _ => k b o (fun z => hc (by simp [z])) e) (fun b o _ _ hc e _ => ⟨o.slots, k b o (fun z => hc (by simp [z])) e⟩) (fun _ _ _ _ n => n)
    (fun b o hc e => ⟨o, k b o (fun z => hc (by simp [z])) e⟩) (fun _ _ e => e) (fun _ _ _ e => e) (fun b ps e => ⟨#[], by rw [e]; simp⟩) (fun m hm => ?_) (fun b u e => ?_) I.bare
  · have e : b = it := by simpa using hb
    subst e
    exact ⟨h1, hL, h2, h3⟩
  · obtain ⟨o, es, ep, ho, r⟩ := hm
    exact ⟨o, es, ep, k _ o (Ne.symm hL) ho, r⟩
  · refine (I.hok b u e).stay (fun c v hc q => k c v ?_ q) (fun _ q => q) fun _ _ q => q
    rcases hc with z | z
    · rw [z]; exact nit b u e
    · exact nit c _ z
theorem Inv.tok (I : Inv X pins σ H s) (t : Nat) : Inv X pins σ H { s with toks := t } := I.un (h' := s.heap) (t' := t) Un.refl I.hok
theorem Inv.kept {t' : Nat} (I : Inv X pins σ H s) (k : ∀ b u, s.heap.get? b = some u → h'.get? b = some u) : Inv X pins σ H { s with heap := h', toks := t' } := I.un (Un.kept k) (I.hok.kept k)
theorem Inv.laid {a : Addr} {o : HO} {t' : Nat} (I : Inv X pins σ H s) (k : ∀ b u, s.heap.get? b = some u → h'.get? b = some u) (hp : s.heap.objs.size ≤ a) (new : ObjOk X.prog X.w (upd H a o) h' a o) :
    Inv X pins σ (upd H a o) { s with heap := h', toks := t' } := I.un (Un.laid k hp (I.hok.fresh hp)) (I.hok.laid k hp new)
theorem Inv.write {x e : Addr} {o : HO} {t' : Nat} (I : Inv X pins σ H s) (mu : Mut (H x)) (he : e = x ∨ H e = some (.own x)) (k : ∀ b u, b ≠ e → s.heap.get? b = some u → h'.get? b = some u) (heo : ∃ u, h'.get? e = some u)
    (new : ObjOk X.prog X.w (upd H x o) h' x o) : Inv X pins σ (upd H x o) { s with heap := h', toks := t' } := I.un (Un.write mu he k heo) (I.hok.write mu he k heo new)
theorem Inv.pins_of {pins' : List (Addr × Obj)} (I : Inv X pins σ H s) (h : ∀ p ∈ pins', s.heap.get? p.1 = some p.2 ∧ H p.1 = none ∧ p.1 ≠ X.env.locals ∧ p.1 ∉ X.fs ∧ ∀ v, p.2.data ≠ .cell v) : Inv X pins' σ H s :=
  ⟨I.ok, I.os, I.bare, I.base, I.loc, I.cell, I.free, I.freeC, fun p hp => (List.mem_append.mp hp).elim (fun z => I.pin p (List.mem_append_left _ z)) (h p), I.hok, I.len⟩
theorem nodup_ix {N : List Str} (hN : N.Nodup) {i j : Nat} {x : Str} (a : N[i]? = some x) (b : N[j]? = some x) : i = j := by
  obtain ⟨h1, e1⟩ := List.getElem?_eq_some_iff.mp a
  obtain ⟨h2, e2⟩ := List.getElem?_eq_some_iff.mp b
  exact (List.getElem_inj hN).mp (e1.trans e2.symm)
theorem store_ok2 {M : Model} {A : Around} {E : Value → Shared → Prop} {i : Nat} {x : Str} {v : V} {u : Value} {Q : Unit → Shared → Prop} (I : Inv X pins σ H s) (hN : X.N.Nodup) (hi : X.N[i]? = some x) (hx : Loc X.env.scope x) (r : RelV v u)
    (h : ∀ s', Inv X pins (σ.set i (some v)) H s' → (∃ a, Heap.SameBut a s.heap s'.heap ∧ (a = X.env.locals ∨ X.env.cells.lookup x = some a)) → Q () s') (hf : X.fn x = true ∨ X.env.scope.names.lookup x = some .local := by first | exact .inl rfl | exact .inr rfl | assumption) : wpAny M A (storeName X.env x u) Q E s := by
  obtain ⟨m, hn, hl⟩ := id I.loc
  have hcls : (X.env.scope.kind == .class || (X.env.scope.kind == .module && X.env.locals != X.env.globals)) = false := by rw [I.ok.kind]; rfl
  have hiσ : i < σ.length := by rw [I.len]; exact (List.getElem?_eq_some_iff.mp hi).1
  have cne := I.cne
  have tracked : ∀ {a : Addr} {h' : Heap}, (∃ o, s.heap.get? a = some o ∧ H a = none) → Heap.SameBut a s.heap h' → HOk X.prog X.w H h' := fun {a h'} ha hs b ob e => by
    obtain ⟨_, _, hfree⟩ := ha
    refine (I.hok b ob e).stay (fun c w' hc q => (hs.2 c ?_).trans q) (fun _ q => q) fun _ _ q => q
    rintro rfl
    rcases hc with rfl | hc
    · rw [hfree] at e; cases e
    · rw [hfree] at hc; cases hc
  rcases hx with hk | hk
  · refine wpAny_storeName_local hk hn (fun h' hn' hs => ?_) hcls
    obtain ⟨oL, _, _, hoL, _⟩ := id hn
    refine h _ ⟨I.ok, I.os, I.bare, ⟨fun b o e n hb hx => ?_, fun b o e n hb hx => ?_, I.base.free, fun b o e hx => ?_, I.base.tups, I.base.frzs, I.base.tbls⟩, ⟨_, hn', fun j y v' e1 e2 e3 => ?_⟩, fun y c e => ?_, I.free, I.freeC, fun p hp => ?_, tracked ⟨oL, hoL, I.free⟩ hs, by simpa using I.len⟩ ⟨_, hs, .inl rfl⟩
    · exact (hs.2 b (Nat.ne_of_lt (Nat.lt_of_lt_of_le (Heap.lt_size e) I.ok.above))).trans (I.base.keep b o e n hb hx)
    · obtain ⟨sl, e1⟩ := I.base.slot b o e n hb hx
      exact ⟨sl, (hs.2 b (Nat.ne_of_lt (Nat.lt_of_lt_of_le (Heap.lt_size e) I.ok.above))).trans e1⟩
    · obtain ⟨o', e1⟩ := I.base.there b o e hx
      exact ⟨o', (hs.2 b (Nat.ne_of_lt (Nat.lt_of_lt_of_le (Heap.lt_size e) I.ok.above))).trans e1⟩
    · by_cases hj : j = i
      · subst hj
        rw [hi] at e1; cases e1
        rw [List.getElem?_set_self hiσ] at e2
        cases e2
        exact ⟨u, r, .inl ⟨hk, by simp⟩⟩
      · rw [List.getElem?_set_ne (Ne.symm hj)] at e2
        obtain ⟨u', r', q⟩ := hl j y v' e1 e2 e3
        refine ⟨u', r', ?_⟩
        rcases q with ⟨k, e⟩ | ⟨k, c, e, z⟩
        · refine .inl ⟨k, ?_⟩
          have : y ≠ x := fun e => hj (nodup_ix hN e1 (e ▸ hi))
          simp [this, e]
        · exact .inr ⟨k, c, e, z.sameBut hs (cne y c e)⟩
    · obtain ⟨w', z⟩ := I.cell y c e
      exact ⟨w', z.sameBut hs (cne y c e)⟩
    · obtain ⟨e, n, ne, nf, d⟩ := I.pin p hp
      exact ⟨(hs.2 p.1 ne).trans e, n, ne, nf, d⟩
  · have hfn : X.fn x = true := by
      rcases hf with z | z
      · exact z
      · rw [z] at hk; cases hk
    obtain ⟨c, hc⟩ := I.ok.has x (.inl hk)
    obtain ⟨w', z⟩ := I.cell x c hc
    refine wpAny_storeName_cell I.ok.kind hk hc z (fun h' hc' hs => ?_)
    obtain ⟨oc, hoc, hocd⟩ := id z
    refine h { s with heap := h' } ⟨I.ok, I.os, I.bare, ⟨fun b o e n hb hx => ?_, fun b o e n hb hx => ?_, I.base.free, fun b o e hx => ?_, I.base.tups, I.base.frzs, I.base.tbls⟩, ⟨m, hn.sameBut hs (Ne.symm (cne x c hc)), fun j y v' e1 e2 e3 => ?_⟩, fun y c' e => ?_, I.free, I.freeC, fun p hp => ?_, tracked ⟨oc, hoc, I.freeC x c hc⟩ hs, by simpa using I.len⟩ ⟨c, hs, .inr hc⟩
    · exact (hs.2 b (Nat.ne_of_lt (Nat.lt_of_lt_of_le (Heap.lt_size e) (I.ok.cab x c hfn hc)))).trans (I.base.keep b o e n hb hx)
    · obtain ⟨sl, e1⟩ := I.base.slot b o e n hb hx
      exact ⟨sl, (hs.2 b (Nat.ne_of_lt (Nat.lt_of_lt_of_le (Heap.lt_size e) (I.ok.cab x c hfn hc)))).trans e1⟩
    · obtain ⟨o', e1⟩ := I.base.there b o e hx
      exact ⟨o', (hs.2 b (Nat.ne_of_lt (Nat.lt_of_lt_of_le (Heap.lt_size e) (I.ok.cab x c hfn hc)))).trans e1⟩
    · by_cases hj : j = i
      · subst hj
        rw [hi] at e1; cases e1
        rw [List.getElem?_set_self hiσ] at e2
        cases e2
        exact ⟨u, r, .inr ⟨.inl hk, c, hc, hc'⟩⟩
      · rw [List.getElem?_set_ne (Ne.symm hj)] at e2
        obtain ⟨u', r', q⟩ := hl j y v' e1 e2 e3
        refine ⟨u', r', ?_⟩
        rcases q with q | ⟨k, c', e, z'⟩
        · exact .inl q
        · refine .inr ⟨k, c', e, z'.sameBut hs ?_⟩
          rintro rfl
          exact hj (nodup_ix hN e1 (I.ok.inj _ _ _ e hc ▸ hi))
    · by_cases hcc : c' = c
      · subst hcc; exact ⟨_, hc'⟩
      · obtain ⟨w2, z2⟩ := I.cell y c' e
        exact ⟨w2, z2.sameBut hs hcc⟩
    · obtain ⟨e, n, ne, nf, d⟩ := I.pin p hp
      refine ⟨(hs.2 p.1 ?_).trans e, n, ne, nf, d⟩
      intro q
      rw [q, hoc] at e
      have q' : oc = p.2 := Option.some.inj e
      exact d w' (by rw [← q']; exact hocd)
theorem store_ok {M : Model} {A : Around} {E : Value → Shared → Prop} {i : Nat} {x : Str} {v : V} {u : Value} {Q : Unit → Shared → Prop} (I : Inv X pins σ H s) (hN : X.N.Nodup) (hi : X.N[i]? = some x) (hx : Loc X.env.scope x) (r : RelV v u)
    (h : ∀ s', Inv X pins (σ.set i (some v)) H s' → Q () s') (hf : X.fn x = true ∨ X.env.scope.names.lookup x = some .local := by first | exact .inl rfl | exact .inr rfl | assumption) : wpAny M A (storeName X.env x u) Q E s :=
  store_ok2 I hN hi hx r (fun s' I' _ => h s' I') hf
theorem Inv.call' {s' : Shared} {ch : List Addr} (I : Inv X pins σ H s) (ho : s'.os = s.os) (u : Un (frs X.stack) ch H H' s.heap s'.heap) (hok : HOk X.prog X.w H' s'.heap) (hg : AllBare s'.gens)
    (hch : ∀ b ∈ ch, (b ∈ X.ex ∨ X.s₀.heap.objs.size ≤ b) ∧ b ≠ X.env.locals ∧ (∀ x c, X.env.cells.lookup x = some c → c ≠ b) ∧ ∀ p ∈ X.pn ++ pins, p.1 ≠ b) : Inv X pins σ H' s' := by
  obtain ⟨h', g', d', t', o'⟩ := s'
  have e : o' = s.os := ho
  subst e
  exact I.call (g' := g') (t' := t') (d' := d') u hok hg hch
end
noncomputable abbrev XK := Value → Option Addr → Hp → Prop
noncomputable abbrev St := List (Option V)
noncomputable abbrev VK := V → Hp → Prop
noncomputable abbrev TE := St → Hp → VK → Prop
noncomputable abbrev TT := St → Hp → (Bool → Hp → Prop) → Prop
noncomputable abbrev TA := St → Hp → (List V → Hp → Prop) → Prop
structure Ends where
  nx : St → Hp → Prop
  rt : VK
  bk : St → Hp → Prop := fun _ _ => False
  ct : St → Hp → Prop := fun _ _ => False
noncomputable abbrev TS := Ends → St → Hp → Prop
noncomputable def EP (X : Cx) (pins : List (Addr × Obj)) (σ : St) (Q : VK) (u : Value) (s' : Shared) : Prop := ∃ v H', Inv X pins σ H' s' ∧ RelV v u ∧ Q v H'
noncomputable def TP (X : Cx) (pins : List (Addr × Obj)) (σ : St) (Q : Bool → Hp → Prop) (b : Bool) (s' : Shared) : Prop := ∃ H', Inv X pins σ H' s' ∧ Q b H'
noncomputable def AP (X : Cx) (pins : List (Addr × Obj)) (σ : St) (Q : List V → Hp → Prop) (us : List Value) (s' : Shared) : Prop := ∃ vs H', Inv X pins σ H' s' ∧ Vals vs us ∧ Q vs H'
noncomputable def SP (X : Cx) (pins : List (Addr × Obj)) (D : Ends) (f : Flow) (s' : Shared) : Prop :=
  match f with
  | .next => ∃ σ' H', Inv X pins σ' H' s' ∧ D.nx σ' H'
  | .brk => ∃ σ' H', Inv X pins σ' H' s' ∧ D.bk σ' H'
  | .cont => ∃ σ' H', Inv X pins σ' H' s' ∧ D.ct σ' H'
  | .ret u => ∃ v σ' H', Inv X pins σ' H' s' ∧ RelV v u ∧ D.rt v H'
noncomputable def PE (X : Cx) (e : Expr) (t : TE) : Prop :=
  ∀ (pins : List (Addr × Obj)) (s : Shared) (σ : St) (H : Hp) (Q : VK), Inv X pins σ H s → t σ H Q → wpAny (model X.prog X.w) X.A (eval e X.env) (EP X pins σ Q) X.xe s
noncomputable def PT (X : Cx) (e : Expr) (t : TT) : Prop :=
  ∀ (pins : List (Addr × Obj)) (s : Shared) (σ : St) (H : Hp) (Q : Bool → Hp → Prop), Inv X pins σ H s → t σ H Q → wpAny (model X.prog X.w) X.A (isTrue e X.env (eval e X.env)) (TP X pins σ Q) X.xe s
noncomputable def PW (X : Cx) (e : Expr) (t : TT) : Prop :=
  ∀ (whole : Sem Value) (pins : List (Addr × Obj)) (s : Shared) (σ : St) (H : Hp) (Q : Bool → Hp → Prop), Inv X pins σ H s → t σ H Q → wpAny (model X.prog X.w) X.A (isTrue e X.env whole) (TP X pins σ Q) X.xe s
theorem PW.pt {X : Cx} {e : Expr} {t : TT} (h : PW X e t) : PT X e t := h _
noncomputable def PA (X : Cx) (es : List Expr) (t : TA) : Prop :=
  ∀ (pos : Pos) (pins : List (Addr × Obj)) (s : Shared) (σ : St) (H : Hp) (Q : List V → Hp → Prop), Inv X pins σ H s → t σ H Q → wpAny (model X.prog X.w) X.A (spliced (backTo pos (starEach es X.env))) (AP X pins σ Q) X.xe s
noncomputable def PS (X : Cx) (st : Stmt) (t : TS) : Prop :=
  ∀ (pins : List (Addr × Obj)) (s : Shared) (σ : St) (H : Hp) (D : Ends), Inv X pins σ H s → t D σ H → wpAny (model X.prog X.w) X.A (exec st X.env) (SP X pins D) X.xe s
noncomputable def PSs (X : Cx) (st : List Stmt) (t : TS) : Prop :=
  ∀ (pins : List (Addr × Obj)) (s : Shared) (σ : St) (H : Hp) (D : Ends), Inv X pins σ H s → t D σ H → wpAny (model X.prog X.w) X.A (execs st X.env) (SP X pins D) X.xe s
theorem thn {α : Type} {t : Sem α} {Q Q' : α → Shared → Prop} {M : Model} {A : Around} {E : Value → Shared → Prop} {s : Shared} (h : wpAny M A t Q E s) (hQ : ∀ a s, Q a s → Q' a s) : wpAny M A t Q' E s := wpAny_mono h hQ fun _ _ x => x
end L2
namespace L2
open PySem PySem.Spec PyProof.Rows
section
variable {X : Cx}
noncomputable def tVar (i : Nat) : TE := fun σ H Q => ∃ v, σ[i]? = some (some v) ∧ Q v H
noncomputable def tC (v : V) : TE := fun _ H Q => Q v H
theorem pe_var {i : Nat} {x : Str} {pos : Pos} (hN : X.N[i]? = some x) (hv : Vis X.env.scope x) (hd : (x == ("__debug__" : Str)) = false := by decide) (hcd : (x == ("__classdict__" : Str)) = false := by decide) : PE X (.Name x pos) (tVar i) := by
  intro pins s σ H Q I h
  obtain ⟨v, e, h⟩ := h
  obtain ⟨m, hn, hl⟩ := I.loc
  obtain ⟨u, r, l⟩ := hl i x v hN e hv
  have fin : EP X pins σ Q u s := ⟨v, H, I, r, h⟩
  rcases l with ⟨hk, hm⟩ | ⟨hk, c, hc, hcell⟩
  · exact wpAny_Name (wpAny_loadName_local I.ok.kind hk hn hm fin) hd
  · rcases hk with hk | hk
    · exact wpAny_Name (wpAny_loadName_cell I.ok.kind hk hc hcell fin) hd
    · exact wpAny_Name (wpAny_loadName_free I.ok.kind hk hc hcell fin hcd) hd
theorem pe_int {i j pos} : PE X (.Constant (.int i) j pos) (tC (.int i)) := fun _ _ _ H _ I h => wpAny_Constant_int ⟨.int i, H, I.tok _, ⟨_, rfl⟩, h⟩
theorem pe_bl {b j pos} : PE X (.Constant (.bool b) j pos) (tC (.bl b)) := fun _ _ _ H _ I h => Constant_bool ⟨.bl b, H, I, rfl, h⟩
theorem pe_non {j pos} : PE X (.Constant .none j pos) (tC .non) := fun _ _ _ H _ I h => Constant_none ⟨.non, H, I, rfl, h⟩
theorem pe_str {x j pos} : PE X (.Constant (.str x) j pos) (tC (.str x)) := fun _ _ _ H _ I h => Calls.Constant_str ⟨.str x, H, I.tok _, ⟨_, rfl⟩, h⟩
noncomputable def Gl (X : Cx) (x : Str) : Prop := X.env.kindOf x = some .globalImplicit
theorem ld_glob {E : Value → Shared → Prop} {pins : List (Addr × Obj)} {s : Shared} {σ : St} {H : Hp} {x : Str} {u : Value} {pos : Pos} {Q : Value → Shared → Prop} (I : Inv X pins σ H s) (hg : Gl X x) (hm : X.mg x = some u) (h : Q u s)
    (hd : (x == ("__debug__" : Str)) = false := by decide) : wpAny (model X.prog X.w) X.A (eval (.Name x pos) X.env) Q E s :=
  Calls.Name_function_global I.ok.kind hg (Calls.loadGlobal_global (by rw [I.ok.glob]; exact I.mod.glob.keeps I.bk) hm h) hd
theorem ld_blt {E : Value → Shared → Prop} {pins : List (Addr × Obj)} {s : Shared} {σ : St} {H : Hp} {x : Str} {u : Value} {pos : Pos} {Q : Value → Shared → Prop} (I : Inv X pins σ H s) (hg : Gl X x) (hm : X.mg x = none) (hv : bootBuiltins x = some u) (h : Q u s)
    (hn : x ≠ "__name__" := by decide) (hd : (x == ("__debug__" : Str)) = false := by decide) : wpAny (model X.prog X.w) X.A (eval (.Name x pos) X.env) Q E s := by
  obtain ⟨mb, h1, h2⟩ := I.mod.blt
  exact Calls.Name_function_global I.ok.kind hg (Calls.loadGlobal_builtin (by rw [I.ok.glob]; exact I.mod.glob.keeps I.bk) hm (by rw [I.ok.blt]; exact h1.keeps I.bk) ((h2 x hn).trans hv) h) hd
theorem pe_glob {x : Str} {v : V} {u : Value} {pos : Pos} (hg : Gl X x) (hm : X.mg x = some u) (r : RelV v u) (hd : (x == ("__debug__" : Str)) = false := by decide) : PE X (.Name x pos) (tC v) :=
  fun _ _ _ H _ I h => ld_glob I hg hm ⟨v, H, I, r, h⟩ hd
theorem pe_bltn {x : Str} {v : V} {u : Value} {pos : Pos} (hg : Gl X x) (hm : X.mg x = none) (hv : bootBuiltins x = some u) (r : RelV v u) (hn : x ≠ "__name__" := by decide) (hd : (x == ("__debug__" : Str)) = false := by decide) : PE X (.Name x pos) (tC v) :=
  fun _ _ _ H _ I h => ld_blt I hg hm hv ⟨v, H, I, r, h⟩ hn hd
variable {a b : Expr} {ta tb : TE} {pos : Pos}
noncomputable def tB (t : TE) : TT := fun σ H Q => t σ H fun x H1 => ∃ c, x = .bl c ∧ Q c H1
theorem pt_val {e : Expr} {t : TE} (h : PE X e t) (he : ∀ whole, isTrue e X.env whole = (do let v ← whole; standAt e.pos; holding [v] (truthy v)) := by intro _; rfl) : PT X e (tB t) := by
  intro pins s σ H Q I hw
  refine isTrue_plain (thn (h pins s σ H _ I hw) fun v s1 ⟨x, H1, I1, r1, q1⟩ => ?_) (he _)
  obtain ⟨d, rfl, q⟩ := q1
  cases r1
  exact wpAny_truthy_bool ⟨H1, I1, q⟩
variable {tA tB' : TT} {rest : List Expr}
noncomputable def tOr (t u : TT) : TT := fun σ H Q => t σ H fun c H1 => if c = true then Q true H1 else u σ H1 Q
noncomputable def tNot (t : TT) : TT := fun σ H Q => t σ H fun c H1 => Q (!c) H1
theorem pw_or1 (ha : PT X a tA) : PW X (.BoolOp .Or [a] pos) tA := by
  intro wh pins s σ H Q I h
  refine isTrue_or (thn (ha pins s σ H Q I h) fun c s1 e => ?_)
  cases c with
  | false => exact isTrue_or_nil e
  | true => exact e
theorem pw_or (ha : PT X a tA) (hb : PW X (.BoolOp .Or (b :: rest) pos) tB') : PW X (.BoolOp .Or (a :: b :: rest) pos) (tOr tA tB') := by
  intro wh pins s σ H Q I h
  refine isTrue_or (thn (ha pins s σ H _ I h) fun c s1 ⟨H1, I1, q1⟩ => ?_)
  cases c with
  | true => exact ⟨H1, I1, q1⟩
  | false => exact hb wh pins s1 σ H1 Q I1 q1
theorem pt_not (ha : PT X a tA) : PT X (.UnaryOp .Not a pos) (tNot tA) := by
  intro pins s σ H Q I h
  exact isTrue_not (ha pins s σ H (fun c H1 => Q (!c) H1) I h)
noncomputable def tAndV (ta tb : TE) : TE := fun σ H Q => ta σ H fun x H1 => ∃ c, x = .bl c ∧ if c = true then tb σ H1 Q else Q (.bl false) H1
noncomputable def tOrV (ta tb : TE) : TE := fun σ H Q => ta σ H fun x H1 => ∃ c, x = .bl c ∧ if c = true then Q (.bl true) H1 else tb σ H1 Q
theorem pe_one {op} {t : TE} (h : PE X a t) : PE X (.BoolOp op [a] pos) t := fun pins s σ H Q I hw => BoolOp_one (h pins s σ H Q I hw)
theorem pe_and (ha : PE X a ta) (hb : PE X (.BoolOp .And (b :: rest) pos) tb) : PE X (.BoolOp .And (a :: b :: rest) pos) (tAndV ta tb) := by
  intro pins s σ H Q I h
  refine BoolOp_and (thn (ha pins s σ H _ I h) fun v s1 ⟨x, H1, I1, r1, q1⟩ => ?_)
  obtain ⟨c, rfl, q1⟩ := q1
  cases r1
  refine wpAny_truthy_bool ?_
  cases c with
  | true => exact hb pins s1 σ H1 Q I1 q1
  | false => exact ⟨.bl false, H1, I1, rfl, q1⟩
theorem pe_or (ha : PE X a ta) (hb : PE X (.BoolOp .Or (b :: rest) pos) tb) : PE X (.BoolOp .Or (a :: b :: rest) pos) (tOrV ta tb) := by
  intro pins s σ H Q I h
  refine BoolOp_or (thn (ha pins s σ H _ I h) fun v s1 ⟨x, H1, I1, r1, q1⟩ => ?_)
  obtain ⟨c, rfl, q1⟩ := q1
  cases r1
  refine wpAny_truthy_bool ?_
  cases c with
  | false => exact hb pins s1 σ H1 Q I1 q1
  | true => exact ⟨.bl true, H1, I1, rfl, q1⟩
noncomputable def tIf (t : TT) (ta tb : TE) : TE := fun σ H Q => t σ H fun c H1 => if c = true then ta σ H1 Q else tb σ H1 Q
theorem pe_ifExp {c : Expr} (hc : PT X c tA) (ha : PE X a ta) (hb : PE X b tb) : PE X (.IfExp c a b pos) (tIf tA ta tb) := by
  intro pins s σ H Q I h
  refine wpAny_IfExp (thn (hc pins s σ H _ I h) fun d s1 ⟨H1, I1, q1⟩ => ?_)
  cases d with
  | true => exact ha pins s1 σ H1 Q I1 q1
  | false => exact hb pins s1 σ H1 Q I1 q1
end
end L2
namespace L2
open PySem PySem.Spec PyProof.Rows
noncomputable def SqL (K : PySem.W.Frag) (H : Hp) (a : Addr) (xs : List V) : Prop :=
  Rd H a (.lst xs) ∨
    ∃ (o : Obj) (its : Array Value) (n : Nat), K.lookup a = some o ∧ o.cls = .type "list" ∧ o.dict = none ∧ o.data = .seq its n ∧ its.size ≤ sizeLine ∧ Vals xs its.toList
noncomputable def SqT (K : PySem.W.Frag) (H : Hp) (a : Addr) (xs : List V) : Prop :=
  Rd H a (.tup xs) ∨
    ∃ (o : Obj) (its : Array Value) (n : Nat), K.lookup a = some o ∧ o.cls = .type "tuple" ∧ o.data = .seq its n ∧ its.size ≤ sizeLine ∧ Vals xs its.toList
noncomputable def absV : Value → Option V
  | .none => some .non
  | .bool b => some (.bl b)
  | .int i _ => some (.int i)
  | .str x _ => some (.str x)
  | .bytes b _ => some (.byt b)
  | .float b _ => some (.flt b)
  | .ref a => some (.ref a)
  | .type n => some (.ty n)
  | _ => none
theorem RelV.abs {x : V} {u : Value} (r : RelV x u) : absV u = some x := by
  cases x with
  | non => cases r; rfl
  | bl _ => cases r; rfl
  | int _ => obtain ⟨t, rfl⟩ := r; rfl
  | str _ => obtain ⟨t, rfl⟩ := r; rfl
  | byt _ => obtain ⟨t, rfl⟩ := r; rfl
  | flt _ => obtain ⟨t, rfl⟩ := r; rfl
  | ref _ => cases r; rfl
  | ty _ => cases r; rfl
theorem RelV.inj {x y : V} {u : Value} (r : RelV x u) (q : RelV y u) : x = y := Option.some.inj (r.abs.symm.trans q.abs)
theorem Vals.inj : ∀ {xs ys : List V} {us : List Value}, Vals xs us → Vals ys us → xs = ys
  | _, _, _, .nil, .nil => rfl
  | _, _, _, .cons r t, .cons r' t' => by rw [r.inj r', Vals.inj t t']
section
variable {X : Cx} {pins : List (Addr × Obj)} {σ : St} {H : Hp} {s : Shared} {a : Addr} {xs ys : List V}
theorem SqL.of {K : PySem.W.Frag} (h : H a = some (.lst xs)) : SqL K H a xs := .inl (.inl h)
theorem SqT.of {K : PySem.W.Frag} (h : H a = some (.tup xs)) : SqT K H a xs := .inl (.inl h)
theorem Inv.list (I : Inv X pins σ H s) (h : SqL X.K H a xs) : ∃ its : List Value, Vals xs its ∧ PlainL s.heap a its.toArray ∧ xs.length ≤ sizeLine := by
  rcases h with h | ⟨o, its, n, hk, hc, hd, hs, hz, r⟩
  · obtain ⟨z, its, n, r, e⟩ := h.ok I.hok
    exact ⟨its, r, ⟨_, n, e, rfl, rfl, rfl⟩, z⟩
  · refine ⟨its.toList, r, ⟨o, n, I.kIn a o hk, hc, hd, by simpa using hs⟩, ?_⟩
    have e := r.length
    simp only [Array.length_toList] at e
    omega
theorem Inv.tuple (I : Inv X pins σ H s) (h : SqT X.K H a xs) : ∃ its : List Value, Vals xs its ∧ IsTup s.heap a its.toArray ∧ xs.length ≤ sizeLine := by
  rcases h with h | ⟨o, its, n, hk, hc, hs, hz, r⟩
  · obtain ⟨z, its, r, p⟩ := h.ok I.hok
    exact ⟨its, r, p, z⟩
  · refine ⟨its.toList, r, ⟨o, I.kIn a o hk, hc, n, by simpa using hs⟩, ?_⟩
    have e := r.length
    simp only [Array.length_toList] at e
    omega
theorem Inv.list_inj (I : Inv X pins σ H s) (h : SqL X.K H a xs) (h' : SqL X.K H a ys) : xs = ys := by
  obtain ⟨its, r, ⟨o, n, e, _, _, d⟩, _⟩ := I.list h
  obtain ⟨its', r', ⟨o', n', e', _, _, d'⟩, _⟩ := I.list h'
  rw [e] at e'; cases e'
  rw [d] at d'
  injection d' with d1 _
  have : its = its' := by simpa using congrArg Array.toList d1
  subst this
  exact r.inj r'
theorem Inv.tuple_inj (I : Inv X pins σ H s) (h : SqT X.K H a xs) (h' : SqT X.K H a ys) : xs = ys := by
  obtain ⟨its, r, ⟨o, e, _, n, d⟩, _⟩ := I.tuple h
  obtain ⟨its', r', ⟨o', e', _, n', d'⟩, _⟩ := I.tuple h'
  rw [e] at e'; cases e'
  rw [d] at d'
  injection d' with d1 _
  have : its = its' := by simpa using congrArg Array.toList d1
  subst this
  exact r.inj r'
end
noncomputable abbrev Cx.wish (X : Cx) (E : Value → Shared → Prop) : Cx := { X with xe := E }
noncomputable abbrev Cx.nox (X : Cx) : Cx := X.wish fun _ _ => False
theorem Cx.Ok.wish {X : Cx} (ok : X.Ok) (E : Value → Shared → Prop) : (X.wish E).Ok :=
  ⟨ok.mod, ok.kind, ok.glob, ok.blt, ok.above, ok.inj, ok.has, ok.cab, ok.hd, ok.frames, ok.stk, ok.exf, ok.bs, ok.bsz, ok.noex, ok.exfs, ok.funs, ok.frf⟩
theorem Cx.Ok.unwish {X : Cx} {E : Value → Shared → Prop} (ok : (X.wish E).Ok) : X.Ok :=
  ⟨ok.mod, ok.kind, ok.glob, ok.blt, ok.above, ok.inj, ok.has, ok.cab, ok.hd, ok.frames, ok.stk, ok.exf, ok.bs, ok.bsz, ok.noex, ok.exfs, ok.funs, ok.frf⟩
section
variable {X : Cx} {pins : List (Addr × Obj)} {σ : St} {H : Hp} {s : Shared} {E : Value → Shared → Prop}
theorem Inv.wish (I : Inv X pins σ H s) (E : Value → Shared → Prop) : Inv (X.wish E) pins σ H s := ⟨I.ok.wish E, I.os, I.bare, I.base, I.loc, I.cell, I.free, I.freeC, I.pin, I.hok, I.len⟩
theorem Inv.unwish (I : Inv (X.wish E) pins σ H s) : Inv X pins σ H s := ⟨I.ok.unwish, I.os, I.bare, I.base, I.loc, I.cell, I.free, I.freeC, I.pin, I.hok, I.len⟩
theorem SP.unwish {D : Ends} {f : Flow} {s' : Shared} (h : SP (X.wish E) pins D f s') : SP X pins D f s' := by
  cases f with
  | next => obtain ⟨σ', H', I, q⟩ := h; exact ⟨σ', H', I.unwish, q⟩
  | brk => obtain ⟨σ', H', I, q⟩ := h; exact ⟨σ', H', I.unwish, q⟩
  | cont => obtain ⟨σ', H', I, q⟩ := h; exact ⟨σ', H', I.unwish, q⟩
  | ret u => obtain ⟨v, σ', H', I, r, q⟩ := h; exact ⟨v, σ', H', I.unwish, r, q⟩
theorem PSs.nox {st : List Stmt} {t : TS} (h : PSs X.nox st t) : PSs X st t := fun pins s σ H D I hw =>
  wpAny_mono (h pins s σ H D (I.wish _) hw) (fun _ _ q => q.unwish) fun _ _ z => False.elim z
end
section
variable {X : Cx} {st : Stmt} {rest : List Stmt} {t u : TS} {e : Expr} {te : TE} {pos : Pos}
noncomputable def tNext : TS := fun D σ H => D.nx σ H
noncomputable def tSeq (t u : TS) : TS := fun D σ H => t { D with nx := u D } σ H
theorem pss_nil : PSs X [] tNext := fun _ _ σ H _ I h => wpAny_execs_nil ⟨σ, H, I, h⟩
theorem pss_cons (h1 : PS X st t) (h2 : PSs X rest u) : PSs X (st :: rest) (tSeq t u) := by
  intro pins s σ H D I h
  refine wpAny_execs_cons (thn (h1 pins s σ H { D with nx := u D } I h) fun f s1 q => ?_)
  cases f with
  | next =>
    obtain ⟨σ', H', I', q⟩ := q
    exact h2 pins s1 σ' H' D I' q
  | ret v => exact q
  | brk => exact q
  | cont => exact q
theorem pss_one (h1 : PS X st t) : PSs X [st] t := by
  intro pins s σ H D I h
  refine wpAny_execs_cons (thn (h1 pins s σ H D I h) fun f s1 q => ?_)
  cases f with
  | next => exact wpAny_execs_nil q
  | ret v => exact q
  | brk => exact q
  | cont => exact q
theorem Inv.quiet {pins : List (Addr × Obj)} {σ : St} {H : Hp} {s : Shared} (I : Inv X pins σ H s) : interactive X.env = false := by simp [interactive, I.ok.kind]
noncomputable def tDrop (te : TE) : TS := fun D σ H => te σ H fun _ H1 => D.nx σ H1
theorem ps_expr (he : PE X e te) (hs : swapsWith e none pos.line X.env = pure false := by rfl) : PS X (.Expr e pos) (tDrop te) := by
  intro pins s σ H D I h
  exact wpAny_Expr_any (thn (he pins s σ H _ I h) fun v s1 ⟨x, H1, I1, r1, q1⟩ => ⟨σ, H1, I1, q1⟩) I.quiet hs
noncomputable def tRet (te : TE) : TS := fun D σ H => te σ H D.rt
theorem ps_ret (he : PE X e te) : PS X (.Return (some e) pos) (tRet te) := by
  intro pins s σ H D I h
  exact wpAny_Return_some (thn (he pins s σ H _ I h) fun v s1 ⟨x, H1, I1, r1, q1⟩ => ⟨x, σ, H1, I1, r1, q1⟩)
noncomputable def tIfS (c : TT) (t u : TS) : TS := fun D σ H => c σ H fun b H1 => if b = true then t D σ H1 else u D σ H1
theorem ps_if {c : Expr} {a b : List Stmt} {tc : TT} (hc : PT X c tc) (ha : PSs X a t) (hb : PSs X b u) : PS X (.If c a b pos) (tIfS tc t u) := by
  intro pins s σ H D I h
  refine wpAny_If (thn (hc pins s σ H _ I h) fun d s1 ⟨H1, I1, q1⟩ => ?_)
  cases d with
  | true => exact ha pins s1 σ H1 D I1 q1
  | false => exact hb pins s1 σ H1 D I1 q1
noncomputable def tNever : TS := fun _ _ _ => False
theorem ps_never : PS X st tNever := fun _ _ _ _ _ _ h => h.elim
end
noncomputable abbrev TG := V → St → Hp → (St → Hp → Prop) → Prop
noncomputable abbrev TGs := List V → St → Hp → (St → Hp → Prop) → Prop
noncomputable def PG (X : Cx) (target : Expr) (t : TG) : Prop :=
  ∀ (pins : List (Addr × Obj)) (s : Shared) (σ : St) (H : Hp) (v : V) (u : Value) (Q : St → Hp → Prop), Inv X pins σ H s → RelV v u → t v σ H Q →
    wpAny (model X.prog X.w) X.A (assign target X.env u) (fun _ s' => ∃ σ' H', Inv X pins σ' H' s' ∧ Q σ' H') X.xe s
noncomputable def PGs (X : Cx) (ts : List Expr) (t : TGs) : Prop :=
  ∀ (pins : List (Addr × Obj)) (s : Shared) (σ : St) (H : Hp) (vs : List V) (us : List Value) (Q : St → Hp → Prop), Inv X pins σ H s → Vals vs us → t vs σ H Q →
    wpAny (model X.prog X.w) X.A (assignInOrder ((assignEach ts X.env).map (·.2)) us) (fun _ s' => ∃ σ' H', Inv X pins σ' H' s' ∧ Q σ' H') X.xe s
noncomputable abbrev TSet := V → V → V → Hp → (Hp → Prop) → Prop
noncomputable def PSet (X : Cx) (t : TSet) : Prop :=
  ∀ (pins : List (Addr × Obj)) (s : Shared) (σ : St) (H : Hp) (o i v : V) (ov iv u : Value) (Q : Hp → Prop), Inv X pins σ H s → RelV o ov → RelV i iv → RelV v u → t o i v H Q →
    wpAny (model X.prog X.w) X.A (setItem ov iv u) (fun _ s' => ∃ H', Inv X pins σ H' s' ∧ Q H') X.xe s
section
variable {X : Cx} {pos : Pos}
noncomputable def gName (i : Nat) : TG := fun v σ H Q => Q (σ.set i (some v)) H
theorem pg_name {i : Nat} {x : Str} (hN : X.N.Nodup) (hi : X.N[i]? = some x) (hx : Loc X.env.scope x) (hf : X.fn x = true ∨ X.env.scope.names.lookup x = some .local := by first | exact .inl rfl | exact .inr rfl | assumption) : PG X (.Name x pos) (gName i) := by
  intro pins s σ H v u Q I r h
  exact wpAny_assign_Name (store_ok I hN hi hx r (fun s' I' => ⟨_, H, I', h⟩) hf)
noncomputable def gNil : TGs := fun vs σ H Q => vs = [] ∧ Q σ H
noncomputable def gCons (t : TG) (u : TGs) : TGs := fun vs σ H Q => ∃ v r, vs = v :: r ∧ t v σ H fun σ' H' => u r σ' H' Q
theorem pgs_nil : PGs X [] gNil := by
  intro pins s σ H vs us Q I r h
  obtain ⟨e, h⟩ := h
  subst e
  cases r
  exact assignInOrder_nil ⟨σ, H, I, h⟩
theorem pgs_cons {e : Expr} {es : List Expr} {t : TG} {u : TGs} (h1 : PG X e t) (h2 : PGs X es u)
    (hs : (assignEach (e :: es) X.env).map (·.2) = assign e X.env :: (assignEach es X.env).map (·.2) := by rfl) : PGs X (e :: es) (gCons t u) := by
  intro pins s σ H vs us Q I r h
  obtain ⟨v, vr, e1, h⟩ := h
  subst e1
  cases r with
  | cons r rr =>
    rw [hs]
    refine assignInOrder_cons (thn (h1 pins s σ H _ _ _ I r h) fun _ s1 ⟨σ1, H1, I1, q1⟩ => ?_)
    exact h2 pins s1 σ1 H1 _ _ Q I1 rr q1
noncomputable def gTup (K : PySem.W.Frag) (n : Nat) (t : TGs) : TG := fun v σ H Q => ∃ a xs, v = .ref a ∧ SqT K H a xs ∧ xs.length = n ∧ t xs σ H Q
theorem pg_tup {es : List Expr} {k : Nat} {t : TGs} {n : Nat} (hc : X.calm = true) (h : PGs X es t)
    (hn : (assignEach es X.env).length = n := by rfl) (hst : (assignEach es X.env).findIdx? (·.1) = none := by rfl) : PG X (.Tuple es k pos) (gTup X.K n t) := by
  intro pins s σ H v u Q I r hw
  obtain ⟨a, xs, e1, hq, hl, hw⟩ := hw
  subst e1
  cases r
  obtain ⟨its, rv, ht, hz⟩ := I.tuple hq
  refine assign_Tuple_tuple (I.ok.hd hc) ht (by simp [hn, ← hl, rv.length]) hst fun h' hx => ?_
  have I1 : Inv X pins σ H { s with heap := h' } := I.kept (t' := s.toks) fun b o e => hx b o (Nat.ne_of_lt (Heap.lt_size e)) e
  exact h pins _ σ H xs _ Q I1 (by simpa using rv) hw
noncomputable def gSub (to ti : TE) (t : TSet) : TG := fun v σ H Q => to σ H fun o H1 => ti σ H1 fun i H2 => t o i v H2 fun H3 => Q σ H3
theorem pg_sub {o i : Expr} {to ti : TE} {t : TSet} (ho : PE X o to) (hi : PE X i ti) (hs : PSet X t)
    (ha : ∀ v, assign (.Subscript o i pos) X.env v = (do
      let ov ← holding [v] (eval o X.env)
      let iv ← holding [v, ov] (eval i X.env)
      standAt pos
      holding [v, ov, iv] (setItem ov iv v)
      release [v, ov, iv] []) := by intro _; rfl) : PG X (.Subscript o i pos) (gSub to ti t) := by
  intro pins s σ H v u Q I r h
  rw [ha]
  refine wpAny_bind (wpAny_holding (thn (ho pins s σ H _ I h) fun ov s1 ⟨x, H1, I1, r1, q1⟩ => ?_))
  refine wpAny_bind (wpAny_holding (thn (hi pins s1 σ H1 _ I1 q1) fun iv s2 ⟨y, H2, I2, r2, q2⟩ => ?_))
  refine wpAny_bind (wpAny_standAt (wpAny_bind (wpAny_holding (thn (hs pins s2 σ H2 x y v ov iv u _ I2 r1 r2 r q2) fun _ s3 ⟨H3, I3, q3⟩ => ?_))))
  exact wpAny_release ⟨σ, H3, I3, q3⟩
noncomputable def tAsg (te : TE) (g : TG) : TS := fun D σ H => te σ H fun x H1 => g x σ H1 D.nx
theorem ps_asg {tg e : Expr} {te : TE} {g : TG} (he : PE X e te) (hg : PG X tg g) (hs : swapsWithSole [tg] e pos.line X.env = pure false := by rfl) (hw : swappedStores [tg] e X.env = pure none := by rfl)
    (h1 : (assignEach [tg] X.env).map (·.2) = [assign tg X.env] := by rfl) : PS X (.Assign [tg] e pos) (tAsg te g) := by
  intro pins s σ H D I h
  refine wpAny_Assign_stores (thn (he pins s σ H _ I h) fun v s1 ⟨x, H1, I1, r1, q1⟩ => ?_) hs hw
  rw [h1]
  exact thn (hg pins s1 σ H1 x v _ I1 r1 q1) fun _ s2 q => q
theorem ps_set {i : Nat} {x : Str} {e : Expr} {te : TE} {pos' : Pos} (hN : X.N.Nodup) (hi : X.N[i]? = some x) (hx : Loc X.env.scope x) (he : PE X e te) (hs : swapsWith e (some (.Name x pos')) pos.line X.env = pure false := by rfl) (hf : X.fn x = true ∨ X.env.scope.names.lookup x = some .local := by first | exact .inl rfl | exact .inr rfl | assumption) :
    PS X (.Assign [.Name x pos'] e pos) (tAsg te (gName i)) := by
  intro pins s σ H D I h
  refine wpAny_Assign_Name (thn (he pins s σ H _ I h) fun v s1 ⟨y, H1, I1, r1, q1⟩ => ?_) hs
  exact store_ok I1 hN hi hx r1 (fun s2 I2 => ⟨_, H1, I2, q1⟩) hf
end
section
variable {X : Cx} {pos : Pos}
end
structure It where
  go : Nat → Hp → Prop
  yld : Nat → Hp → V → Hp → Prop
  stop : Nat → Hp → Prop
noncomputable def FpOk (X : Cx) (pins : List (Addr × Obj)) (H : Hp) (b : Addr) : Prop :=
  H b = none ∧ b ≠ X.env.locals ∧ b ∉ X.fs ∧ (b ∈ X.ex ∨ X.s₀.heap.objs.size ≤ b) ∧ (∀ x c, X.env.cells.lookup x = some c → c ≠ b) ∧ ∀ p ∈ X.pn ++ pins, p.1 ≠ b
theorem Inv.fpOk {X : Cx} {pins : List (Addr × Obj)} {σ : St} {H H' : Hp} {s : Shared} {b : Addr} (I : Inv X pins σ H s) (hb : s.heap.objs.size ≤ b) (hn : H' b = none) : FpOk X pins H' b := by
  refine ⟨hn, Nat.ne_of_gt (Nat.lt_of_lt_of_le I.lt hb), I.nofs hb, .inr (Nat.le_trans I.sz hb), fun x c e z => ?_, fun p hp z => ?_⟩
  · obtain ⟨v, q⟩ := I.cell x c e
    exact absurd (Nat.lt_of_lt_of_le q.lt (by rw [z]; exact hb)) (Nat.lt_irrefl _)
  · exact absurd (Nat.lt_of_lt_of_le (Heap.lt_size (I.pin p hp).1) (by rw [z]; exact hb)) (Nat.lt_irrefl _)
structure Turn (P : Program) (w : World) (K : PySem.W.Frag) (tg : Expr) (J : It) (fp : List Addr) (it : Addr) (tn : Nat → Heap → Prop) : Prop where
  mem : it ∈ fp
  obj : ∀ i h, tn i h → ∀ b ∈ fp, ∃ o, h.get? b = some o ∧ ∀ v, o.data ≠ .cell v
  keep : ∀ i h h', tn i h → (∀ b ∈ fp, ∀ o, h.get? b = some o → h'.get? b = some o) → tn i h'
  item : ∀ (X : Cx), X.prog = P → X.w = w → X.K = K → X.calm = true → ∀ (i : Nat) (pins : List (Addr × Obj)) (s : Shared) (σ : St) (H : Hp) (E : Value → Shared → Prop), Inv X pins σ H s → (∀ b ∈ fp, FpOk X pins H b) → tn i s.heap → J.go i H →
    wpAny (model P w) X.A (pyNext (.ref it)) (fun r s1 => ∃ u, r = some u ∧
      wpAny (model P w) X.A (letOwnedTupleGo tg (.ref it) u) (fun _ s2 => ∃ x H', Inv X pins σ H' s2 ∧ RelV x u ∧ J.yld i H x H' ∧ tn (i + 1) s2.heap ∧ ∀ b ∈ fp, H' b = none) E s1) E s
  done : ∀ (X : Cx), X.prog = P → X.w = w → X.K = K → X.calm = true → ∀ (i : Nat) (pins : List (Addr × Obj)) (s : Shared) (σ : St) (H : Hp) (E : Value → Shared → Prop), Inv X pins σ H s → (∀ b ∈ fp, FpOk X pins H b) → tn i s.heap → J.stop i H →
    wpAny (model P w) X.A (pyNext (.ref it)) (fun r s1 => r = none ∧ Inv X pins σ H s1) E s
  self : ∀ (A : Around) (i : Nat) (s : Shared) (Q : Value → Shared → Prop) (E : Value → Shared → Prop), tn i s.heap → Q (.ref it) s → wpAny (model P w) A (pyIter (.ref it)) Q E s
noncomputable abbrev TI := St → Hp → (It → Hp → Prop) → Prop
noncomputable def PIE (X : Cx) (pins : List (Addr × Obj)) (σ : St) (tg : Expr) (R : It → Hp → Prop) (itv : Value) (s2 : Shared) : Prop :=
  ∃ (it : Addr) (fp : List Addr) (tn : Nat → Heap → Prop) (J : It) (H' : Hp), itv = .ref it ∧ Inv X pins σ H' s2 ∧ Turn X.prog X.w X.K tg J fp it tn ∧ tn 0 s2.heap ∧ (∀ b ∈ fp, FpOk X pins H' b) ∧ R J H'
noncomputable def PI (X : Cx) (tg iter : Expr) (wi : TI) : Prop :=
  ∀ (pins : List (Addr × Obj)) (s : Shared) (σ : St) (H : Hp) (R : It → Hp → Prop), Inv X pins σ H s → wi σ H R →
    wpAny (model X.prog X.w) X.A (eval iter X.env) (fun v s1 => wpAny (model X.prog X.w) X.A (pyIter v) (PIE X pins σ tg R) X.xe s1) X.xe s
theorem go_of {M : Model} {A : Around} {E : Value → Shared → Prop} {s : Shared} {tg : Expr} {it : Addr} {u : Value} {o : Obj} {n : String} {vs : Array Value} {Q : Unit → Shared → Prop} (ho : s.heap.get? it = some o) (hc : o.cls = .type n) (hd : o.data = .fields vs)
    (hn : ["enumerate", "zip", "dict_itemiterator", "dict_reverseitemiterator", "odict_iterator", "itertools.zip_longest", "itertools.pairwise"].contains n = false) (hQ : Q () s) : wpAny M A (letOwnedTupleGo tg (.ref it) u) Q E s := by
  unfold letOwnedTupleGo
  cases tg <;> first
    | exact wpAny_pure hQ
    | (cases u <;> first
        | exact wpAny_pure hQ
        | (refine wpAny_bind (wpAny_load ho ?_)
           rw [hc, hd]
           show wpAny M A (if (["enumerate", "zip", "dict_itemiterator", "dict_reverseitemiterator", "odict_iterator", "itertools.zip_longest", "itertools.pairwise"].contains n && vs[0]? == some (rawInt _)) = true then _ else _) Q E s
           rw [if_neg (by intro h; rw [hn, Bool.false_and] at h; cases h)]
           exact wpAny_pure hQ))
noncomputable def Itl (K : PySem.W.Frag) (a : Addr) : It :=
  ⟨fun i H => ∃ xs x, SqL K H a xs ∧ xs[i]? = some x, fun i H x H' => H' = H ∧ ∀ xs, SqL K H a xs → xs[i]? = some x, fun i H => ∃ xs, SqL K H a xs ∧ xs.length ≤ i⟩
noncomputable def Itt (K : PySem.W.Frag) (a : Addr) : It :=
  ⟨fun i H => ∃ xs x, SqT K H a xs ∧ xs[i]? = some x, fun i H x H' => H' = H ∧ ∀ xs, SqT K H a xs → xs[i]? = some x, fun i H => ∃ xs, SqT K H a xs ∧ xs.length ≤ i⟩
noncomputable def Itr (lo : Int) (n : Nat) : It := ⟨fun i _ => i < n, fun i H x H' => H' = H ∧ x = .int (lo + i), fun i _ => n ≤ i⟩
theorem turn_list {P : Program} {w : World} {K : PySem.W.Frag} {tg : Expr} (a it : Addr) : Turn P w K tg (Itl K a) [it] it (fun i h => h.IsListIter it a i) where
  mem := by simp
  obj := fun i h st b hb => by
    have e : b = it := by simpa using hb
    subst e
    obtain ⟨o, e, c, d⟩ := st
    exact ⟨o, e, fun v z => by rw [d] at z; cases z⟩
  keep := fun i h h' st k => st.at fun o e => k it (by simp) o e
  item := by
    intro X hP hw hK hc i pins s σ H E I hf st hg
    subst hP hw hK
    obtain ⟨xs, x, hq, hx⟩ := hg
    obtain ⟨its, rv, p, hz⟩ := I.list hq
    obtain ⟨u, hu, ru⟩ := rv.get hx
    obtain ⟨f0, f1, f2, f3, f4, f5⟩ := hf it (by simp)
    refine wpAny_pyNext_list_item st p.isList (x := u) (by simpa using hu) fun h' st' sb => ?_
    have I1 : Inv X pins σ H { s with heap := h' } := I.turned (t' := s.toks) (fun b o hb e => (sb.2 b hb).trans e) f0 f1 f3 f4 f5
    obtain ⟨o, e, c, d⟩ := id st'
    exact ⟨u, rfl, go_of (s := { s with heap := h' }) e c d (by decide) ⟨x, H, I1, ru, ⟨rfl, fun ys hy => by rw [I.list_inj hy hq]; exact hx⟩, st', fun b hb => (hf b hb).1⟩⟩
  done := by
    intro X hP hw hK hc i pins s σ H E I hf st hg
    subst hP hw hK
    obtain ⟨xs, hq, hx⟩ := hg
    obtain ⟨its, rv, p, hz⟩ := I.list hq
    obtain ⟨f0, f1, f2, f3, f4, f5⟩ := hf it (by simp)
    have hl := rv.length
    exact wpAny_pyNext_list_end (I.ok.hd hc) st p.isList (by simp; omega) fun h' eb => ⟨rfl, I.turned (t' := s.toks) (fun b o hb e => eb b o hb e) f0 f1 f3 f4 f5⟩
  self := fun _ _ _ _ _ st h => wpAny_pyIter_listiter st h
theorem turn_tuple {P : Program} {w : World} {K : PySem.W.Frag} {tg : Expr} (a it : Addr) : Turn P w K tg (Itt K a) [it] it (fun i h => h.IsTupleIter it a i) where
  mem := by simp
  obj := fun i h st b hb => by
    have e : b = it := by simpa using hb
    subst e
    obtain ⟨o, e, c, d⟩ := st
    exact ⟨o, e, fun v z => by rw [d] at z; cases z⟩
  keep := fun i h h' st k => st.at fun o e => k it (by simp) o e
  item := by
    intro X hP hw hK hc i pins s σ H E I hf st hg
    subst hP hw hK
    obtain ⟨xs, x, hq, hx⟩ := hg
    obtain ⟨its, rv, p, hz⟩ := I.tuple hq
    obtain ⟨u, hu, ru⟩ := rv.get hx
    obtain ⟨f0, f1, f2, f3, f4, f5⟩ := hf it (by simp)
    refine wpAny_pyNext_tuple_item st (show s.heap.IsTuple a its.toArray from p) (x := u) (by simpa using hu) fun h' st' sb => ?_
    have I1 : Inv X pins σ H { s with heap := h' } := I.turned (t' := s.toks) (fun b o hb e => (sb.2 b hb).trans e) f0 f1 f3 f4 f5
    obtain ⟨o, e, c, d⟩ := id st'
    exact ⟨u, rfl, go_of (s := { s with heap := h' }) e c d (by decide) ⟨x, H, I1, ru, ⟨rfl, fun ys hy => by rw [I.tuple_inj hy hq]; exact hx⟩, st', fun b hb => (hf b hb).1⟩⟩
  done := by
    intro X hP hw hK hc i pins s σ H E I hf st hg
    subst hP hw hK
    obtain ⟨xs, hq, hx⟩ := hg
    obtain ⟨its, rv, p, hz⟩ := I.tuple hq
    obtain ⟨f0, f1, f2, f3, f4, f5⟩ := hf it (by simp)
    have hl := rv.length
    exact wpAny_pyNext_tuple_end (I.ok.hd hc) st (show s.heap.IsTuple a its.toArray from p) (by simp; omega) fun h' eb => ⟨rfl, I.turned (t' := s.toks) (fun b o hb e => eb b o hb e) f0 f1 f3 f4 f5⟩
  self := fun _ _ _ _ _ st h => wpAny_pyIter_tupleiter st h
theorem turn_range {P : Program} {w : World} {K : PySem.W.Frag} {tg : Expr} (it : Addr) (lo : Int) (n : Nat) : Turn P w K tg (Itr lo n) [it] it (fun i h => IsRangeIter h it (lo + (i : Nat) * 1) ((n : Int) - (i : Nat)) 1) where
  mem := by simp
  obj := fun i h st b hb => by
    have e : b = it := by simpa using hb
    subst e
    exact ⟨_, st, fun v z => by
      have z' : Data.fields _ = Data.cell v := z
      cases z'⟩
  keep := fun i h h' st k => k it (by simp) _ st
  item := by
    intro X hP hw hK hc i pins s σ H E I hf st hg
    subst hP hw hK
    obtain ⟨f0, f1, f2, f3, f4, f5⟩ := hf it (by simp)
    have W := Walks.range (prog := X.prog) (w := X.w) (I.ok.hd hc) it lo 1 n
    refine W.item i s _ _ hg st fun v h' tk hv st' kk => ?_
    obtain ⟨t, rfl⟩ := hv
    have I1 : Inv X pins σ H { s with heap := h', toks := tk } := I.turned (fun b o hb e => kk b o (by simpa using hb) e) f0 f1 f3 f4 f5
    refine ⟨_, rfl, go_of (s := { s with heap := h', toks := tk }) (n := "range_iterator") st' rfl rfl (by decide) ⟨.int (lo + i), H, I1, ⟨t, ?_⟩, ⟨rfl, rfl⟩, st', fun b hb => (hf b hb).1⟩⟩
    rw [Int.mul_one]
  done := by
    intro X hP hw hK hc i pins s σ H E I hf st hg
    subst hP hw hK
    obtain ⟨f0, f1, f2, f3, f4, f5⟩ := hf it (by simp)
    exact wpAny_pyNext_range_end (I.ok.hd hc) st (by have : n ≤ i := hg; omega) fun h' eb => ⟨rfl, I.turned (t' := s.toks) (fun b o hb e => eb b o hb e) f0 f1 f3 f4 f5⟩
  self := fun _ _ _ _ _ st h => wpAny_pyIter_rangeiter st h
end L2
namespace L2
open PySem PySem.Spec PyProof.Rows
section
variable {X : Cx} {tg : Expr}
noncomputable def iList (K : PySem.W.Frag) (tl : TE) : TI := fun σ H R => tl σ H fun x H1 => ∃ a, x = .ref a ∧ (∃ xs, SqL K H1 a xs) ∧ R (Itl K a) H1
noncomputable def iTup (K : PySem.W.Frag) (tl : TE) : TI := fun σ H R => tl σ H fun x H1 => ∃ a, x = .ref a ∧ (∃ xs, SqT K H1 a xs) ∧ R (Itt K a) H1
theorem pi_list {l : Expr} {tl : TE} (hl : PE X l tl) : PI X tg l (iList X.K tl) := by
  intro pins s σ H R I h
  refine thn (hl pins s σ H _ I h) fun v s1 ⟨x, H1, I1, r1, q1⟩ => ?_
  obtain ⟨a, e, ⟨xs, hq⟩, q⟩ := q1
  subst e
  cases r1
  obtain ⟨its, rv, p, hz⟩ := I1.list hq
  refine wpAny_pyIter_list p.isList ?_
  refine ⟨s1.heap.objs.size, [s1.heap.objs.size], _, _, H1, rfl, I1.kept (t' := s1.toks) fun b o e => Heap.get?_push_of_some _ e, turn_list a _, ⟨_, Heap.get?_push_size _ rfl, rfl, rfl⟩, fun b hb => ?_, q⟩
  have e : b = s1.heap.objs.size := by simpa using hb
  subst e
  exact I1.fpOk (Nat.le_refl _) (I1.hok.fresh (Nat.le_refl _))
theorem pi_tup {l : Expr} {tl : TE} (hl : PE X l tl) : PI X tg l (iTup X.K tl) := by
  intro pins s σ H R I h
  refine thn (hl pins s σ H _ I h) fun v s1 ⟨x, H1, I1, r1, q1⟩ => ?_
  obtain ⟨a, e, ⟨xs, hq⟩, q⟩ := q1
  subst e
  cases r1
  obtain ⟨its, rv, p, hz⟩ := I1.tuple hq
  refine wpAny_pyIter_tuple (show s1.heap.IsTuple a its.toArray from p) ?_
  refine ⟨s1.heap.objs.size, [s1.heap.objs.size], _, _, H1, rfl, I1.kept (t' := s1.toks) fun b o e => Heap.get?_push_of_some _ e, turn_tuple a _, ⟨_, Heap.get?_push_size _ rfl, rfl, rfl⟩, fun b hb => ?_, q⟩
  have e : b = s1.heap.objs.size := by simpa using hb
  subst e
  exact I1.fpOk (Nat.le_refl _) (I1.hok.fresh (Nat.le_refl _))
theorem range_it {pins : List (Addr × Obj)} {σ : St} {H : Hp} {s : Shared} {R : It → Hp → Prop} {E : Value → Shared → Prop} {lo hi : Int} {t u v : Tok} {tk : Nat} (I : Inv X pins σ H s) (h1 : -(2 ^ 62) ≤ lo) (h2 : lo < 2 ^ 62) (h3 : -(2 ^ 62) ≤ hi) (h4 : hi < 2 ^ 62)
    (q : R (Itr lo (hi - lo).toNat) H) : wpAny (model X.prog X.w) X.A (pyIter (.ref s.heap.objs.size)) (PIE X pins σ tg R) E { s with heap := s.heap.push { cls := .type "range", data := .fields #[.int lo t, .int hi u, .int 1 v] }, toks := tk } := by
  refine wpAny_pyIter_range (IsRange.new ..) (small_one h1 h2 h3 h4) ?_
  have I1 : Inv X pins σ H { s with heap := s.heap.push { cls := .type "range", data := .fields #[.int lo t, .int hi u, .int 1 v] }, toks := tk } := I.kept fun b o e => Heap.get?_push_of_some _ e
  refine ⟨(s.heap.push { cls := .type "range", data := .fields #[.int lo t, .int hi u, .int 1 v] }).objs.size, [(s.heap.push { cls := .type "range", data := .fields #[.int lo t, .int hi u, .int 1 v] }).objs.size], _, _, H, rfl,
    I1.kept (t' := tk) fun b o e => Heap.get?_push_of_some _ e, turn_range _ lo (hi - lo).toNat, ?_, fun b hb => ?_, q⟩
  · have e1 : lo + ((0 : Nat) : Int) * 1 = lo := by simp
    have e2 : (((hi - lo).toNat : Nat) : Int) - ((0 : Nat) : Int) = Builtin.Range.rangeSize lo hi 1 := by rw [rangeSize_one]; split <;> omega
    show IsRangeIter _ _ (lo + ((0 : Nat) : Int) * 1) ((((hi - lo).toNat : Nat) : Int) - ((0 : Nat) : Int)) 1
    rw [e1, e2]
    exact Heap.get?_push_size _ rfl
  · have e : b = (s.heap.push { cls := .type "range", data := .fields #[.int lo t, .int hi u, .int 1 v] }).objs.size := by simpa using hb
    subst e
    exact I1.fpOk (Nat.le_refl _) (I1.hok.fresh (Nat.le_refl _))
noncomputable def iRng1 (ta : TA) : TI := fun σ H R => ta σ H fun vs H1 => ∃ j : Int, vs = [.int j] ∧ -(2 ^ 62) ≤ j ∧ j < 2 ^ 62 ∧ R (Itr 0 j.toNat) H1
theorem pi_range1 {a : Expr} {ta : TA} {p pos : Pos} (hg : Gl X "range") (hm : X.mg "range" = none) (ha : PA X [a] ta) (hs : starEach [a] X.env = [(false, eval a X.env)] := by rfl) : PI X tg (.Call (.Name "range" p) [a] [] pos) (iRng1 ta) := by
  intro pins s σ H R I h
  refine Call_ (ld_blt I hg hm boot_range (PyProof.Rows.callWith_type1 (thn (ha pos pins s σ H _ I h) fun us s1 ⟨vs, H1, I1, r1, q1⟩ => ?_) hs rfl))
  obtain ⟨j, e, q1, q2, q⟩ := q1
  subst e
  cases r1 with
  | cons r rr =>
    cases rr
    obtain ⟨t, rfl⟩ := r
    exact call_range_1 (range_it I1 (by omega) (by omega) q1 q2 (by simpa using q))
noncomputable def tFor (wi : TI) (g : TG) (tb : TS) : TS := fun D σ H => wi σ H fun J H1 => ∃ W : Nat → Nat → St → Hp → Prop, (∃ m, W 0 m σ H1) ∧ ∀ i m σ H, W i m σ H →
  (J.stop i H ∧ D.nx σ H) ∨ (J.go i H ∧ ∃ N : St → Hp → Prop, (∀ σ' H', N σ' H' → ∃ m', m' < m ∧ W (i + 1) m' σ' H') ∧ ∀ x H', J.yld i H x H' → g x σ H' fun σ2 H2 => tb { D with nx := N, ct := N, bk := D.nx } σ2 H2)
noncomputable def pinsAt (fp : List Addr) (h : Heap) : List (Addr × Obj) := fp.filterMap fun b => (h.get? b).map fun o => (b, o)
theorem mem_pinsAt {fp : List Addr} {h : Heap} {b : Addr} {o : Obj} (hb : b ∈ fp) (e : h.get? b = some o) : (b, o) ∈ pinsAt fp h := List.mem_filterMap.mpr ⟨b, hb, by rw [e]; rfl⟩
theorem of_pinsAt {fp : List Addr} {h : Heap} {p : Addr × Obj} (hp : p ∈ pinsAt fp h) : p.1 ∈ fp ∧ h.get? p.1 = some p.2 := by
  obtain ⟨b, hb, e⟩ := List.mem_filterMap.mp hp
  cases q : h.get? b with
  | none => rw [q] at e; cases e
  | some o =>
    rw [q] at e
    have e' : (b, o) = p := Option.some.inj e
    subst e'
    exact ⟨hb, q⟩
theorem Inv.pinned {pins : List (Addr × Obj)} {σ : St} {H : Hp} {s : Shared} {fp : List Addr} (I : Inv X pins σ H s) (hf : ∀ b ∈ fp, FpOk X pins H b) (ho : ∀ b ∈ fp, ∃ o, s.heap.get? b = some o ∧ ∀ v, o.data ≠ .cell v) : Inv X (pins ++ pinsAt fp s.heap) σ H s :=
  I.pins_of fun p hp => (List.mem_append.mp hp).elim (fun z => I.pin p (List.mem_append_right _ z)) fun z => by
    obtain ⟨hb, e⟩ := of_pinsAt z
    obtain ⟨f0, f1, f2, _⟩ := hf p.1 hb
    obtain ⟨o, e', d⟩ := ho p.1 hb
    rw [e] at e'; cases e'
    exact ⟨e, f0, f1, f2, d⟩
theorem Inv.unpinned {pins pl : List (Addr × Obj)} {σ : St} {H : Hp} {s : Shared} (I : Inv X (pins ++ pl) σ H s) : Inv X pins σ H s := I.pins_of fun p hp => I.pin p (List.mem_append_right _ (List.mem_append_left _ hp))
theorem ps_for {iter : Expr} {body : List Stmt} {wi : TI} {g : TG} {tb : TS} {pos : Pos} (hp : PassesOwn (model X.prog X.w) X.A X.env X.xe) (hc : X.calm = true) (hi : PI X tg iter wi) (hg : PG X tg g) (hb : PSs X body tb)
    (hs : ∀ x, foldedSetIterable iter X.env x = pure x := by intro _; rfl) : PS X (.For tg iter body [] pos) (tFor wi g tb) := by
  intro pins s σ H D I h
  refine wpAny_For (thn (hi pins s σ H _ I h) fun v s1 h1 => thn h1 fun itv s2 h2 => ?_) hs
  obtain ⟨it, fp, tn, J, H2, e, I2, T, st2, f2, W, ⟨m0, w0⟩, turn⟩ := h2
  subst e
  have stat : ∀ {H' : Hp}, (∀ b ∈ fp, H' b = none) → ∀ b ∈ fp, FpOk X pins H' b := fun hn b hb => ⟨hn b hb, (f2 b hb).2⟩
  refine codeAny_forLoop_any (fun n s' => ∃ i σ' H', Inv X pins σ' H' s' ∧ tn i s'.heap ∧ (∀ b ∈ fp, H' b = none) ∧ W i n σ' H') ?_ m0 ⟨0, σ, H2, I2, st2, fun b hb => (f2 b hb).1, w0⟩
  rintro n s3 ⟨i, σ3, H3, I3, st3, fr3, w3⟩
  rcases turn i n σ3 H3 w3 with ⟨stop, qn⟩ | ⟨go, N, hN, step⟩
  · refine wpAny_passesOwn hp (thn (T.done X rfl rfl rfl hc i pins s3 σ3 H3 X.xe I3 (stat fr3) st3 stop) fun r s4 ⟨hr, I4⟩ => ?_)
    subst hr
    exact wpAny_execs_nil ⟨σ3, H3, I4, qn⟩
  · refine wpAny_passesOwn hp (thn (T.item X rfl rfl rfl hc i pins s3 σ3 H3 X.xe I3 (stat fr3) st3 go) fun r s4 ⟨u, hr, h4⟩ => ?_)
    subst hr
    refine wpAny_passesOwn hp (thn h4 fun _ s5 ⟨x, H5, I5, r5, y5, st5, fr5⟩ => ?_)
    have I5' := I5.pinned (stat fr5) (T.obj _ _ st5)
    refine wpAny_passesOwn hp (thn (hg _ s5 σ3 H5 x u _ I5' r5 (step x H5 y5)) fun _ s6 ⟨σ6, H6, I6, q6⟩ => ?_)
    refine wpAny_passesOwn hp (thn (hb _ s6 σ6 H6 _ I6 q6) fun f s7 q7 => ?_)
    have again : ∀ {σ7 : St} {H7 : Hp}, Inv X (pins ++ pinsAt fp s5.heap) σ7 H7 s7 → N σ7 H7 → ∃ m, m < n ∧ ∃ i σ' H', Inv X pins σ' H' s7 ∧ tn i s7.heap ∧ (∀ b ∈ fp, H' b = none) ∧ W i m σ' H' := fun {σ7 H7} I7 n7 => by
      obtain ⟨m', hm, w7⟩ := hN σ7 H7 n7
      refine ⟨m', hm, i + 1, σ7, H7, I7.unpinned, T.keep _ _ _ st5 fun b hb o e => (I7.pin (b, o) (List.mem_append_right _ (List.mem_append_right _ (mem_pinsAt hb e)))).1, fun b hb => ?_, w7⟩
      obtain ⟨o, e, d⟩ := T.obj _ _ st5 b hb
      exact (I7.pin (b, o) (List.mem_append_right _ (List.mem_append_right _ (mem_pinsAt hb e)))).2.1
    cases f with
    | next => obtain ⟨σ7, H7, I7, n7⟩ := q7; exact again I7 n7
    | cont => obtain ⟨σ7, H7, I7, n7⟩ := q7; exact again I7 n7
    | brk => obtain ⟨σ7, H7, I7, q7⟩ := q7; exact ⟨σ7, H7, I7.unpinned, q7⟩
    | ret v => obtain ⟨x7, σ7, H7, I7, r7, q7⟩ := q7; exact ⟨x7, σ7, H7, I7.unpinned, r7, q7⟩
end
theorem for_list {K : PySem.W.Frag} {a : Addr} {xs : List V} {g : TG} {tb : TS} {D : Ends} {σ : St} {H : Hp} (Pv : Nat → St → Hp → Prop) (h0 : Pv 0 σ H) (hl : ∀ i σ H, i ≤ xs.length → Pv i σ H → SqL K H a xs)
    (hs : ∀ i x σ H, xs[i]? = some x → Pv i σ H → g x σ H fun σ2 H2 => tb { D with nx := Pv (i + 1), ct := Pv (i + 1), bk := D.nx } σ2 H2) (hd : ∀ σ H, Pv xs.length σ H → D.nx σ H) :
    ∃ W : Nat → Nat → St → Hp → Prop, (∃ m, W 0 m σ H) ∧ ∀ i m σ H, W i m σ H →
      ((Itl K a).stop i H ∧ D.nx σ H) ∨ ((Itl K a).go i H ∧ ∃ N : St → Hp → Prop, (∀ σ' H', N σ' H' → ∃ m', m' < m ∧ W (i + 1) m' σ' H') ∧ ∀ x H', (Itl K a).yld i H x H' → g x σ H' fun σ2 H2 => tb { D with nx := N, ct := N, bk := D.nx } σ2 H2) := by
  refine ⟨fun i m σ H => m = xs.length - i ∧ i ≤ xs.length ∧ Pv i σ H, ⟨xs.length, by simp, Nat.zero_le _, h0⟩, ?_⟩
  rintro i m σ H ⟨rfl, hi, p⟩
  have q := hl i σ H hi p
  by_cases hlt : i < xs.length
  · refine .inr ⟨⟨xs, xs[i], q, by simp [hlt]⟩, Pv (i + 1), fun σ' H' p' => ⟨xs.length - (i + 1), by omega, rfl, hlt, p'⟩, fun x H' y => ?_⟩
    obtain ⟨e, y⟩ := y
    subst e
    exact hs i x σ _ (y xs q) p
  · have e : i = xs.length := by omega
    subst e
    exact .inl ⟨⟨xs, q, Nat.le_refl _⟩, hd σ H p⟩
end L2
namespace L2
open PySem PySem.Spec PyProof.Rows
noncomputable abbrev R2 := V → V → Hp → VK → Prop
noncomputable def OpR (X : Cx) (f : Value → Value → Sem Value) (r : R2) : Prop :=
  ∀ (pins : List (Addr × Obj)) (s : Shared) (σ : St) (H : Hp) (x y : V) (v u : Value) (Q : VK), Inv X pins σ H s → RelV x v → RelV y u → r x y H Q →
    wpAny (model X.prog X.w) X.A (f v u) (EP X pins σ Q) X.xe s
noncomputable def CallR (X : Cx) (f : Value) (r : List V → Hp → VK → Prop) : Prop :=
  ∀ (pins : List (Addr × Obj)) (s : Shared) (σ : St) (H : Hp) (xs : List V) (us : List Value) (Q : VK), Inv X pins σ H s → Vals xs us → r xs H Q →
    wpAny (model X.prog X.w) X.A (call f us) (EP X pins σ Q) X.xe s
noncomputable def tOp (r : R2) (ta tb : TE) : TE := fun σ H Q => ta σ H fun x H1 => tb σ H1 fun y H2 => r x y H2 Q
noncomputable def rI (C : Int → Int → Prop) (g : Int → Int → V) : R2 := fun x y H Q => ∃ i j, x = .int i ∧ y = .int j ∧ C i j ∧ Q (g i j) H
noncomputable def rI0 (g : Int → Int → V) : R2 := fun x y H Q => ∃ i j, x = .int i ∧ y = .int j ∧ Q (g i j) H
section
variable {X : Cx} {a b c : Expr} {ta tb tc : TE} {pos : Pos}
theorem binT (ha : PE X a ta) (hb : PE X b tb) {pins : List (Addr × Obj)} {s : Shared} {σ : St} {H : Hp} {R : V → V → Hp → Prop} (I : Inv X pins σ H s)
    (h : ta σ H fun x H1 => tb σ H1 fun y H2 => R x y H2) {Q : Value → Shared → Prop} {f : Value → Value → Sem Value}
    (hf : ∀ v u s2 x y H2, Inv X pins σ H2 s2 → RelV x v → RelV y u → R x y H2 → wpAny (model X.prog X.w) X.A (f v u) Q X.xe s2) :
    wpAny (model X.prog X.w) X.A (eval a X.env) (fun v s₁ => wpAny (model X.prog X.w) X.A (eval b X.env) (fun u s₂ => wpAny (model X.prog X.w) X.A (f v u) Q X.xe s₂) X.xe s₁) X.xe s := by
  refine thn (ha pins s σ H _ I h) fun v s1 ⟨x, H1, I1, r1, q1⟩ => ?_
  refine thn (hb pins s1 σ H1 _ I1 q1) fun u s2 ⟨y, H2, I2, r2, q2⟩ => ?_
  exact hf v u s2 x y H2 I2 r1 r2 q2
theorem pe_op {op : Operator} {r : R2} (ho : OpR X (binaryOp op) r) (ha : PE X a ta) (hb : PE X b tb) : PE X (.BinOp a op b pos) (tOp r ta tb) := by
  intro pins s σ H Q I h
  exact wpAny_BinOp (binT ha hb I h fun v u s2 x y H2 I2 rx ry q => ho pins s2 σ H2 x y v u Q I2 rx ry q)
theorem opI {f : Value → Value → Sem Value} {C : Int → Int → Prop} {g : Int → Int → Int}
    (rule : ∀ (i j : Int) (t u : Tok) (s : Shared) (Q : Value → Shared → Prop) (E : Value → Shared → Prop), C i j → Q (.int (g i j) s.toks) { s with toks := s.toks + 1 } → wpAny (model X.prog X.w) X.A (f (.int i t) (.int j u)) Q E s) :
    OpR X f (rI C fun i j => .int (g i j)) := by
  intro pins s σ H x y v u Q I rx ry h
  obtain ⟨i, j, rfl, rfl, hc, q⟩ := h
  obtain ⟨t, rfl⟩ := rx
  obtain ⟨t', rfl⟩ := ry
  exact rule i j t t' s _ _ hc ⟨.int (g i j), H, I.tok _, ⟨_, rfl⟩, q⟩
theorem opI0 {f : Value → Value → Sem Value} {g : Int → Int → Int}
    (rule : ∀ (i j : Int) (t u : Tok) (s : Shared) (Q : Value → Shared → Prop) (E : Value → Shared → Prop), Q (.int (g i j) s.toks) { s with toks := s.toks + 1 } → wpAny (model X.prog X.w) X.A (f (.int i t) (.int j u)) Q E s) :
    OpR X f (rI0 fun i j => .int (g i j)) := by
  intro pins s σ H x y v u Q I rx ry h
  obtain ⟨i, j, rfl, rfl, q⟩ := h
  obtain ⟨t, rfl⟩ := rx
  obtain ⟨t', rfl⟩ := ry
  exact rule i j t t' s _ _ ⟨.int (g i j), H, I.tok _, ⟨_, rfl⟩, q⟩
theorem opB0 {f : Value → Value → Sem Value} {g : Int → Int → Bool}
    (rule : ∀ (i j : Int) (t u : Tok) (s : Shared) (Q : Value → Shared → Prop) (E : Value → Shared → Prop), Q (.bool (g i j)) s → wpAny (model X.prog X.w) X.A (f (.int i t) (.int j u)) Q E s) :
    OpR X f (rI0 fun i j => .bl (g i j)) := by
  intro pins s σ H x y v u Q I rx ry h
  obtain ⟨i, j, rfl, rfl, q⟩ := h
  obtain ⟨t, rfl⟩ := rx
  obtain ⟨t', rfl⟩ := ry
  exact rule i j t t' s _ _ ⟨.bl (g i j), H, I, rfl, q⟩
noncomputable def CDiv (i j : Int) : Prop := 0 < j ∧ j < 1073741824
noncomputable def CPow (i j : Int) : Prop := 0 ≤ j ∧ j ≤ 1000000 ∧ i.natAbs < 2 ^ 64
noncomputable def CMul (i j : Int) : Prop := (-(2 ^ 64) < i ∧ i < 2 ^ 64) ∨ (-(2 ^ 64) < j ∧ j < 2 ^ 64)
theorem CMul.ok {i j : Int} (h : CMul i j) : IntMulOk i j := by
  rcases h with ⟨h1, h2⟩ | ⟨h1, h2⟩
  · exact .of_left (intBits_le_64 h1 h2)
  · exact .of_right (intBits_le_64 h1 h2)
theorem op_add : OpR X (binaryOp .Add) (rI0 fun i j => .int (i + j)) := opI0 fun _ _ _ _ _ _ _ q => add_int q
theorem op_mul : OpR X (binaryOp .Mult) (rI CMul fun i j => .int (i * j)) := opI fun _ _ _ _ _ _ _ hc q => mul_int q hc.ok
theorem op_fdiv : OpR X (binaryOp .FloorDiv) (rI CDiv fun i j => .int (i / j)) := opI fun i j _ _ _ _ _ hc q => by
  have h1 : (0 : Int) < j := hc.1
  have h2 : j < 1073741824 := hc.2
  exact floordiv_int (by omega) (by rw [Int.fdiv_eq_ediv_of_nonneg i (by omega)]; exact q) (.inl (PyProof.noPylong_small (by omega)))
theorem op_mod : OpR X (binaryOp .Mod) (rI (fun _ j => 0 < j) fun i j => .int (i % j)) := opI fun i j _ _ _ _ _ hc q => by
  have h1 : (0 : Int) < j := hc
  exact mod_int' (by omega) (by rw [Int.fmod_eq_emod_of_nonneg i (by omega)]; exact q)
theorem op_pow : OpR X (binaryOp .Pow) (rI CPow fun i j => .int (i ^ j.toNat)) := opI fun _ _ _ _ _ _ _ hc q => pow_int_small hc.1 hc.2.1 hc.2.2 q
end
noncomputable def scal : V → V → Bool
  | .non, .non => true | .non, .int _ => true | .int _, .non => true | .non, .bl _ => true | .bl _, .non => true | .non, .str _ => true | .str _, .non => true
  | .int _, .int _ => true | .bl _, .bl _ => true | .str _, .str _ => true | .byt _, .byt _ => true
  | .int _, .str _ => true | .str _, .int _ => true | .bl _, .str _ => true | .str _, .bl _ => true
  | _, _ => false
noncomputable def rEq : R2 := fun x y H Q => scal x y = true ∧ Q (.bl (decide (x = y))) H
noncomputable def rNe : R2 := fun x y H Q => scal x y = true ∧ Q (.bl (!decide (x = y))) H
theorem dec_int {i j : Int} : decide (V.int i = V.int j) = (i == j) := by
  rw [Bool.eq_iff_iff]
  simp
theorem dec_bl {i j : Bool} : decide (V.bl i = V.bl j) = (i == j) := by
  rw [Bool.eq_iff_iff]
  simp
theorem dec_str {i j : Str} : decide (V.str i = V.str j) = (i == j) := by
  rw [Bool.eq_iff_iff]
  simp
theorem dec_byt {i j : Array UInt8} : decide (V.byt i = V.byt j) = (i.toList == j.toList) := by
  rw [Bool.eq_iff_iff]
  cases i
  cases j
  simp
section
variable {X : Cx} {a b c : Expr} {ta tb tc : TE} {pos : Pos}
theorem fin_bl {pins : List (Addr × Obj)} {σ : St} {H : Hp} {s : Shared} {Q : VK} {k k' : Bool} (I : Inv X pins σ H s) (q : Q (.bl k) H) (e : k = k') : EP X pins σ Q (.bool k') s := by
  subst e
  exact ⟨.bl k, H, I, rfl, q⟩
theorem op_eq : OpR X (compareOp .Eq) rEq := by
  intro pins s σ H x y v u Q I rx ry h
  obtain ⟨hs, q⟩ := h
  cases x with
  | non =>
    cases rx
    cases y with
    | non => cases ry; exact PySem.EqNone.eq_none_none (fin_bl I q (by simp))
    | bl j => cases ry; exact PySem.EqNone.eq_none_bool (fin_bl I q (by simp))
    | int j => obtain ⟨t', rfl⟩ := ry; exact PySem.EqNone.eq_none_int (fin_bl I q (by simp))
    | str j => obtain ⟨t', rfl⟩ := ry; exact PySem.EqNone.eq_none_str (fin_bl I q (by simp))
    | _ => exact absurd (show false = true from hs) Bool.false_ne_true
  | bl i =>
    cases rx
    cases y with
    | non => cases ry; exact PySem.EqNone.eq_bool_none (fin_bl I q (by simp))
    | bl j => cases ry; exact eq_bool (fin_bl I q dec_bl)
    | str j => obtain ⟨t', rfl⟩ := ry; exact PySem.EqMixed.eq_bool_str (fin_bl I q (by simp))
    | _ => exact absurd (show false = true from hs) Bool.false_ne_true
  | int i =>
    obtain ⟨t, rfl⟩ := rx
    cases y with
    | non => cases ry; exact PySem.EqNone.eq_int_none (fin_bl I q (by simp))
    | int j => obtain ⟨t', rfl⟩ := ry; exact eq_int (fin_bl I q dec_int)
    | str j => obtain ⟨t', rfl⟩ := ry; exact PySem.EqMixed.eq_int_str (fin_bl I q (by simp))
    | _ => exact absurd (show false = true from hs) Bool.false_ne_true
  | str i =>
    obtain ⟨t, rfl⟩ := rx
    cases y with
    | non => cases ry; exact PySem.EqNone.eq_str_none (fin_bl I q (by simp))
    | bl j => cases ry; exact PySem.EqMixed.eq_str_bool (fin_bl I q (by simp))
    | int j => obtain ⟨t', rfl⟩ := ry; exact PySem.EqMixed.eq_str_int (fin_bl I q (by simp))
    | str j => obtain ⟨t', rfl⟩ := ry; exact eq_str (fin_bl I q dec_str)
    | _ => exact absurd (show false = true from hs) Bool.false_ne_true
  | byt i =>
    obtain ⟨t, rfl⟩ := rx
    cases y with
    | byt j => obtain ⟨t', rfl⟩ := ry; exact PySem.W.eq_bytes (fin_bl I q dec_byt)
    | _ => exact absurd (show false = true from hs) Bool.false_ne_true
  | _ => cases y <;> exact absurd (show false = true from hs) Bool.false_ne_true
theorem op_ne : OpR X (compareOp .NotEq) rNe := by
  intro pins s σ H x y v u Q I rx ry h
  obtain ⟨hs, q⟩ := h
  cases x with
  | non =>
    cases rx
    cases y with
    | non => cases ry; exact PySem.EqNone.ne_none_none (fin_bl I q (by simp))
    | bl j => cases ry; exact PySem.EqNone.ne_none_bool (fin_bl I q (by simp))
    | int j => obtain ⟨t', rfl⟩ := ry; exact PySem.EqNone.ne_none_int (fin_bl I q (by simp))
    | str j => obtain ⟨t', rfl⟩ := ry; exact PySem.EqNone.ne_none_str (fin_bl I q (by simp))
    | _ => exact absurd (show false = true from hs) Bool.false_ne_true
  | bl i =>
    cases rx
    cases y with
    | non => cases ry; exact PySem.EqNone.ne_bool_none (fin_bl I q (by simp))
    | bl j => cases ry; exact ne_bool (fin_bl I q (congrArg not dec_bl))
    | str j => obtain ⟨t', rfl⟩ := ry; exact PySem.EqMixed.ne_bool_str (fin_bl I q (by simp))
    | _ => exact absurd (show false = true from hs) Bool.false_ne_true
  | int i =>
    obtain ⟨t, rfl⟩ := rx
    cases y with
    | non => cases ry; exact PySem.EqNone.ne_int_none (fin_bl I q (by simp))
    | int j => obtain ⟨t', rfl⟩ := ry; exact ne_int (fin_bl I q (congrArg not dec_int))
    | str j => obtain ⟨t', rfl⟩ := ry; exact PySem.EqMixed.ne_int_str (fin_bl I q (by simp))
    | _ => exact absurd (show false = true from hs) Bool.false_ne_true
  | str i =>
    obtain ⟨t, rfl⟩ := rx
    cases y with
    | non => cases ry; exact PySem.EqNone.ne_str_none (fin_bl I q (by simp))
    | bl j => cases ry; exact PySem.EqMixed.ne_str_bool (fin_bl I q (by simp))
    | int j => obtain ⟨t', rfl⟩ := ry; exact PySem.EqMixed.ne_str_int (fin_bl I q (by simp))
    | str j => obtain ⟨t', rfl⟩ := ry; exact ne_str (fin_bl I q (congrArg not dec_str))
    | _ => exact absurd (show false = true from hs) Bool.false_ne_true
  | byt i =>
    obtain ⟨t, rfl⟩ := rx
    cases y with
    | byt j => obtain ⟨t', rfl⟩ := ry; exact PySem.W.ne_bytes (fin_bl I q (congrArg not dec_byt))
    | _ => exact absurd (show false = true from hs) Bool.false_ne_true
  | _ => cases y <;> exact absurd (show false = true from hs) Bool.false_ne_true
theorem op_le : OpR X (compareOp .LtE) (rI0 fun i j => .bl (decide (i ≤ j))) := opB0 fun _ _ _ _ _ _ _ q => le_int q
theorem op_ge : OpR X (compareOp .GtE) (rI0 fun i j => .bl (decide (j ≤ i))) := opB0 fun _ _ _ _ _ _ _ q => ge_int q
theorem op_in_str : OpR X (compareOp .In) (fun x y H Q => ∃ i j, x = .str i ∧ y = .str j ∧ Q (.bl (!(Builtin.Str.occurrences j i 0 j.length 1).isEmpty)) H) := by
  intro pins s σ H x y v u Q I rx ry h
  obtain ⟨i, j, rfl, rfl, q⟩ := h
  obtain ⟨t, rfl⟩ := rx
  obtain ⟨t', rfl⟩ := ry
  exact in_str (fin_bl I q rfl)
theorem nomark (b : Expr) {op : CmpOp} (h : op ≠ .In := by decide) (h2 : op ≠ .NotIn := by decide) : behindInMarks op b = false := by
  have e1 : (op == CmpOp.In) = false := by cases op <;> first | rfl | exact absurd rfl h
  have e2 : (op == CmpOp.NotIn) = false := by cases op <;> first | rfl | exact absurd rfl h2
  cases b <;> simp [behindInMarks, e1, e2]
theorem pe_cmpR {op : CmpOp} {r : R2} (ho : OpR X (compareOp op) r) (ha : PE X a ta) (hb : PE X b tb) (hm : behindInMarks op b = false) : PE X (.Compare a [op] [b] pos) (tOp r ta tb) := by
  intro pins s σ H Q I h
  exact wpAny_Compare1 (binT ha hb I h fun v u s2 x y H2 I2 rx ry q => ho pins s2 σ H2 x y v u Q I2 rx ry q) hm
noncomputable def tTest (t : TE) : TT := fun σ H Q => t σ H fun x H' => ∃ k, x = .bl k ∧ Q k H'
theorem pt_cmpR {op : CmpOp} {r : R2} (ho : OpR X (compareOp op) r) (ha : PE X a ta) (hb : PE X b tb) (hm : behindInMarks op b = false) : PT X (.Compare a [op] [b] pos) (tTest (tOp r ta tb)) := by
  intro pins s σ H Q I h
  refine wpAny_isTrue_Compare1 (thn (ha pins s σ H _ I h) fun v s1 ⟨x, H1, I1, r1, q1⟩ => thn (hb pins s1 σ H1 _ I1 q1) fun u s2 ⟨y, H2, I2, r2, q2⟩ =>
    thn (ho pins s2 σ H2 x y v u _ I2 r1 r2 q2) fun c s3 ⟨z, H3, I3, r3, k, e, q3⟩ => ?_) hm
  subst e
  cases r3
  exact wpAny_truthy_bool ⟨H3, I3, q3⟩
noncomputable def tChain (r r' : R2) (ta tb tc : TE) : TE := fun σ H Q => ta σ H fun x H1 => tb σ H1 fun y H2 => r x y H2 fun z H3 => ∃ k, z = .bl k ∧
  (if k = true then tc σ H3 fun w' H4 => r' y w' H4 Q else Q (.bl false) H3)
theorem pt_chain {op op' : CmpOp} {r r' : R2} (ho : OpR X (compareOp op) r) (ho' : OpR X (compareOp op') r') (ha : PE X a ta) (hb : PE X b tb) (hc : PE X c tc)
    (hm : lastMarks [op, op'] [b, c] = false := by with_unfolding_all rfl) : PT X (.Compare a [op, op'] [b, c] pos) (tTest (tChain r r' ta tb tc)) := by
  intro pins s σ H Q I h
  refine isTrue_chain (thn (ha pins s σ H _ I h) fun v s1 ⟨x, H1, I1, r1, q1⟩ => test_link (thn (hb pins s1 σ H1 _ I1 q1) fun u s2 ⟨y, H2, I2, r2, q2⟩ =>
    thn (ho pins s2 σ H2 x y v u _ I2 r1 r2 q2) fun d s3 ⟨z, H3, I3, r3, k, e, q3⟩ => ?_)) hm
  subst e
  cases r3
  refine wpAny_truthy_bool ?_
  cases k with
  | false =>
    obtain ⟨k', e', q'⟩ := q3
    cases e'
    exact ite_ff ⟨H3, I3, q'⟩
  | true =>
    refine ite_tt (test_last (thn (hc pins s3 σ H3 _ I3 q3) fun w' s4 ⟨z', H4, I4, r4, q4⟩ => thn (ho' pins s4 σ H4 y z' u w' _ I4 r2 r4 q4) fun d' s5 ⟨z2, H5, I5, r5, k2, e2, q5⟩ => ?_))
    subst e2
    cases r5
    exact wpAny_truthy_bool ⟨H5, I5, q5⟩
theorem line63 : (sizeLine : Nat) < 2 ^ 63 := by rw [sizeLine_eq]; decide
theorem op_add_str : OpR X (binaryOp .Add) (fun x y H Q => ∃ i j, x = .str i ∧ y = .str j ∧ i.length + j.length ≤ sizeLine ∧ Q (.str (i ++ j)) H) := by
  intro pins s σ H x y v u Q I rx ry h
  obtain ⟨i, j, rfl, rfl, hz, q⟩ := h
  obtain ⟨t, rfl⟩ := rx
  obtain ⟨t', rfl⟩ := ry
  exact add_str (fun t' tk => ⟨.str (i ++ j), H, I.tok _, ⟨_, rfl⟩, q⟩) hz
theorem vals1 {x : V} {us : List Value} (r : Vals [x] us) : ∃ u, us = [u] ∧ RelV x u := by
  cases r with
  | cons r1 r2 => cases r2; exact ⟨_, rfl, r1⟩
theorem vals2 {x y : V} {us : List Value} (r : Vals [x, y] us) : ∃ u w', us = [u, w'] ∧ RelV x u ∧ RelV y w' := by
  cases r with
  | cons r1 r2 =>
    cases r2 with
    | cons r3 r4 => cases r4; exact ⟨_, _, rfl, r1, r3⟩
theorem call_max2 (hc : X.calm = true) : CallR X (.builtin "max") (fun xs H Q => ∃ i j, xs = [.int i, .int j] ∧ Q (.int (if j > i then j else i)) H) := by
  intro pins s σ H xs us Q I r h
  obtain ⟨i, j, rfl, q⟩ := h
  obtain ⟨u, w', rfl, ⟨t, rfl⟩, ⟨t', rfl⟩⟩ := vals2 r
  refine max_two_ints (I.ok.hd hc) fun h' tk k => ⟨_, H, I.kept k, ?_, q⟩
  by_cases hj : j > i
  · rw [if_pos hj, if_pos hj]; exact ⟨_, rfl⟩
  · rw [if_neg hj, if_neg hj]; exact ⟨_, rfl⟩
theorem call_min2 (hc : X.calm = true) : CallR X (.builtin "min") (fun xs H Q => ∃ i j, xs = [.int i, .int j] ∧ Q (.int (if j < i then j else i)) H) := by
  intro pins s σ H xs us Q I r h
  obtain ⟨i, j, rfl, q⟩ := h
  obtain ⟨u, w', rfl, ⟨t, rfl⟩, ⟨t', rfl⟩⟩ := vals2 r
  refine min_two_ints (I.ok.hd hc) fun h' tk k => ⟨_, H, I.kept k, ?_, q⟩
  by_cases hj : j < i
  · rw [if_pos hj, if_pos hj]; exact ⟨_, rfl⟩
  · rw [if_neg hj, if_neg hj]; exact ⟨_, rfl⟩
theorem call_int1 : CallR X (.type "int") (fun xs H Q => (∃ i, xs = [.int i] ∧ Q (.int i) H) ∨ ∃ k, xs = [.bl k] ∧ Q (.int (if k then 1 else 0)) H) := by
  intro pins s σ H xs us Q I r h
  rcases h with ⟨i, rfl, q⟩ | ⟨k, rfl, q⟩
  · obtain ⟨u, rfl, t, rfl⟩ := vals1 r
    exact call_int_int ⟨.int i, H, I, ⟨_, rfl⟩, q⟩
  · obtain ⟨u, rfl, r1⟩ := vals1 r
    cases r1
    exact call_int_bool ⟨.int (if k then 1 else 0), H, I.tok _, ⟨_, rfl⟩, q⟩
noncomputable def LenV (K : PySem.W.Frag) (x : V) (H : Hp) (n : Nat) : Prop :=
  match x with
  | .str y => y.length ≤ sizeLine ∧ n = y.length
  | .byt y => y.size ≤ sizeLine ∧ n = y.size
  | .ref p => (∃ xs, SqL K H p xs ∧ n = xs.length) ∨ ∃ xs, SqT K H p xs ∧ n = xs.length
  | _ => False
theorem call_len : CallR X (.builtin "len") (fun xs H Q => ∃ x n, xs = [x] ∧ LenV X.K x H n ∧ Q (.int n) H) := by
  intro pins s σ H xs us Q I r h
  obtain ⟨x, n, rfl, e, q⟩ := h
  obtain ⟨u, rfl, rx⟩ := vals1 r
  have hl := line63
  have hs : sizeLine = 16777216 := sizeLine_eq
  cases x with
  | str y =>
    obtain ⟨t, rfl⟩ := rx
    obtain ⟨hy, e'⟩ : y.length ≤ sizeLine ∧ n = y.length := e
    subst e'
    exact len_str (by omega) ⟨.int _, H, I.tok _, ⟨_, rfl⟩, q⟩
  | byt y =>
    obtain ⟨t, rfl⟩ := rx
    obtain ⟨hy, e'⟩ : y.size ≤ sizeLine ∧ n = y.size := e
    subst e'
    exact PySem.W.len_bytes (by omega) ⟨.int _, H, I.tok _, ⟨_, rfl⟩, q⟩
  | ref p =>
    cases rx
    have e' : (∃ xs, SqL X.K H p xs ∧ n = xs.length) ∨ ∃ xs, SqT X.K H p xs ∧ n = xs.length := e
    rcases e' with ⟨xs, hx, e'⟩ | ⟨xs, hx, e'⟩
    · subst e'
      obtain ⟨its, r', pl, hz⟩ := I.list hx
      have hlen := r'.length
      exact Calls.call_len_list pl.isList (by simp only [List.size_toArray]; omega) ⟨.int xs.length, H, I.tok _, ⟨_, by simp only [List.size_toArray]; rw [hlen]⟩, q⟩
    · subst e'
      obtain ⟨its, r', pl, hz⟩ := I.tuple hx
      have hlen := r'.length
      exact len_tuple pl (by simp only [List.size_toArray]; omega) ⟨.int xs.length, H, I.tok _, ⟨_, by simp only [List.size_toArray]; rw [hlen]⟩, q⟩
  | _ => exact (show False from e).elim
end
end L2
namespace L2
open PySem PySem.Spec PyProof.Rows
structure ObjM (h : Heap) (x dx C : Addr) (mA : Str → Option Value) : Prop where
  obj : h.get? x = some (PySem.W.instObj C dx)
  ns : h.Ns1 dx mA
  ne : dx ≠ x
theorem lookIn_ns {h : Heap} {dx : Addr} {mA : Str → Option Value} (n : h.Ns1 dx mA) : ∃ od, h.get? dx = some od ∧ ∀ name, PySem.W.lookIn name od = some (mA name) := by
  obtain ⟨o, es, ep, ho, hd, hk, _, hm⟩ := n
  refine ⟨o, ho, fun name => ?_⟩
  have e := hm name
  unfold nsFind findBy at e
  rw [← Array.find?_toList] at e
  unfold PySem.W.lookIn
  rw [hd]
  dsimp only
  split
  · rename_i y q
    rw [q] at e
    exact congrArg some e
  · rename_i q
    rw [q] at e
    have a : es.toList.any (·.refKey) = false := by
      rw [List.any_eq_false]
      intro y hy
      obtain ⟨z, t, hkey⟩ := hk y (Array.mem_toList_iff.mp hy)
      simp [DictEntry.refKey, hkey]
    have a' : ¬ es.toList.any (·.refKey) = true := by rw [a]; exact Bool.false_ne_true
    rw [if_neg a']
    exact congrArg some e
theorem ObjM.look {h : Heap} {x dx C : Addr} {mA : Str → Option Value} (I : ObjM h x dx C mA) : ∃ od, PySem.W.InstAt h x (PySem.W.instObj C dx) C (some od) ∧ ∀ name, PySem.W.lookIn name od = some (mA name) :=
  let ⟨od, ho, hl⟩ := lookIn_ns I.ns
  ⟨od, ⟨I.obj, rfl, rfl, ho⟩, hl⟩
section
variable {prog : Program} {w : World} {A : Around} {E : Value → Shared → Prop} {s : Shared} {K : PySem.W.Frag} {x dx C f : Addr} {mA : Str → Option Value} {name : Str} {v : Value}
end
section
variable {P : Program} {w : World} {H H' : Hp} {h h' : Heap} {a C dx : Addr} {fs fs' : List (Str × V)}
theorem ins_get (hok : HOk P w H h) (e : H a = some (.ins C dx fs)) : ∃ mA, ObjM h a dx C mA ∧ (∀ f, RelO (fs.lookup f) (mA f)) ∧ PySem.Within mA (fs.map (·.1)) ∧ fs.length ≤ 1000 ∧ H dx = some (.own a) := by
  obtain ⟨d, z, ne, ob, mA, n, r, q⟩ := (show ObjOk P w H h a (.ins C dx fs) from hok a _ e)
  exact ⟨mA, ⟨ob, n, ne⟩, r, q, z, d⟩
end
structure Cls (K : PySem.W.Frag) (C : Addr) : Prop where
  pg : PySem.W.plainGet K C Str.empty = true
  hd : PySem.W.hasDictIn K C = true
  po : PySem.W.plainOver K C = true
  sa : PySem.W.findIn K (.ref C) "__setattr__" = some (some (.builtin "object.__setattr__"))
theorem Cls.get {K : PySem.W.Frag} {C : Addr} (c : Cls K C) (f : Str) : PySem.W.plainGet K C f = true := c.pg
section
variable {X : Cx} {pins : List (Addr × Obj)} {σ : St} {H : Hp} {s : Shared} {a C dx : Addr} {fs : List (Str × V)} {f : Str} {v : V} {A : Around} {E : Value → Shared → Prop}
end
section
variable {X : Cx} {o e value : Expr} {f : Str} {pos pos' tpos : Pos} {ta tv : TE}
end
section
variable {X : Cx} {pins : List (Addr × Obj)} {σ : St} {H : Hp} {s : Shared} {A : Around} {E : Value → Shared → Prop} {Q : Value → Shared → Prop} {c : Value} {b : Bool}
inductive TyOf (K : PySem.W.Frag) (H : Hp) : V → Value → Prop where
  | non : TyOf K H .non (.type "NoneType")
  | bl (x : Bool) : TyOf K H (.bl x) (.type "bool")
  | int (i : Int) : TyOf K H (.int i) (.type "int")
  | str (x : Str) : TyOf K H (.str x) (.type "str")
  | flt (x : UInt64) : TyOf K H (.flt x) (.type "float")
  | lst {a : Addr} {xs : List V} (e : H a = some (.lst xs)) : TyOf K H (.ref a) (.type "list")
  | frz {a : Addr} {o : Obj} {xs : List V} (e : H a = some (.frz o (.lst xs))) : TyOf K H (.ref a) (.type "list")
  | tup {a : Addr} {xs : List V} (e : H a = some (.tup xs)) : TyOf K H (.ref a) (.type "tuple")
  | dK {a : Addr} {kvs : List (Key × V)} (e : H a = some (.dK kvs)) : TyOf K H (.ref a) (.type "dict")
  | dT {a : Addr} {kvs : List (List Key × V)} (e : H a = some (.dT kvs)) : TyOf K H (.ref a) (.type "dict")
  | ins {a C dx : Addr} {fs : List (Str × V)} (e : H a = some (.ins C dx fs)) (cl : Cls K C) (ha : PySem.W.findIn K (.ref C) "__class__" = some (some (.builtin "object.__class__")))
      (hn : PySem.W.specialIn K (.builtin "object.__class__") "__get__" = some (some (.builtin "getset_descriptor.__get__"))) (htk : PySem.W.takesIn K (.builtin "object.__class__") = some true)
      (hm : PySem.W.mroIn K C (.type "object") = some true) : TyOf K H (.ref a) (.ref C)
theorem isinst_ok {x : V} {u t : Value} (I : Inv X pins σ H s) (rx : RelV x u) (ty : TyOf X.K H x t) (e : PySem.W.kitOne X.K t c = some b) (h : ∀ tk, Q (.bool b) { s with toks := tk }) :
    wpAny (model X.prog X.w) A (call (.builtin "isinstance") [u, c]) Q E s := by
  cases ty with
  | non => cases (show u = Value.none from rx); exact PySem.W.kia_one PySem.W.kitx_none I.kIn True.intro e (fun z => nomatch z) h
  | bl y => cases (show u = Value.bool y from rx); exact PySem.W.kia_one PySem.W.kitx_bool I.kIn True.intro e (fun z => nomatch z) h
  | int i => obtain ⟨t, q⟩ := (show ∃ t, u = Value.int i t from rx); cases q; exact PySem.W.kia_one PySem.W.kitx_int I.kIn True.intro e (fun z => nomatch z) h
  | str y => obtain ⟨t, q⟩ := (show ∃ t, u = Value.str y t from rx); cases q; exact PySem.W.kia_one PySem.W.kitx_str I.kIn True.intro e (fun z => nomatch z) h
  | flt y => obtain ⟨t, q⟩ := (show ∃ t, u = Value.float y t from rx); cases q; exact PySem.W.kia_one PySem.W.kitx_float I.kIn True.intro e (fun z => nomatch z) h
  | @lst a xs ea =>
    cases (show u = Value.ref a from rx)
    obtain ⟨_, _, n, _, h1⟩ := (show ObjOk X.prog X.w H s.heap a (.lst xs) from I.hok a _ ea)
    exact PySem.W.kia_one PySem.W.kitx_list I.kIn ⟨_, h1, rfl⟩ e (fun z => nomatch z) h
  | @frz a ob xs ea =>
    cases (show u = Value.ref a from rx)
    obtain ⟨_, _, _, n, _, h1⟩ := (show ObjOk X.prog X.w H s.heap a (.frz ob (.lst xs)) from I.hok a _ ea)
    exact PySem.W.kia_one PySem.W.kitx_list I.kIn ⟨_, h1, rfl⟩ e (fun z => nomatch z) h
  | @tup a xs ea =>
    cases (show u = Value.ref a from rx)
    obtain ⟨_, _, _, p⟩ := (show ObjOk X.prog X.w H s.heap a (.tup xs) from I.hok a _ ea)
    obtain ⟨o, h1, h2, _⟩ := p
    exact PySem.W.kia_one PySem.W.kitx_tuple I.kIn ⟨o, h1, h2⟩ e (fun z => nomatch z) h
  | @dK a kvs ea =>
    cases (show u = Value.ref a from rx)
    obtain ⟨_, _, vs, _, p⟩ := (show ObjOk X.prog X.w H s.heap a (.dK kvs) from I.hok a _ ea)
    obtain ⟨o, es, ep, h1, h2, _⟩ := p
    exact PySem.W.kia_one PySem.W.kitx_dict I.kIn ⟨o, h1, h2.1⟩ e (fun z => nomatch z) h
  | @dT a kvs ea =>
    cases (show u = Value.ref a from rx)
    obtain ⟨_, _, xs, _, o, es, ep, h1, h2, _⟩ := (show ObjOk X.prog X.w H s.heap a (.dT kvs) from I.hok a _ ea)
    exact PySem.W.kia_one PySem.W.kitx_dict I.kIn ⟨o, h1, h2.1⟩ e (fun z => nomatch z) h
  | @ins a C dx fs ea cl ha hn htk hm =>
    cases (show u = Value.ref a from rx)
    obtain ⟨mA, O, _⟩ := ins_get I.hok ea
    obtain ⟨od, J, _⟩ := O.look
    exact PySem.W.kia_one (PySem.W.kitx_own (cl.get _) cl.hd ha hn htk hm) I.kIn J e (fun z => nomatch z) h
end
end L2
namespace L2
open PySem PySem.Spec PyProof.Rows
structure Room (k : Nat) (A : Around) : Prop where
  hd : A.handled = none
  dp : A.depth + 3 * k + 5 < recursionLimit
  un : A.units + 16 * k + 200 < cLine
theorem Room.mono {j k : Nat} {A : Around} (r : Room k A) (h : j ≤ k) : Room j A := ⟨r.hd, by have := r.dp; omega, by have := r.un; omega⟩
theorem Room.deeper {k : Nat} {A : Around} (r : Room (k + 1) A) (env : Env) : Room k (A.deeper env) :=
  ⟨r.hd, by have := r.dp; show A.depth + 1 + 3 * k + 5 < _; omega, by have := r.un; show A.units + 3 + 16 * k + 200 < _; omega⟩
theorem Room.depth {k : Nat} {A : Around} (r : Room k A) : A.depth < recursionLimit := by have := r.dp; omega
theorem Room.units {k : Nat} {A : Around} (r : Room k A) : A.units + 64 < cLine := by have := r.un; omega
noncomputable def tNil : TA := fun _ H Q => Q [] H
noncomputable def tCons (ta : TE) (tr : TA) : TA := fun σ H Q => ta σ H fun x H1 => tr σ H1 fun xs H2 => Q (x :: xs) H2
section
variable {X : Cx} {e : Expr} {es : List Expr} {te : TE} {t : TA} {pos : Pos}
theorem pa_nil : PA X [] tNil := fun _ _ _ _ H Q I h => Calls.spliced_nil ⟨[], H, I, .nil, h⟩
theorem pa_cons (ha : PE X e te) (hr : PA X es t) (hs : starEach (e :: es) X.env = (false, eval e X.env) :: starEach es X.env := by rfl) : PA X (e :: es) (tCons te t) := by
  intro pos pins s σ H Q I h
  rw [hs]
  show wpAny _ _ (spliced ((false, eval e X.env) :: backTo pos (starEach es X.env))) _ _ s
  refine Calls.spliced_cons (thn (ha pins s σ H _ I h) fun u s1 ⟨x, H1, I1, r1, q1⟩ => ?_)
  exact thn (hr pos pins s1 σ H1 _ I1 q1) fun us s2 ⟨xs, H2, I2, r2, q2⟩ => ⟨x :: xs, H2, I2, .cons r1 r2, q2⟩
noncomputable def tTup (t : TA) : TE := fun σ H Q => t σ H fun xs H1 => xs.length ≤ sizeLine ∧ ∀ p, H1 p = none → Q (.ref p) (upd H1 p (.tup xs))
noncomputable def tLst (t : TA) : TE := fun σ H Q => t σ H fun xs H1 => xs.length ≤ sizeLine ∧ ∀ p, H1 p = none → Q (.ref p) (upd H1 p (.lst xs))
theorem pe_tup {x1} (h : PA X es t) : PE X (.Tuple es x1 pos) (tTup t) := by
  intro pins s σ H Q I hq
  refine wpAny_Tuple_spliced (thn (h pos pins s σ H _ I hq) fun us s1 ⟨xs, H1, I1, r, z, q⟩ => ⟨by rw [← r.length]; exact z, ?_⟩)
  have hf : H1 s1.heap.objs.size = none := I1.hok.fresh (Nat.le_refl _)
  refine ⟨.ref s1.heap.objs.size, upd H1 s1.heap.objs.size (.tup xs), I1.laid (t' := s1.toks) (fun b u e => Heap.get?_push_of_some _ e) (Nat.le_refl _) ?_, rfl, q _ hf⟩
  exact ⟨z, us, r, ⟨_, Heap.get?_push_size _ rfl, rfl, _, rfl⟩⟩
theorem pe_lst (h : PA X es t) : PE X (.List es pos) (tLst t) := by
  intro pins s σ H Q I hq
  refine wpAny_List_spliced (thn (h pos pins s σ H _ I hq) fun us s1 ⟨xs, H1, I1, r, z, q⟩ => ⟨by rw [← r.length]; exact z, ?_⟩)
  have hf : H1 s1.heap.objs.size = none := I1.hok.fresh (Nat.le_refl _)
  refine ⟨.ref s1.heap.objs.size, upd H1 s1.heap.objs.size (.lst xs), I1.laid (t' := s1.toks) (fun b u e => Heap.get?_push_of_some _ e) (Nat.le_refl _) ?_, rfl, q _ hf⟩
  exact ⟨z, us, 0, r, Heap.get?_push_size _ rfl⟩
end
noncomputable abbrev Sp := List V → Hp → VK → XK → Prop
noncomputable abbrev CXT := List Env → Hp → Shared → XK → Value → Shared → Prop
structure Env0 (P : Program) (w : World) (K : PySem.W.Frag) (mg : Str → Option Value) (base : Heap) (A : Around) (outer : List Env) (s : Shared) (H : Hp) : Prop where
  frames : A.frames = some outer
  mod : Mod K mg base
  bs : ∀ b o, base.get? b = some o → s.heap.get? b = some o ∧ H b = none
  bsz : base.objs.size ≤ s.heap.objs.size
  funs : s.heap.FunFrames base outer
  frf : ∀ b ∈ frs outer, H b = none
  hok : HOk P w H s.heap
  bare : AllBare s.gens
noncomputable def CE (outer : List Env) (P : Program) (w : World) (H : Hp) (s : Shared) (Q : VK) (u : Value) (s' : Shared) : Prop :=
  ∃ v H', s'.os = s.os ∧ AllBare s'.gens ∧ Un (frs outer) [] H H' s.heap s'.heap ∧ HOk P w H' s'.heap ∧ RelV v u ∧ Q v H'
noncomputable def CR (CX : CXT) (outer : List Env) (P : Program) (w : World) (H : Hp) (s : Shared) (Q : VK) (E : XK) (r : Result) (s' : Shared) : Prop :=
  match r with
  | .ok (.ret u) => CE outer P w H s Q u s'
  | .ok _ => False
  | .error e => CX outer H s E e s'
structure FnOk (P : Program) (w : World) (K : PySem.W.Frag) (mg : Str → Option Value) (base : Heap) (CX : CXT) (k : Nat) (f : Addr) (fd : FuncData) (ps : List Str) (sp : Sp) : Prop where
  len : ∀ vs H Q E, sp vs H Q E → vs.length = ps.length
  run : ∀ (A : Around) (outer : List Env) (s : Shared) (H : Hp) (args : Args) (us : List Value) (vs : List V) (Q : VK) (E : XK), Room k A → Env0 P w K mg base A outer s H → BindsTo s fd args (ps.zip us) → Vals vs us → sp vs H Q E →
    codeAny (model P w) A (.call (.ref f) args) (CR CX outer P w H s Q E) s
section
variable {X : Cx} {pins : List (Addr × Obj)} {σ : St} {H : Hp} {s s' : Shared}
theorem Inv.env0 (I : Inv X pins σ H s) : Env0 X.prog X.w X.K X.mg X.base X.A X.stack s H :=
  ⟨I.ok.frames, I.ok.mod, I.bs, Nat.le_trans I.ok.bsz I.sz, I.stack, I.stkFree, I.hok, I.bare⟩
theorem Inv.after {Q : VK} {u : Value} (I : Inv X pins σ H s) (h : CE X.stack X.prog X.w H s Q u s') : EP X pins σ Q u s' := by
  obtain ⟨v, H', os, bare, un, hok, r, q⟩ := h
  obtain ⟨hh, g, d, t, os'⟩ := s'
  obtain rfl : os' = s.os := os
  exact ⟨v, H', I.call (h' := hh) (g' := g) (d' := d) (t' := t) (ch := []) un hok bare (fun b z => absurd z (by simp)), r, q⟩
end
noncomputable def tCall (sp : Sp) (dvs : List V) (E : XK) (t : TA) : TE := fun σ H Q => t σ H fun vs H1 => sp (vs ++ dvs) H1 Q E
noncomputable def Binds (K : PySem.W.Frag) (fd : FuncData) (ps : List Str) (ds : List Value) : Prop :=
  ∀ (s : Shared) (us : List Value), K.In s.heap → (us ++ ds).length = ps.length → BindsTo s fd ⟨us, []⟩ (ps.zip (us ++ ds))
theorem Binds.all {K : PySem.W.Frag} {fd : FuncData} {ps : List Str} (h : ∀ us : List Value, us.length = ps.length → bindArgs fd ⟨us, []⟩ = pure (ps.zip us)) : Binds K fd ps [] := fun s us _ hl => by
  rw [List.append_nil] at hl ⊢
  exact .of_eq (h us hl)
noncomputable def Passes (CX : CXT) (X : Cx) (E : XK) : Prop := ∀ (pins : List (Addr × Obj)) (σ : St) (H : Hp) (s : Shared) (e : Value) (s' : Shared), Inv X pins σ H s → CX X.stack H s E e s' → X.xe e s'
section
variable {X : Cx} {CX : CXT} {k : Nat} {f C : Addr} {fd : FuncData} {ps : List Str} {sp : Sp} {dvs : List V} {ds : List Value} {E : XK} {x m : Str} {p pos apos : Pos} {e o : Expr} {es : List Expr} {ta : TE} {t : TA}
theorem run_fn {pins : List (Addr × Obj)} {σ : St} {H : Hp} {s : Shared} {Q : VK} {us : List Value} {vs : List V} (F : FnOk X.prog X.w X.K X.mg X.base CX k f fd ps sp) (hr : Room k X.A) (hb : Binds X.K fd ps ds) (hd : Vals dvs ds) (hx : Passes CX X E)
    (I : Inv X pins σ H s) (r : Vals vs us) (h : sp (vs ++ dvs) H Q E) : wpAny (model X.prog X.w) X.A (call (.ref f) us) (EP X pins σ Q) X.xe s := by
  have r2 : Vals (vs ++ dvs) (us ++ ds) := r.append hd
  have hl : (us ++ ds).length = ps.length := by rw [← r2.length]; exact F.len _ _ _ _ h
  refine wpAny_call (codeAny_mono (F.run X.A X.stack s H ⟨us, []⟩ (us ++ ds) (vs ++ dvs) Q E hr I.env0 (hb s us I.kIn hl) r2 h) fun r s' hq => ?_)
  cases r with
  | error e => exact hx pins σ H s e s' I hq
  | ok fl =>
    cases fl with
    | ret u => exact I.after hq
    | next => exact False.elim hq
    | brk => exact False.elim hq
    | cont => exact False.elim hq
theorem pe_call (F : FnOk X.prog X.w X.K X.mg X.base CX k f fd ps sp) (hr : Room k X.A) (hg : Gl X x) (hm : X.mg x = some (.ref f)) (hk : PySem.W.keepIn X.K (.ref f) = true) (hb : Binds X.K fd ps ds) (hd : Vals dvs ds) (hx : Passes CX X E)
    (ha : PA X (e :: es) t) (hdb : (x == ("__debug__" : Str)) = false := by decide) (he : starEach (e :: es) X.env = (false, eval e X.env) :: starEach es X.env := by rfl) (hpl : (backTo pos (starEach es X.env)).any (·.1) = false := by rfl) :
    PE X (.Call (.Name x p) (e :: es) [] pos) (tCall sp dvs E t) := by
  intro pins s σ H Q I h
  refine wpAny_Call_Name_kw (ld_glob I hg hm ?_ hdb)
  refine PySem.W.callWith_K (h₀ := X.base) I.ok.mod.kin hk (thn (ha pos pins s σ H _ I h) fun us s1 ⟨vs, H1, I1, r, q⟩ => ⟨I1.kIn, ?_⟩) he hpl
  exact run_fn F hr hb hd hx I1 r q
end
section
variable {X : Cx} {CX : CXT} {k : Nat} {f C : Addr} {fd : FuncData} {ps ks : List Str} {sp : Sp} {E : XK} {x m : Str} {p pos apos kpos : Pos} {e o : Expr} {es : List Expr} {kws : List Keyword} {te ta : TE} {t tk : TA} {nm : Option Str}
variable {g : List Value → List Value → List Value} {gV : List V → List V → List V}
end
structure FnScope (N P : List Str) (sc : Scope) : Prop where
  kind : sc.kind = .function
  co : sc.isCoroutine = false
  gen : sc.isGenerator = false
  nd : N.Nodup
  pre : N.take P.length = P
  par : ∀ x ∈ P, sc.names.lookup x = some .local ∨ sc.names.lookup x = some .cell
  nofree : ∀ y ∈ sc.names, y.2 ≠ .free
theorem bindL_out {kindOf : Str → Option NameKind} {x : Str} : ∀ {binds : List (Str × Value)} {m : Str → Option Value}, (∀ v, (x, v) ∉ binds) → bindL kindOf binds m x = m x
  | [], _, _ => rfl
  | (n, v) :: r, m, h => by
    unfold bindL
    rw [bindL_out fun w hw => h w (List.mem_cons_of_mem _ hw)]
    split
    · have : x ≠ n := by rintro rfl; exact h v List.mem_cons_self
      simp [this]
    · rfl
theorem bindC_out {kindOf : Str → Option NameKind} {x : Str} : ∀ {binds : List (Str × Value)} {m : Str → Option Value}, (∀ v, (x, v) ∉ binds) → bindC kindOf binds m x = m x
  | [], _, _ => rfl
  | (n, v) :: r, m, h => by
    unfold bindC
    rw [bindC_out fun w hw => h w (List.mem_cons_of_mem _ hw)]
    split
    · rfl
    · have : x ≠ n := by rintro rfl; exact h v List.mem_cons_self
      simp [this]
theorem bindL_get {kindOf : Str → Option NameKind} {x : Str} {v : Value} : ∀ {P : List Str} {vs : List Value} {i : Nat} {m : Str → Option Value}, P.Nodup → P[i]? = some x → vs[i]? = some v → kindOf x = some .local →
    bindL kindOf (P.zip vs) m x = some v
  | [], _, _, _, _, h, _, _ => by simp at h
  | _ :: _, [], _, _, _, _, h, _ => by simp at h
  | p :: P, w :: vs, 0, m, nd, h1, h2, hk => by
    simp at h1 h2; subst h1; subst h2
    show bindL kindOf ((p, w) :: P.zip vs) m p = _
    unfold bindL
    rw [bindL_out fun v hv => (List.nodup_cons.mp nd).1 (List.of_mem_zip hv).1, if_pos hk]
    simp
  | p :: P, w :: vs, i + 1, m, nd, h1, h2, hk => by
    show bindL kindOf ((p, w) :: P.zip vs) m x = _
    unfold bindL
    exact bindL_get (i := i) (List.nodup_cons.mp nd).2 (by simpa using h1) (by simpa using h2) hk
theorem bindC_get {kindOf : Str → Option NameKind} {x : Str} {v : Value} : ∀ {P : List Str} {vs : List Value} {i : Nat} {m : Str → Option Value}, P.Nodup → P[i]? = some x → vs[i]? = some v → kindOf x ≠ some .local →
    bindC kindOf (P.zip vs) m x = some v
  | [], _, _, _, _, h, _, _ => by simp at h
  | _ :: _, [], _, _, _, _, h, _ => by simp at h
  | p :: P, w :: vs, 0, m, nd, h1, h2, hk => by
    simp at h1 h2; subst h1; subst h2
    show bindC kindOf ((p, w) :: P.zip vs) m p = _
    unfold bindC
    rw [bindC_out fun v hv => (List.nodup_cons.mp nd).1 (List.of_mem_zip hv).1, if_neg hk]
    simp
  | p :: P, w :: vs, i + 1, m, nd, h1, h2, hk => by
    show bindC kindOf ((p, w) :: P.zip vs) m x = _
    unfold bindC
    exact bindC_get (i := i) (List.nodup_cons.mp nd).2 (by simpa using h1) (by simpa using h2) hk
noncomputable def start (N : List Str) (vs : List V) : St := vs.map some ++ List.replicate (N.length - vs.length) none
noncomputable def cxOf (CX : CXT) (P : Program) (w : World) (K : PySem.W.Frag) (mg : Str → Option Value) (base : Heap) (N : List Str) (qual : Str) (scope : Scope) (f : Addr) (cd : Value) (A : Around) (outer : List Env) (s : Shared) (H : Hp) (E : XK) : Cx where
  prog := P
  w := w
  K := K
  mg := mg
  base := base
  A := A.deeper (envOfC qual scope s.heap.objs.size f cd)
  N := N
  s₀ := s
  H₀ := H
  env := envOfC qual scope s.heap.objs.size f cd
  outer := outer
  stack := envOfC qual scope s.heap.objs.size f cd :: outer
  ex := []
  calm := true
  fn := fun _ => true
  pn := []
  xe := fun e s' => wpAny (model P w) (A.deeper (envOfC qual scope s.heap.objs.size f cd)) (leaving (envOfC qual scope s.heap.objs.size f cd) e) (fun _ s'' => CX outer H s E e s'') (fun e' s'' => CX outer H s E e' s'') s'
theorem cell_has {sc : Scope} {n : Nat} {x : Str} (h : sc.names.lookup x = some .cell) : ∃ c, (cellsFrom n sc.names []).lookup x = some c := by
  have q := PySem.W.cellsFrom_some sc.names n [] (.inl h)
  exact Option.isSome_iff_exists.mp q
theorem inv_start {CX : CXT} {P : Program} {w : World} {K : PySem.W.Frag} {mg : Str → Option Value} {base : Heap} {N ps : List Str} {qual : Str} {scope : Scope} {f : Addr} {cd : Value} {A : Around} {outer : List Env} {s s1 : Shared} {H : Hp} {E : XK} {us : List Value} {vs : List V}
    (S : FnScope N ps scope) (hd : A.handled = none) (e0 : Env0 P w K mg base A outer s H) (hl : vs.length = ps.length) (r : Vals vs us)
    (x : InCallC s s.heap.objs.size (bindL (envOfC qual scope s.heap.objs.size f cd).kindOf (ps.zip us) fun _ => none) (cellsFrom (s.heap.objs.size + 1) scope.names []) (bindC (envOfC qual scope s.heap.objs.size f cd).kindOf (ps.zip us) fun _ => none) s1) :
    Inv (cxOf CX P w K mg base N qual scope f cd A outer s H E) [] (start N vs) H s1 := by
  have hpl : ps.length ≤ N.length := by have := congrArg List.length S.pre; rw [List.length_take] at this; omega
  obtain ⟨h1, tk, rfl, hk⟩ := x.done
  have noA : ∀ b : Addr, b ∉ (cxOf CX P w K mg base N qual scope f cd A outer s H E).ex := fun b z => absurd (show b ∈ ([] : List Addr) from z) (by simp)
  refine ⟨⟨e0.mod, S.kind, rfl, rfl, Nat.le_refl _, fun y z c h1 h2 => ?_, fun y hy => ?_, fun y c _ h => ?_, fun _ => hd, Around.frames_deeper e0.frames, .inr ⟨rfl, rfl⟩, fun b z => absurd z (noA b), e0.bs, e0.bsz, fun b _ _ => noA b, fun b z => absurd z (noA b), e0.funs, e0.frf⟩,
    rfl, e0.bare, Un.kept hk, ⟨_, x.toInCall.ns, fun i y v h1 h2 h3 => ?_⟩, fun y c h => ⟨_, x.cell y c h⟩, e0.hok.fresh (Nat.le_refl _), fun y c h => ?_, fun p hp => absurd (show p ∈ ([] : List (Addr × Obj)) from hp) (by simp), e0.hok.kept hk, ?_⟩
  · exact name_of_addr x.apart (PySem.mem_of_lookup h1) (PySem.mem_of_lookup h2)
  · have hy : scope.names.lookup y = some .cell ∨ scope.names.lookup y = some .free := hy
    rcases hy with hy | hy
    · exact cell_has hy
    · exact absurd rfl (S.nofree _ (PySem.mem_of_lookup hy))
  · exact Nat.le_of_lt (x.above y c (PySem.mem_of_lookup h))
  · have hi : i < vs.length := by
      unfold start at h2
      by_cases hi : i < vs.length
      · exact hi
      · rw [List.getElem?_append_right (by simpa using hi)] at h2
        rw [List.getElem?_replicate] at h2
        split at h2 <;> cases h2
    have ha : vs[i]? = some v := by
      unfold start at h2
      rw [List.getElem?_append_left (by simpa using hi), List.getElem?_map] at h2
      cases e : vs[i]? with
      | none => rw [e] at h2; cases h2
      | some a => rw [e] at h2; cases h2; rfl
    obtain ⟨u, hu, rv⟩ := r.get ha
    have hp : ps[i]? = some y := by
      rw [← S.pre, List.getElem?_take_of_lt (by omega)]; exact h1
    have ndP : ps.Nodup := by rw [← S.pre]; exact S.nd.sublist (List.take_sublist _ _)
    refine ⟨u, rv, ?_⟩
    rcases S.par y (List.mem_of_getElem? hp) with k | k
    · exact .inl ⟨k, bindL_get ndP hp hu k⟩
    · obtain ⟨c, e⟩ := cell_has (n := s.heap.objs.size + 1) k
      refine .inr ⟨.inl k, c, e, ?_⟩
      have q := x.cell y c e
      rw [bindC_get ndP hp hu (by show scope.names.lookup y ≠ _; rw [k]; decide)] at q
      exact q
  · exact e0.hok.fresh (Nat.le_of_lt (x.above y c (PySem.mem_of_lookup h)))
  · unfold start
    show _ = N.length
    rw [List.length_append, List.length_map, List.length_replicate]
    omega
theorem fn_of {CX : CXT} {P : Program} {w : World} {K : PySem.W.Frag} {mg : Str → Option Value} {base : Heap} {k : Nat} {f : Addr} {name qual : Str} {params : Arguments} {body : List Stmt} {scope : Scope} {dV kV doc pm cdv ct oc : Value} {an od : Option Addr}
    {osl : Array (Option Value)} {N ps : List Str} {sp : Sp} (lk : K.lookup f = some ⟨oc, od, .func (PySem.W.fnOf name qual params body scope dV kV doc pm an cdv ct), osl⟩) (hcd : PySem.W.codeIn K cdv qual = true) (S : FnScope N ps scope)
    (len : ∀ vs H Q E, sp vs H Q E → vs.length = ps.length)
    (hbody : ∀ (A : Around) (outer : List Env) (s : Shared) (H : Hp) (vs : List V) (Q : VK) (E : XK), Room k (A.deeper (envOfC qual scope s.heap.objs.size f cdv)) → sp vs H Q E →
      ∃ t, PSs (cxOf CX P w K mg base N qual scope f cdv A outer s H E) body t ∧ t { nx := fun _ H' => Q .non H', rt := Q } (start N vs) H) :
    FnOk P w K mg base CX (k + 1) f (PySem.W.fnOf name qual params body scope dV kV doc pm an cdv ct) ps sp := by
  refine ⟨len, fun A outer s H args us vs Q E hr e0 hb r hsp => ?_⟩
  have hl := len _ _ _ _ hsp
  have KX : K.In s.heap := e0.mod.kin.keeps fun b o e => (e0.bs b o e).1
  have lim : s.heap.NoLimit := e0.mod.nolimit.keeps fun b o e => (e0.bs b o e).1
  have hkind : ∀ y ∈ ps.zip us, scope.names.lookup y.1 = some .local ∨ (scope.names.lookup y.1 = some .cell ∧ ((cellsFrom (s.heap.objs.size + 1) scope.names []).lookup y.1).isSome = true) := fun ⟨n, v⟩ hy => by
    rcases S.par n (List.of_mem_zip hy).1 with q | q
    · exact .inl q
    · exact .inr ⟨q, PySem.W.cellsFrom_some _ _ _ (.inl q)⟩
  refine codeAny_call_function hr.depth (KX _ _ lk) rfl S.co S.gen rfl (PySem.W.codeRec_of KX hcd) (hb _ _ _ _ ?_)
  refine wpAny_newFunctionEnv_cells S.kind hkind fun env he s1 x => ?_
  subst he
  refine ⟨lim.keeps x.toInCall.keep, codeAny_func ?_⟩
  obtain ⟨t, ht, hq⟩ := hbody A outer s H vs Q E (hr.deeper _) hsp
  have I : Inv (cxOf CX P w K mg base N qual scope f cdv A outer s H E) [] (start N vs) H s1 := inv_start S hr.hd e0 hl r x
  refine wpAny_mono (ht [] s1 (start N vs) H _ I hq) (fun fl s' hs => ?_) fun e s' hs => hs
  have fin : ∀ {σ' : St} {H' : Hp} {v : V} {u : Value}, Inv (cxOf CX P w K mg base N qual scope f cdv A outer s H E) [] σ' H' s' → RelV v u → Q v H' → CE outer P w H s Q u s' :=
    fun {σ' H' v u} J rv q => ⟨v, H', J.os, J.bare, J.base, J.hok, rv, q⟩
  cases fl with
  | ret u =>
    obtain ⟨v, σ', H', J, rv, q⟩ := hs
    exact fin J rv q
  | next =>
    obtain ⟨σ', H', J, q⟩ := hs
    exact fin (v := V.non) (u := Value.none) J rfl q
  | brk =>
    obtain ⟨_, _, _, q⟩ := hs
    exact False.elim q
  | cont =>
    obtain ⟨_, _, _, q⟩ := hs
    exact False.elim q
end L2
namespace L2
open PySem PySem.Spec PyProof.Rows
section
variable {X : Cx} {x : Str} {p pos : Pos} {e : Expr} {es : List Expr} {t : TA} {id T : String} {r : List V → Hp → VK → Prop}
noncomputable def tCB (r : List V → Hp → VK → Prop) (t : TA) : TE := fun σ H Q => t σ H fun vs H1 => r vs H1 Q
theorem pe_callB (hc : CallR X (.builtin id) r) (hg : Gl X x) (hm : X.mg x = none) (hv : bootBuiltins x = some (.builtin id)) (ha : PA X (e :: es) t) (hn : x ≠ "__name__" := by decide) (hdb : (x == ("__debug__" : Str)) = false := by decide)
    (he : starEach (e :: es) X.env = (false, eval e X.env) :: starEach es X.env := by rfl) (hpl : (backTo pos (starEach es X.env)).any (·.1) = false := by rfl) : PE X (.Call (.Name x p) (e :: es) [] pos) (tCB r t) := by
  intro pins s σ H Q I h
  refine wpAny_Call_Name_kw (ld_blt I hg hm hv ?_ hn hdb)
  exact PyProof.Rows.callWith_builtin1 (thn (ha pos pins s σ H _ I h) fun us s1 ⟨vs, H1, I1, r1, q1⟩ => hc pins s1 σ H1 vs us Q I1 r1 q1) he hpl
theorem pe_callTy (hc : CallR X (.type T) r) (hg : Gl X x) (hm : X.mg x = none) (hv : bootBuiltins x = some (.type T)) (ha : PA X (e :: es) t) (hn : x ≠ "__name__" := by decide) (hdb : (x == ("__debug__" : Str)) = false := by decide)
    (he : starEach (e :: es) X.env = (false, eval e X.env) :: starEach es X.env := by rfl) (hpl : (backTo pos (starEach es X.env)).any (·.1) = false := by rfl) : PE X (.Call (.Name x p) (e :: es) [] pos) (tCB r t) := by
  intro pins s σ H Q I h
  refine wpAny_Call_Name_kw (ld_blt I hg hm hv ?_ hn hdb)
  exact PyProof.Rows.callWith_type1 (thn (ha pos pins s σ H _ I h) fun us s1 ⟨vs, H1, I1, r1, q1⟩ => hc pins s1 σ H1 vs us Q I1 r1 q1) he hpl
end
end L2
namespace HT
open PySem PyProof.Rows
section
open PySem.SeqAt
open PySem.AutoSeq1 (wpAny_loadPart')
open PySem.MeetsSeq PySem.MeetsSeq2 PySem.MeetsSeq3
end
section
variable {prog : Program} {w : World} {A : Around} {E : Value → Shared → Prop} {s : Shared}
theorem cat_tup {t b : Addr} {vs ws : List Value} {Q : Value → Shared → Prop} (ht : IsTup s.heap t vs.toArray) (hb : IsTup s.heap b ws.toArray) (hv : vs ≠ [])
    (h1 : ws = [] → Q (.ref t) s) (h2 : ws ≠ [] → Q (.ref s.heap.objs.size) { s with heap := s.heap.push { cls := .type "tuple", data := .seq (vs ++ ws).toArray } })
    (hsz : vs.length + ws.length ≤ sizeLine) : wpAny (model prog w) A (binaryOp .Add (.ref t) (.ref b)) Q E s := by
  obtain ⟨⟨cls, dd, data, sl⟩, ho, hc, n, hd⟩ := id ht
  obtain ⟨⟨cls2, dd2, data2, sl2⟩, ho2, hc2, n2, hd2⟩ := id hb
  simp only at hc hd hc2 hd2
  subst hc hd hc2 hd2
  have e : vs.toArray ++ ws.toArray = (vs ++ ws).toArray := by simp
  by_cases hw : ws = []
  · exact concat_meets ⟨_, ho, rfl⟩ ⟨_, ho2, rfl⟩ noFill_tuple_add seq_tuple_add PySem.F.slot_tuple_add PySem.F.entry_tuple_add (PySem.F.args_tuple_add_2 _ _)
      (tuple_addW1 t b vs.toArray ws.toArray n n2 dd dd2 sl sl2 (by simpa using hv) (by simp [hw])) ⟨ho, ho2, h1 hw⟩
  · refine concat_meets ⟨_, ho, rfl⟩ ⟨_, ho2, rfl⟩ noFill_tuple_add seq_tuple_add PySem.F.slot_tuple_add PySem.F.entry_tuple_add (PySem.F.args_tuple_add_2 _ _)
      (tuple_addW2 t b vs.toArray ws.toArray n n2 dd dd2 sl sl2 (by simpa using hv) (by simpa using hw) (by rw [List.size_toArray, List.size_toArray]; exact hsz)) ⟨ho, ho2, ?_⟩
    rw [e]
    exact h2 hw
noncomputable def sIx (n d : Nat) : Option Int → Nat
  | none => d
  | some v => if v < 0 then (v + (n : Int)).toNat else min v.toNat n
theorem sIx_le (n d : Nat) (hd : d ≤ n) (o : Option Int) : sIx n d o ≤ n := by
  cases o with
  | none => exact hd
  | some v =>
    show (if v < 0 then (v + (n : Int)).toNat else min v.toNat n) ≤ n
    by_cases hv : v < 0
    · rw [if_pos hv]; omega
    · rw [if_neg hv]; exact Nat.min_le_right _ _
theorem clip_eq (v : Int) (n d : Nat) : (if v < 0 then max (v + (n : Int)) 0 else min v (n : Int)) = ((sIx n d (some v) : Nat) : Int) := by
  show (if v < 0 then max (v + (n : Int)) 0 else min v (n : Int)) = (((if v < 0 then (v + (n : Int)).toNat else min v.toNat n) : Nat) : Int)
  by_cases hv : v < 0
  · simp only [if_pos hv]; omega
  · simp only [if_neg hv]; omega
theorem adjust_gen (lo hi : Option Int) (n : Nat) : Builtin.Slice.sliceAdjust lo hi 1 (n : Int) = (((sIx n 0 lo : Nat) : Int), ((sIx n n hi : Nat) : Int)) := by
  have h1 : ¬ ((1 : Int) < 0) := by omega
  unfold Builtin.Slice.sliceAdjust
  simp only [h1, if_false]
  refine Prod.ext ?_ ?_
  · cases lo with
    | none => rfl
    | some v => exact clip_eq v n 0
  · cases hi with
    | none => rfl
    | some v => exact clip_eq v n n
theorem places_gen (i j : Nat) : Builtin.Slice.slicePlaces (i : Int) (j : Int) 1 = j - i := by
  unfold Builtin.Slice.slicePlaces
  have h1 : (1 : Int) > 0 := by omega
  simp only [h1, if_true, Int.ediv_one]
  split <;> omega
theorem slicePart_ {v : Value} {o : Option Int} {Q : Option Int → Shared → Prop} (p : IsPart v o) (h : Q o s) : wpAny (model prog w) A (Builtin.Slice.slicePartIndex v) Q E s := by
  cases p with
  | none => exact slicePart_none h
  | int i t => exact slicePart_int h
theorem sliceApplied_gen {sl : Addr} {vl vu : Value} {lo hi : Option Int} {n : Nat} {Q : Int × Int × Nat → Shared → Prop} (hs : s.heap.IsSliceOf sl vl vu .none) (pl : IsPart vl lo) (pu : IsPart vu hi)
    (h : Q (((sIx n 0 lo : Nat) : Int), 1, sIx n n hi - sIx n 0 lo) s) : wpAny (model prog w) A (Builtin.Slice.sliceApplied (.ref sl) (pure (n : Int))) Q E s := by
  obtain ⟨os, hos, hcs, hds⟩ := id hs
  unfold Builtin.Slice.sliceApplied Builtin.Slice.sliceFields
  refine wpAny_bind (wpAny_bind (wpAny_field hos hds (x := vl) rfl (wpAny_bind (wpAny_field hos hds (x := vu) rfl (wpAny_bind (wpAny_field hos hds (x := .none) rfl (wpAny_pure ?_)))))))
  refine wpAny_bind (slicePart_none ?_)
  show wpAny _ _ (if ((1 : Int) == 0) = true then _ else _) _ _ s
  rw [if_neg (by decide)]
  refine wpAny_bind (slicePart_ pl (wpAny_bind (slicePart_ pu (wpAny_bind (wpAny_pure ?_)))))
  show wpAny _ _ (match Builtin.Slice.sliceAdjust lo hi 1 (n : Int) with | (lo, hi) => pure (lo, (1 : Int), Builtin.Slice.slicePlaces lo hi 1)) _ _ s
  rw [adjust_gen lo hi n]
  show wpAny _ _ (pure (((sIx n 0 lo : Nat) : Int), (1 : Int), Builtin.Slice.slicePlaces ((sIx n 0 lo : Nat) : Int) ((sIx n n hi : Nat) : Int) 1)) _ _ s
  rw [places_gen]
  exact wpAny_pure h
theorem pick_gen (xs : Array Value) (i k : Nat) : ((List.range k).filterMap fun (m : Nat) => xs[((i : Int) + (m : Int) * 1).toNat]?).toArray = ((xs.toList.drop i).take k).toArray := by
  have e : (fun (m : Nat) => xs[((i : Int) + (m : Int) * 1).toNat]?) = fun m => xs[i + m]? := by
    funext m
    have : ((i : Int) + (m : Int) * 1).toNat = i + m := by omega
    rw [this]
  rw [e]
  have := pick_run xs i k
  rw [List.filterMap_map] at this
  have e2 : ((fun x => xs[x]?) ∘ fun x => i + x) = fun m => xs[i + m]? := rfl
  rw [e2] at this
  rw [this]
theorem getItem_tuple_cut {t sl : Addr} {items : Array Value} {vl vu : Value} {lo hi : Option Int} {Q : Value → Shared → Prop} (ht : IsTup s.heap t items) (hs : s.heap.IsSliceOf sl vl vu .none) (pl : IsPart vl lo) (pu : IsPart vu hi)
    (hw : ¬ (sIx items.size 0 lo = 0 ∧ sIx items.size items.size hi = items.size))
    (h : Q (.ref s.heap.objs.size) { s with heap := s.heap.push { cls := .type "tuple", data := .seq ((items.toList.drop (sIx items.size 0 lo)).take (sIx items.size items.size hi - sIx items.size 0 lo)).toArray } })
    (hsz : items.size ≤ sizeLine) : wpAny (model prog w) A (getItem (.ref t) (.ref sl)) Q E s := by
  have htake : sizeOk (.seq ((items.toList.drop (sIx items.size 0 lo)).take (sIx items.size items.size hi - sIx items.size 0 lo)).toArray) := by
    show ((items.toList.drop (sIx items.size 0 lo)).take (sIx items.size items.size hi - sIx items.size 0 lo)).toArray.size ≤ sizeLine
    rw [List.size_toArray, List.length_take, List.length_drop, Array.length_toList]
    omega
  have hj : sIx items.size items.size hi ≤ items.size := sIx_le _ _ (Nat.le_refl _) hi
  obtain ⟨os, hos, hcs, hds⟩ := id hs
  have hTs : s.TypeIs (.ref sl) "slice" := ⟨os, hos, hcs⟩
  unfold getItem
  try with_reducible refine wpAny_holding ?_
  first | refine wpAny_bind (wpAny_pure ?_) | skip
  refine wpAny_bind (wpAny_sequenceKey ht.typeIs (by decide) ?_)
  refine wpAny_bind (wpAny_callSpecial?_slot (name := Str.ofString "__getitem__") ht.typeIs PyProof.Rows.slot_tuple_getitem
    (wpAny_call_entry PyProof.Rows.slot_tuple_getitem ht.typeIs entry_tuple_getitem ?_ (args_tuple_getitem _ _)))
  show wpAny _ _ (Builtin.Tuple.tupleItemsOf (.ref t) >>= _) _ _ s
  refine wpAny_bind (tupleItemsOf_ ht ?_)
  refine wpAny_bind (wpAny_typeOf hTs ?_)
  rw [if_pos (by decide)]
  refine wpAny_bind (sliceApplied_gen hs pl pu ?_)
  have hno : ¬ ((((sIx items.size 0 lo : Nat) : Int) == 0 && (1 : Int) == 1 && (sIx items.size items.size hi - sIx items.size 0 lo) == items.size) = true) := by
    intro q
    rw [Bool.and_eq_true, Bool.and_eq_true] at q
    have q1 : ((sIx items.size 0 lo : Nat) : Int) = 0 := eq_of_beq q.1.1
    have q2 : sIx items.size items.size hi - sIx items.size 0 lo = items.size := eq_of_beq q.2
    exact hw ⟨by omega, by omega⟩
  show wpAny _ _ (if (((sIx items.size 0 lo : Nat) : Int) == 0 && (1 : Int) == 1 && (sIx items.size items.size hi - sIx items.size 0 lo) == items.size) = true then _ else _) _ _ s
  rw [if_neg hno, pick_gen]
  first
    | exact wpAny_bind (m := Builtin.Tuple.tupleExact _) (wpAny_newObj_type (wpAny_pure ⟨_, rfl, wpAny_pure h⟩) htake)
    | exact wpAny_bind (m := Builtin.Tuple.tupleExact _) (wpAny_newObj_type (wpAny_bind (wpAny_pure (wpAny_pure ⟨_, rfl, wpAny_pure h⟩))) htake)
    | exact wpAny_bind (wpAny_bind (m := Builtin.Tuple.tupleExact _) (wpAny_newObj_type (wpAny_pure (wpAny_pure ⟨_, rfl, wpAny_pure h⟩)) htake))
    | exact wpAny_bind (wpAny_bind (m := Builtin.Tuple.tupleExact _) (wpAny_newObj_type (wpAny_pure ⟨_, rfl, wpAny_pure h⟩) htake))
end
end HT
namespace L2
open PySem PySem.Spec PyProof.Rows
noncomputable abbrev TO := St → Hp → (Option Int → Hp → Prop) → Prop
noncomputable def PO (X : Cx) (e : Option Expr) (t : TO) : Prop :=
  ∀ (pins : List (Addr × Obj)) (s : Shared) (σ : St) (H : Hp) (Q : Option Int → Hp → Prop), Inv X pins σ H s → t σ H Q →
    wpAny (model X.prog X.w) X.A (evalPart e X.env) (fun u s' => ∃ o H', Inv X pins σ H' s' ∧ IsPart u o ∧ Q o H') X.xe s
noncomputable def tNoPart : TO := fun _ H Q => Q none H
noncomputable def tPart (t : TE) : TO := fun σ H Q => t σ H fun x H1 => ∃ i, x = .int i ∧ Q (some i) H1
section
variable {X : Cx} {e : Expr} {te : TE} {lo hi : Option Expr} {tl th : TO} {pos p2 : Pos}
theorem po_none : PO X none tNoPart := by
  intro pins s σ H Q I h
  rw [evalPart_none]
  exact wpAny_pure ⟨none, H, I, .none, h⟩
theorem po_some (h : PE X e te) : PO X (some e) (tPart te) := by
  intro pins s σ H Q I hw
  rw [evalPart_some]
  refine thn (h pins s σ H _ I hw) fun u s1 ⟨x, H1, I1, r1, q1⟩ => ?_
  obtain ⟨i, rfl, q⟩ := q1
  obtain ⟨t, rfl⟩ := r1
  exact ⟨some i, H1, I1, .int i t, q⟩
noncomputable def SlR (X : Cx) (r : V → Option Int → Option Int → Hp → VK → Prop) : Prop :=
  ∀ (pins : List (Addr × Obj)) (s : Shared) (σ : St) (H : Hp) (x : V) (v vl vu : Value) (lo hi : Option Int) (sl : Addr) (Q : VK), Inv X pins σ H s → RelV x v → s.heap.IsSliceOf sl vl vu .none → IsPart vl lo → IsPart vu hi → r x lo hi H Q →
    ∃ T id, typeLookup (.type T) "__getitem__" = pure (some (.builtin id)) ∧ s.TypeIs v T ∧ wpAny (model X.prog X.w) X.A (getItem v (.ref sl)) (EP X pins σ Q) X.xe s
noncomputable def tSl (r : V → Option Int → Option Int → Hp → VK → Prop) (te : TE) (tl th : TO) : TE := fun σ H Q => te σ H fun x H1 => tl σ H1 fun l H2 => th σ H2 fun u H3 => r x l u H3 Q
theorem pe_slice {r : V → Option Int → Option Int → Hp → VK → Prop} (hr : SlR X r) (he : PE X e te) (hl : PO X lo tl) (hu : PO X hi th) : PE X (.Subscript e (.Slice lo hi none p2) pos) (tSl r te tl th) := by
  intro pins s σ H Q I h
  refine Subscript_ (thn (he pins s σ H _ I h) fun v s1 ⟨x, H1, I1, r1, q1⟩ => ?_)
  refine wpAny_Slice (thn (hl pins s1 σ H1 _ I1 q1) fun vl s2 ⟨l, H2, I2, pl, q2⟩ => thn (hu pins s2 σ H2 _ I2 q2) fun vu s3 ⟨u, H3, I3, pu, q3⟩ => ?_)
  rw [evalPart_none]
  refine wpAny_pure ?_
  have I4 : Inv X pins σ H3 { s3 with heap := s3.heap.push { cls := .type "slice", data := .fields #[vl, vu, .none] } } := I3.kept (t' := s3.toks) fun b ob q => Heap.get?_push_of_some _ q
  obtain ⟨T, id, hT, ht, hg⟩ := hr pins { s3 with heap := s3.heap.push { cls := .type "slice", data := .fields #[vl, vu, .none] } } σ H3 x v vl vu l u s3.heap.objs.size Q I4 r1 (Heap.IsSliceOf.new ..) pl pu q3
  show wpAny (model X.prog X.w) X.A (subscriptTail e (.Slice lo hi none p2) v (.ref s3.heap.objs.size)) (EP X pins σ Q) X.xe { s3 with heap := s3.heap.push { cls := .type "slice", data := .fields #[vl, vu, .none] } }
  exact tail_any (ops := [.ref s3.heap.objs.size, v]) ht hT hg (by with_unfolding_all rfl)
noncomputable def cutV (xs : List V) (lo hi : Option Int) : List V := (xs.drop (HT.sIx xs.length 0 lo)).take (HT.sIx xs.length xs.length hi - HT.sIx xs.length 0 lo)
theorem cutV_length (xs : List V) (lo hi : Option Int) : (cutV xs lo hi).length ≤ xs.length := by
  unfold cutV
  rw [List.length_take, List.length_drop]
  omega
noncomputable def rSlT (K : PySem.W.Frag) : V → Option Int → Option Int → Hp → VK → Prop := fun x lo hi H Q => ∃ a xs, x = .ref a ∧ SqT K H a xs ∧
  ¬ (HT.sIx xs.length 0 lo = 0 ∧ HT.sIx xs.length xs.length hi = xs.length) ∧ ∀ p, H p = none → Q (.ref p) (upd H p (.tup (cutV xs lo hi)))
theorem sl_tup : SlR X (rSlT X.K) := by
  intro pins s σ H x v vl vu lo hi sl Q I rx hs pl pu h
  obtain ⟨a, xs, rfl, hx, hw, q⟩ := h
  cases rx
  obtain ⟨its, r, ht, hz⟩ := I.tuple hx
  have hlen : its.toArray.size = xs.length := by rw [List.size_toArray]; exact r.length.symm
  refine ⟨"tuple", _, PyProof.Rows.slot_tuple_getitem.lookup, ht.typeIs, ?_⟩
  refine HT.getItem_tuple_cut ht hs pl pu (by rw [hlen]; exact hw) ?_ (by rw [hlen]; exact hz)
  rw [hlen]
  refine ⟨.ref s.heap.objs.size, _, I.laid (t' := s.toks) (o := .tup (cutV xs lo hi)) (fun b ob q => Heap.get?_push_of_some _ q) (Nat.le_refl _) ?_, rfl, q _ (I.hok.fresh (Nat.le_refl _))⟩
  exact ⟨Nat.le_trans (cutV_length xs lo hi) hz, _, (r.drop (HT.sIx xs.length 0 lo)).take (HT.sIx xs.length xs.length hi - HT.sIx xs.length 0 lo), IsTup.new _ _⟩
theorem Vals.nil_iff {xs : List V} {us : List Value} (r : Vals xs us) : us = [] ↔ xs = [] := by
  cases r with
  | nil => simp
  | cons _ _ => simp
end
end L2
namespace L2
open PySem PySem.Spec PyProof.Rows
noncomputable def ixN (n : Nat) (i : Int) : Option Nat := if 0 ≤ i then (if i < n then some i.toNat else none) else if -(n : Int) ≤ i then some (i + n).toNat else none
noncomputable def atI {α : Type} (xs : List α) (i : Int) : Option α := (ixN xs.length i).bind fun j => xs[j]?
theorem ixN_seq {n : Nat} {i : Int} {j : Nat} (h : ixN n i = some j) : seqIndex? i n = some j ∧ j < n ∧ -(n : Int) ≤ i ∧ i < n := by
  unfold ixN at h
  by_cases h0 : 0 ≤ i
  · rw [if_pos h0] at h
    by_cases h1 : i < n
    · rw [if_pos h1] at h
      have e : i.toNat = j := Option.some.inj h
      exact ⟨by rw [seqIndex_of h0 h1, e], by omega, by omega, h1⟩
    · rw [if_neg h1] at h; cases h
  · rw [if_neg h0] at h
    by_cases h1 : -(n : Int) ≤ i
    · rw [if_pos h1] at h
      have e : (i + n).toNat = j := Option.some.inj h
      exact ⟨by rw [seqIndex_neg (by omega) h1, e], by omega, h1, by omega⟩
    · rw [if_neg h1] at h; cases h
theorem atI_get {α : Type} {xs : List α} {i : Int} {v : α} (h : atI xs i = some v) : ∃ j, seqIndex? i xs.length = some j ∧ xs[j]? = some v ∧ j < xs.length ∧ -(xs.length : Int) ≤ i ∧ i < xs.length := by
  unfold atI at h
  cases e : ixN xs.length i with
  | none => rw [e] at h; cases h
  | some j =>
    rw [e] at h
    obtain ⟨h1, h2, h3, h4⟩ := ixN_seq e
    exact ⟨j, h1, h, h2, h3, h4⟩
theorem atI_nat {α : Type} {xs : List α} {j : Nat} {v : α} (h : xs[j]? = some v) : atI xs (j : Int) = some v := by
  have hj : j < xs.length := (List.getElem?_eq_some_iff.mp h).1
  have e : ixN xs.length (j : Int) = some j := by
    unfold ixN
    rw [if_pos (by omega), if_pos (by omega)]; simp
  unfold atI; rw [e]; exact h
noncomputable def PlainIx (b : Expr) : Prop := ∀ o i, subscripted b false o i = operate [o, i] (getItem o i)
noncomputable def IxR (X : Cx) (r : R2) : Prop :=
  ∀ (value slice : Expr) (pins : List (Addr × Obj)) (s : Shared) (σ : St) (H : Hp) (x y : V) (v u : Value) (Q : VK), Inv X pins σ H s → RelV x v → RelV y u → r x y H Q →
    subscripted slice false v u = operate [v, u] (getItem v u) → wpAny (model X.prog X.w) X.A (subscriptTail value slice v u) (EP X pins σ Q) X.xe s
noncomputable def MtR (X : Cx) (id : String) (r : V → List V → Hp → VK → Prop) : Prop :=
  ∀ (pins : List (Addr × Obj)) (s : Shared) (σ : St) (H : Hp) (x : V) (xs : List V) (v : Value) (us : List Value) (Q : VK), Inv X pins σ H s → RelV x v → Vals xs us → r x xs H Q →
    wpAny (model X.prog X.w) X.A (call (.builtin id) (v :: us)) (EP X pins σ Q) X.xe s
section
variable {X : Cx} {a b : Expr} {ta tb : TE} {pos : Pos}
theorem pe_ix {r : R2} (hr : IxR X r) (ha : PE X a ta) (hb : PE X b tb) (hs : PlainIx b) : PE X (.Subscript a b pos) (tOp r ta tb) := by
  intro pins s σ H Q I h
  exact Subscript_ (binT ha hb I h fun v u s2 x y H2 I2 rx ry q => hr a b pins s2 σ H2 x y v u Q I2 rx ry q (hs _ _))
noncomputable def rIxL (K : PySem.W.Frag) : R2 := fun x y H Q => ∃ p xs i v, x = .ref p ∧ y = .int i ∧ SqL K H p xs ∧ atI xs i = some v ∧ Q v H
theorem ix_list : IxR X (rIxL X.K) := by
  intro value slice pins s σ H x y v u Q I rx ry h hs
  obtain ⟨p, xs, i, z, rfl, rfl, hq, he, q⟩ := h
  cases rx
  obtain ⟨t, rfl⟩ := ry
  obtain ⟨its, r, pl, hz⟩ := I.list hq
  obtain ⟨j, h1, h2, h3, h4, h5⟩ := atI_get he
  obtain ⟨w, ew, rw'⟩ := r.get h2
  have hl := r.length
  have hn := line63
  have fin : EP X pins σ Q w s := ⟨z, H, I, rw', q⟩
  by_cases h0 : 0 ≤ i
  · have hj : i.toNat = j := by
      rw [seqIndex_of h0 h5] at h1
      exact Option.some.inj h1
    exact item_listR pl.isList h0 (by omega) (by rw [hj]; simpa using ew) fin hs
  · have hj : (i + (its.toArray.size : Int)).toNat = j := by
      rw [seqIndex_neg (by omega) h4] at h1
      rw [List.size_toArray, ← hl]
      exact Option.some.inj h1
    exact subscriptTail_builtinR (x := w) pl.isList.typeIs slot_list_getitem.lookup
      (wpAny_getItem_list_neg (Q := fun r s' => r = w ∧ EP X pins σ Q r s') pl.isList (by omega) (by rw [List.size_toArray] <;> omega) (by omega) (by rw [hj]; simpa using ew) ⟨rfl, fin⟩) hs
theorem mapSeq_set (its : List Value) (n j : Nat) (u : Value) : Obj.mapSeq (·.setIfInBounds j u) { cls := .type "list", data := .seq its.toArray n } = { cls := .type "list", data := .seq (its.set j u).toArray n } := by
  simp [Obj.mapSeq]
theorem Inv.lst {pins : List (Addr × Obj)} {σ : St} {H : Hp} {s : Shared} {p : Addr} {xs : List V} (I : Inv X pins σ H s) (h : H p = some (.lst xs)) :
    ∃ (its : List Value) (n : Nat), Vals xs its ∧ s.heap.get? p = some { cls := .type "list", data := .seq its.toArray n } ∧ xs.length ≤ sizeLine := by
  obtain ⟨z, its, n, r, e⟩ := I.hok p _ h
  exact ⟨its, n, r, e, z⟩
theorem Inv.lstUpd {pins : List (Addr × Obj)} {σ : St} {H : Hp} {s : Shared} {p : Addr} {xs ys : List V} {its its' : List Value} {n n' : Nat} {f : Obj → Obj} (I : Inv X pins σ H s) (h : H p = some (.lst xs))
    (ho : s.heap.get? p = some { cls := .type "list", data := .seq its.toArray n }) (hf : f { cls := .type "list", data := .seq its.toArray n } = { cls := .type "list", data := .seq its'.toArray n' }) (r : Vals ys its') (hz : ys.length ≤ sizeLine) (t : Nat) :
    Inv X pins σ (upd H p (.lst ys)) { s with heap := s.heap.update p f, toks := t } := by
  have e : (s.heap.update p f).get? p = some { cls := .type "list", data := .seq its'.toArray n' } := by
    rw [Heap.get?_update_self f ho (by rw [hf] <;> rfl), hf]
  refine I.write (x := p) (e := p) (by rw [h]; trivial) (.inl rfl) (fun b u hb q => (Heap.get?_update_other _ _ (Ne.symm hb)).trans q) ⟨_, e⟩ ?_
  exact ⟨hz, its', n', r, e⟩
noncomputable def rSetL : V → V → V → Hp → (Hp → Prop) → Prop := fun o i v H Q => ∃ p xs k j, o = .ref p ∧ i = .int k ∧ H p = some (.lst xs) ∧ ixN xs.length k = some j ∧ Q (upd H p (.lst (xs.set j v)))
theorem set_list : PSet X rSetL := by
  intro pins s σ H o i v ov iv u Q I ro ri rv h
  obtain ⟨p, xs, k, j, rfl, rfl, hp, hj, q⟩ := h
  cases ro
  obtain ⟨t, rfl⟩ := ri
  obtain ⟨its, n, r, ho, hz⟩ := I.lst hp
  obtain ⟨h1, h2, h3, h4⟩ := ixN_seq hj
  have hl := r.length
  have hn := line63
  have I' : Inv X pins σ (upd H p (.lst (xs.set j v))) { s with heap := s.heap.update p (Obj.mapSeq (·.setIfInBounds j u)) } :=
    I.lstUpd hp ho (mapSeq_set its n j u) (r.set rv j) (by rw [List.length_set]; exact hz) s.toks
  by_cases h0 : 0 ≤ k
  · have hk : k.toNat = j := by
      rw [seqIndex_of h0 h4] at h1
      exact Option.some.inj h1
    exact PySem.W.ki_setAt ho h0 (by omega) (by rw [List.size_toArray, ← hl]; exact h4) (by rw [hk]; exact ⟨_, I', q⟩)
  · have hk : (k + (its.toArray.size : Int)).toNat = j := by
      rw [seqIndex_neg (by omega) h3] at h1
      rw [List.size_toArray, ← hl]
      exact Option.some.inj h1
    exact PySem.W.ki_setBack ho (by omega) (by rw [List.size_toArray, ← hl]; exact h3) (by omega) (by rw [hk]; exact ⟨_, I', q⟩)
noncomputable def flatV : V → Bool
  | .non => true
  | .bl _ => true
  | .int _ => true
  | .str _ => true
  | _ => false
noncomputable def eqV : V → V → Bool
  | .non, .non => true
  | .bl a, .bl b => a == b
  | .bl a, .int b => (if a then 1 else 0) == b
  | .int a, .bl b => a == (if b then 1 else 0)
  | .int a, .int b => a == b
  | .str a, .str b => a == b
  | _, _ => false
theorem eqAt_V {A : Around} {s : Shared} {y x : V} {u v : Value} (ry : RelV y u) (rx : RelV x v) (fy : flatV y = true) (fx : flatV x = true) : SeqAt.EqAt A s u v (eqV y x) := by
  cases y with
  | non =>
    cases ry
    cases x with
    | non => cases rx; exact SeqAt.EqAt.same _
    | bl b => cases rx; exact SeqAt.EqAt.none_bool b
    | int b => obtain ⟨t, rfl⟩ := rx; exact SeqAt.EqAt.none_int b t
    | str b => obtain ⟨t, rfl⟩ := rx; exact SeqAt.EqAt.none_str b t
    | _ => exact absurd (show false = true from fx) Bool.false_ne_true
  | bl a =>
    cases ry
    cases x with
    | non => cases rx; exact SeqAt.EqAt.bool_none a
    | bl b => cases rx; exact SeqAt.EqAt.bool_bool a b
    | int b => obtain ⟨t, rfl⟩ := rx; exact SeqAt.EqAt.bool_int a b t
    | str b => obtain ⟨t, rfl⟩ := rx; exact SeqAt.EqAt.bool_str a b t
    | _ => exact absurd (show false = true from fx) Bool.false_ne_true
  | int a =>
    obtain ⟨t', rfl⟩ := ry
    cases x with
    | non => cases rx; exact SeqAt.EqAt.int_none a t'
    | bl b => cases rx; exact SeqAt.EqAt.int_bool a t' b
    | int b => obtain ⟨t, rfl⟩ := rx; exact SeqAt.EqAt.int_int a t' b t
    | str b => obtain ⟨t, rfl⟩ := rx; exact SeqAt.EqAt.int_str a t' b t
    | _ => exact absurd (show false = true from fx) Bool.false_ne_true
  | str a =>
    obtain ⟨t', rfl⟩ := ry
    cases x with
    | non => cases rx; exact SeqAt.EqAt.str_none a t'
    | bl b => cases rx; exact SeqAt.EqAt.str_bool a t' b
    | int b => obtain ⟨t, rfl⟩ := rx; exact SeqAt.EqAt.str_int a t' b t
    | str b => obtain ⟨t, rfl⟩ := rx; exact SeqAt.EqAt.str_str a t' b t
    | _ => exact absurd (show false = true from fx) Bool.false_ne_true
  | _ => exact absurd (show false = true from fy) Bool.false_ne_true
theorem call_tuple_of : CallR X (.type "tuple") (fun xs H Q => ∃ p ys, xs = [.ref p] ∧ ((SqL X.K H p ys ∧ ∀ l, H l = none → Q (.ref l) (upd H l (.tup ys))) ∨ (SqT X.K H p ys ∧ Q (.ref p) H))) := by
  intro pins s σ H xs us Q I r h
  obtain ⟨p, ys, rfl, h⟩ := h
  obtain ⟨u, rfl, rx⟩ := vals1 r
  cases rx
  rcases h with ⟨hq, q⟩ | ⟨hq, q⟩
  · obtain ⟨its, r', pl, hz⟩ := I.list hq
    have hlen := r'.length
    refine call_tuple_list pl.isList (fun h' kp => ?_) (by simp only [List.size_toArray] <;> omega)
    have I1 : Inv X pins σ H { s with heap := h' } := I.kept (t' := s.toks) kp
    have I2 : Inv X pins σ (upd H h'.objs.size (.tup ys)) { s with heap := h'.push { cls := .type "tuple", data := .seq its.toArray } } :=
      I1.laid (t' := s.toks) (fun b o e => Heap.get?_push_of_some _ e) (Nat.le_refl _) (show ObjOk X.prog X.w _ _ _ (.tup ys) from ⟨hz, its, r', IsTup.new _ _⟩)
    exact ⟨.ref h'.objs.size, _, I2, rfl, q _ (I1.hok.fresh (Nat.le_refl _))⟩
  · obtain ⟨its, r', pl, hz⟩ := I.tuple hq
    exact call_tuple_same pl ⟨.ref p, H, I, rfl, q⟩
noncomputable def tyV (K : PySem.W.Frag) (T : String) (x : V) (H : Hp) : Prop := match x with
  | .str _ => T = "str"
  | .int _ => T = "int"
  | .ref p => (T = "list" ∧ ∃ xs, SqL K H p xs) ∨ (T = "tuple" ∧ ∃ o, K.lookup p = some o ∧ o.cls = .type "tuple" ∧ o.dict = none) ∨
      (T = "dict" ∧ ((∃ kvs, H p = some (.dK kvs)) ∨ ∃ kvs, H p = some (.dT kvs))) ∨ (T = "set" ∧ ∃ S n, H p = some (.set S n))
  | _ => False
theorem tyV_is {pins : List (Addr × Obj)} {σ : St} {H : Hp} {s : Shared} {T : String} {x : V} {v : Value} (I : Inv X pins σ H s) (r : RelV x v) (ty : tyV X.K T x H) :
    s.TypeIs v T ∧ ∀ a, v = .ref a → ∃ ob, s.heap.get? a = some ob ∧ ob.dict = none := by
  cases x with
  | str z =>
    obtain ⟨t, rfl⟩ := r
    cases (show T = "str" from ty)
    exact ⟨typeIs_str s z t, fun _ e => nomatch e⟩
  | int i =>
    obtain ⟨t, rfl⟩ := r
    cases (show T = "int" from ty)
    exact ⟨typeIs_int s i t, fun _ e => nomatch e⟩
  | ref p =>
    cases r
    rcases ty with ⟨rfl, xs, hq⟩ | ⟨rfl, o, hk, hc, hd⟩ | ⟨rfl, hk⟩ | ⟨rfl, S, n, hk⟩
    · obtain ⟨its, _, pl, _⟩ := I.list hq
      refine ⟨pl.isList.typeIs, fun a e => ?_⟩
      cases e
      obtain ⟨o, n, e, c, hd, _⟩ := pl
      exact ⟨o, e, hd⟩
    · refine ⟨⟨o, I.kIn p o hk, hc⟩, fun a e => ?_⟩
      cases e
      exact ⟨o, I.kIn _ o hk, hd⟩
    · have z : ∃ o, s.heap.get? p = some o ∧ o.ExactDict := by
        rcases hk with ⟨kvs, hk⟩ | ⟨kvs, hk⟩
        · obtain ⟨_, _, _, _, o, _, _, e, ex, _⟩ := I.hok p _ hk
          exact ⟨o, e, ex⟩
        · obtain ⟨_, _, _, _, o, _, _, e, ex, _⟩ := I.hok p _ hk
          exact ⟨o, e, ex⟩
      obtain ⟨o, e, ex⟩ := z
      refine ⟨⟨o, e, ex.1⟩, fun a e2 => ?_⟩
      cases e2
      exact ⟨o, e, ex.2.1⟩
    · obtain ⟨o, _, _, _, e, ex, _⟩ := I.hok p _ hk
      refine ⟨⟨o, e, ex.1⟩, fun a e2 => ?_⟩
      cases e2
      exact ⟨o, e, ex.2.1⟩
  | _ => exact False.elim ty
noncomputable def tBM (K : PySem.W.Frag) (T : String) (r : V → List V → Hp → VK → Prop) (to : TE) (t : TA) : TE := fun σ H Q => to σ H fun x H1 => tyV K T x H1 ∧ t σ H1 fun xs H2 => r x xs H2 Q
variable {o e : Expr} {es : List Expr} {to : TE} {t : TA} {name : Str} {apos cpos : Pos} {T id : String} {r : V → List V → Hp → VK → Prop}
theorem pe_bm (pa : PlainAttrs T) (slot : Slot T name id) (hty : typeOf (.builtin id) = pure (.type "method_descriptor")) (hm : MtR X id r) (ho : PE X o to) (ha : PA X (e :: es) t)
    (hbase : attributeBase o name X.env (eval o X.env) = eval o X.env := by rfl)
    (hfew : ((backTo cpos (starEach (e :: es) X.env)).all (fun x => !x.1) && (backToKw cpos (keywordEach [] X.env)).all (fun x => x.1.isSome)
      && decide ((e :: es).length + ([] : List Keyword).length + (if ([] : List Keyword).isEmpty then 0 else 1) < 30)) = true := by rfl)
    (hline : (apos.endLine == cpos.line) = true := by rfl) (hs : starEach (e :: es) X.env = (false, eval e X.env) :: starEach es X.env := by rfl) (hplain : (backTo cpos (starEach es X.env)).any (·.1) = false := by rfl) :
    PE X (.Call (.Attribute o name apos) (e :: es) [] cpos) (tBM X.K T r to t) := by
  intro pins s σ H Q I h
  refine wpAny_Call_method_late hbase hfew hline rfl (thn (ho pins s σ H _ I h) fun v s1 ⟨x, H1, I1, r1, ty, q1⟩ => ?_)
  obtain ⟨h1, h2⟩ := tyV_is I1 r1 ty
  refine ⟨T, id, pa, slot, hty, h1, h2, ?_⟩
  have hA := ha cpos pins s1 σ H1 _ I1 q1
  rw [hs] at hA ⊢
  refine Calls.callWith_builtin (by show (false || (backTo cpos (starEach es X.env)).any (·.1)) = false; rw [hplain] <;> rfl) (Calls.evalArgs_plain ?_)
  exact thn hA fun us s2 ⟨vs, H2, I2, r2, q2⟩ => hm pins s2 σ H2 x vs v us Q I2 r1 r2 q2
end
end L2
namespace L2
open PySem PySem.Spec PyProof.Rows
noncomputable def MtM (X : Cx) (id : String) (r : V → List V → Hp → VK → Prop) : Prop :=
  ∀ (pins : List (Addr × Obj)) (s : Shared) (σ : St) (H : Hp) (x : V) (xs : List V) (v : Value) (us : List Value) (Q : VK), Inv X pins σ H s → RelV x v → Vals xs us → r x xs H Q →
    wpAny (model X.prog X.w) X.A (call (.builtin id) (v :: us)) (EP X pins σ Q) X.xe s
theorem Vals.one : ∀ {x : V} {us : List Value}, Vals [x] us → ∃ u, us = [u] ∧ RelV x u
  | _, _, .cons r .nil => ⟨_, rfl, r⟩
theorem Vals.rep {xs : List V} {us : List Value} (h : Vals xs us) : ∀ k : Nat, Vals (List.replicate k xs).flatten (List.replicate k us).flatten
  | 0 => .nil
  | k + 1 => by
    rw [List.replicate_succ, List.replicate_succ, List.flatten_cons, List.flatten_cons]
    exact Vals.append h (Vals.rep h k)
theorem foldl_rep (its : List Value) : ∀ (k : Nat) (acc : List Value),
    List.foldl (fun x1 x2 => x1 ++ x2) acc.toArray (List.replicate k its.toArray) = (acc ++ (List.replicate k its).flatten).toArray
  | 0, acc => by simp
  | k + 1, acc => by
    have e : acc.toArray ++ its.toArray = (acc ++ its).toArray := by simp
    have e2 : (acc ++ its) ++ (List.replicate k its).flatten = acc ++ (List.replicate (k + 1) its).flatten := by
      rw [List.replicate_succ, List.flatten_cons, List.append_assoc]
    rw [← e2, ← foldl_rep its k (acc ++ its), ← e, List.replicate_succ, List.foldl_cons]
section
variable {X : Cx} {pins : List (Addr × Obj)} {σ : St} {H : Hp} {s : Shared} {l b : Addr} {xs ys zs : List V}
theorem Inv.lset {its its' : List Value} {n : Nat} {f : Array Value → Array Value} {t' : Nat} (I : Inv X pins σ H s) (hH : H l = some (.lst xs))
    (e : s.heap.get? l = some { cls := .type "list", data := .seq its.toArray n }) (hf : f its.toArray = its'.toArray) (hv : Vals ys its') (hz : ys.length ≤ sizeLine) :
    Inv X pins σ (upd H l (.lst ys)) { s with heap := s.heap.update l (Obj.mapSeq f), toks := t' } := by
  have q := PySem.IsL.update e f
  rw [hf] at q
  refine I.write (x := l) (e := l) (by rw [hH]; exact trivial) (.inl rfl) (fun b' u hb hu => (Heap.get?_update_other s.heap (Obj.mapSeq f) (Ne.symm hb)).trans hu) ⟨_, q⟩ ?_
  exact ⟨hz, its', _, hv, q⟩
theorem Inv.lnew {its : List Value} {t' : Nat} (I : Inv X pins σ H s) (hv : Vals ys its) (hz : ys.length ≤ sizeLine) :
    Inv X pins σ (upd H s.heap.objs.size (.lst ys)) { s with heap := s.heap.push { cls := .type "list", data := .seq its.toArray }, toks := t' } :=
  I.laid (fun _ _ q => Heap.get?_push_of_some _ q) (Nat.le_refl _) ⟨hz, its, 0, hv, Heap.get?_push_size _ rfl⟩
theorem Inv.fresh (I : Inv X pins σ H s) : H s.heap.objs.size = none := I.hok.fresh (Nat.le_refl _)
theorem Inv.lstM (I : Inv X pins σ H s) (hH : H l = some (.lst xs)) : xs.length ≤ sizeLine ∧ ∃ (its : List Value) (n : Nat), Vals xs its ∧ xs.length = its.length ∧ s.heap.get? l = some { cls := .type "list", data := .seq its.toArray n } := by
  obtain ⟨z, its, n, r, e⟩ := I.hok l _ hH
  exact ⟨z, its, n, r, r.length, e⟩
theorem notLongL {n : Nat} (h : n ≤ sizeLine) : Builtin.List.listTooLong n = false := by
  unfold Builtin.List.listTooLong
  exact decide_eq_false (by omega)
end
section
variable {X : Cx}
noncomputable def rAppend : V → List V → Hp → VK → Prop := fun x vs H Q => ∃ l xs y, x = .ref l ∧ vs = [y] ∧ H l = some (.lst xs) ∧ xs.length < sizeLine ∧ Q .non (upd H l (.lst (xs ++ [y])))
theorem mt_append : MtM X "list.append" rAppend := by
  intro pins s σ H x vs v us Q I rx rv h
  obtain ⟨l, xs, y, rfl, rfl, hH, hz, q⟩ := h
  cases rx
  obtain ⟨u, rfl, ru⟩ := rv.one
  obtain ⟨z, its, n, r, hl, e⟩ := I.lstM hH
  refine call_meets F.slot_list_append ⟨_, e, rfl⟩ F.entry_list_append (F.args_list_append_2 _ _) (PySem.list_append l its.toArray n u (by rw [List.size_toArray]; omega)) ⟨e, ?_⟩
  refine ⟨.non, _, I.lset (its' := its ++ [u]) hH e (by simp) (r.append (.cons ru .nil)) ?_, rfl, q⟩
  rw [List.length_append, List.length_singleton]
  omega
noncomputable def rCat : R2 := fun x y H Q => ∃ l b xs zs, x = .ref l ∧ y = .ref b ∧ H l = some (.lst xs) ∧ H b = some (.lst zs) ∧ xs.length + zs.length ≤ sizeLine ∧ ∀ p, H p = none → Q (.ref p) (upd H p (.lst (xs ++ zs)))
theorem op_cat : OpR X (binaryOp .Add) rCat := by
  intro pins s σ H x y v u Q I rx ry h
  obtain ⟨l, b, xs, zs, rfl, rfl, hH, hB, hz, q⟩ := h
  cases rx
  cases ry
  obtain ⟨z, its, n, r, hl, e⟩ := I.lstM hH
  obtain ⟨z2, its2, n2, r2, hl2, e2⟩ := I.lstM hB
  refine PySem.P.add_list e e2 ?_ (by rw [List.size_toArray, List.size_toArray]; omega)
  have ea : its.toArray ++ its2.toArray = (its ++ its2).toArray := by simp
  rw [ea]
  exact ⟨.ref _, _, I.lnew (t' := s.toks) (r.append r2) (by rw [List.length_append]; omega), rfl, q _ I.fresh⟩
noncomputable def rRep : R2 := fun x y H Q => ∃ l k xs, x = .ref l ∧ y = .int k ∧ H l = some (.lst xs) ∧ -(2 ^ 63) ≤ k ∧ k < 2 ^ 63 ∧ xs.length * k.toNat ≤ sizeLine ∧
  ∀ p, H p = none → Q (.ref p) (upd H p (.lst (List.replicate k.toNat xs).flatten))
theorem len_rep {α : Type} (xs : List α) (k : Nat) : (List.replicate k xs).flatten.length = k * xs.length := by
  induction k with
  | zero => simp
  | succ k ih => rw [List.replicate_succ, List.flatten_cons, List.length_append, ih, Nat.succ_mul, Nat.add_comm]
theorem op_rep : OpR X (binaryOp .Mult) rRep := by
  intro pins s σ H x y v u Q I rx ry h
  obtain ⟨l, k, xs, rfl, rfl, hH, h1, h2, hz, q⟩ := h
  cases rx
  obtain ⟨t, rfl⟩ := ry
  obtain ⟨z, its, n, r, hl, e⟩ := I.lstM hH
  have hlen : its.toArray.size * k.toNat ≤ sizeLine := by rw [List.size_toArray, ← hl]; exact hz
  have hcap : ¬ its.toArray.size * k.toNat > (2 ^ 63 - 1) / 8 := by
    have : (sizeLine : Nat) ≤ (2 ^ 63 - 1) / 8 := by decide
    omega
  have hfit : ¬ (!Builtin.List.listFitsIndex k) = true := by
    rw [fitsIndex_both h1 h2]
    exact Bool.false_ne_true
  have hlong : ¬ Builtin.List.listTooLong (its.toArray.size * k.toNat) = true := by
    rw [notLongL hlen]
    exact Bool.false_ne_true
  have hnew : List.foldl (fun x1 x2 => x1 ++ x2) #[] (List.replicate (if its.toArray.isEmpty = true then 0 else k.toNat) its.toArray) = (List.replicate k.toNat its).flatten.toArray := by
    have f0 : ∀ m : Nat, List.foldl (fun x1 x2 => x1 ++ x2) #[] (List.replicate m its.toArray) = (List.replicate m its).flatten.toArray := fun m => by
      have := foldl_rep its m []
      rw [List.nil_append] at this
      exact this
    rw [f0]
    cases its with
    | nil => simp
    | cons a r' => rw [if_neg (by simp)]
  refine wpAny_binaryOp_repeat_ref (T := "list") (U := "int") (by decide) ⟨_, e, rfl⟩ (fun s' => typeIs_int s' k t) noFill_list_mul F.fills_int_mul F.slot_int_rmul repeat_list F.slot_int_index.lookup
    (call_meets F.slot_int_rmul (typeIs_int s k t) F.entry_int_rmul (F.args_int_rmul_2 _ _) (int___rmul___int_list k t l its.toArray n)
      ⟨e, rfl, ⟨_, e, rfl⟩, call_meets F.slot_list_mul ⟨_, e, rfl⟩ F.entry_list_mul (F.args_list_mul_2 _ _) (AutoListH.list___mul___list_int_3 l its.toArray n k t hfit hcap hlong) ⟨e, ?_⟩⟩)
  rw [hnew]
  exact ⟨.ref _, _, I.lnew (t' := s.toks) (r.rep k.toNat) (by rw [len_rep, Nat.mul_comm]; exact hz), rfl, q _ I.fresh⟩
end
section
variable {prog : Program} {w : World} {A : Around} {E : Value → Shared → Prop} {s : Shared}
set_option maxRecDepth 100000 in
end
section
variable {X : Cx}
end
end L2
namespace L2
open PySem PySem.Spec PyProof.Rows
section
variable {κ : Type} [DecidableEq κ]
end
section
variable {P : Program} {w : World} {H : Hp} {h : Heap} {a : Addr}
end
section
variable {X : Cx} {pins : List (Addr × Obj)} {σ : St} {H : Hp} {s : Shared} {a : Addr} {y v : V} {u r : Value} {o : Option V} {A : Around} {E : Value → Shared → Prop}
end
section
variable {X : Cx} {pins : List (Addr × Obj)} {σ : St} {H : Hp} {s : Shared} {a : Addr} {kvs : List (Key × V)} {k : Key} {u : Value} {A : Around} {E : Value → Shared → Prop}
end
section
variable {X : Cx} {o i e value : Expr} {pos pos' tpos : Pos} {td ty tv : TE}
end
section
variable {X : Cx} {pos : Pos}
end
section
variable {X : Cx} {pins : List (Addr × Obj)} {σ : St} {H : Hp} {s : Shared} {a : Addr} {y d : V} {u r : Value} {o : Option V} {A : Around} {E : Value → Shared → Prop}
end
section
variable {X : Cx} {o e f : Expr} {apos cpos : Pos} {td ty tx : TE}
end
section
variable {X : Cx} {pins : List (Addr × Obj)} {σ : St} {H : Hp} {s : Shared} {a : Addr} {kvs : List (Key × V)} {A : Around} {E : Value → Shared → Prop}
end
section
variable {X : Cx} {pins : List (Addr × Obj)} {σ : St} {H : Hp} {s : Shared} {a : Addr} {y : V} {u : Value} {A : Around} {E : Value → Shared → Prop}
end
end L2
namespace Att
open PySem PySem.W PySem.Calls PyProof.Rows
theorem ints_of_wellAll {P : Params} {h : Heap} : ∀ (ns : List Int) (vs : List Value), WellAll P h vs (ns.map WData.int) → IntsAre vs ns := by
  intro ns
  induction ns with
  | nil =>
    intro vs w
    rw [List.map_nil] at w
    cases w
    exact .nil
  | cons n ns ih =>
    intro vs w
    rw [List.map_cons] at w
    cases w with
    | cons a b =>
      cases a
      exact .cons _ _ (ih _ b)
theorem script_of {l : OpenLaw} {n : Nat} (hn : l.most = some n) {P : Params} {h : Heap} {args : List WData} {vals : List Value}
    (hpre : l.row.toRowW.claim.pre args = true) (hwl : WellAll P h vals args) :
    ∃ a vs ns, vals = [Value.ref a] ∧ args = [WData.list (ns.map WData.int)] ∧ h.get? a = some { cls := .type "list", data := .seq vs.toArray } ∧ IntsAre vs ns ∧ ns.length ≤ n := by
  have hsh : WShape.hasAll [] args [.list .int] = true := (pre_splitW hpre).1
  have hc : l.pre.holds [] { args := args } = true := (pre_splitW hpre).2
  obtain ⟨d, r, rfl, h1, h2⟩ := hasAllW_cons hsh
  obtain rfl := hasAllW_nil h2
  obtain ⟨xs, rfl, h3⟩ := hasW_list h1
  obtain ⟨ns, rfl⟩ := items_int h3
  have hlen : ns.length ≤ n := by
    unfold OpenLaw.pre at hc
    have h4 : (WTm.not (.lt (.lit (.int (n : Int))) (.len (.arg 0)))).holds [] { args := [.list (ns.map .int)] } = true := by
      have h4 := (holds_andW hc).1
      rw [hn] at h4
      exact h4
    have h5 := condW_of h4 (w_not (w_lt w_lit (w_len_list (w_arg rfl))))
    rw [List.length_map] at h5
    refine Nat.le_of_not_lt fun q => ?_
    have q' : (n : Int) < ((ns.length : Nat) : Int) := by omega
    first
      | (rw [decide_eq_true q'] at h5; exact absurd h5 (by decide))
      | (simp at h5; omega)
  cases hwl with
  | cons w1 w2 =>
    cases w2
    cases w1 with
    | list ho hall => exact ⟨_, _, ns, rfl, rfl, ho, ints_of_wellAll ns _ hall, hlen⟩
theorem post_true (l : OpenLaw) (args : List WData) : l.row.toRowW.claim.post args (.bool true) args = true :=
  postW_of (r := l.row.toRowW) (X := (true == true))
    (show WShape.has [] (.bool true) .bool = true by first | rfl | decide | simp [WShape.has, WShape.arms, WShape.armsAll])
    (show (WTm.eq .res (.lit (.bool true))).value [] { args := args, res := some (.bool true), after := args } = some (.bool (true == true)) from w_eq_bool (w_res rfl) w_lit) rfl
theorem attach_call {l : OpenLaw} {n : Nat} {q : Program} {loose : List Str} {XP : (Str → Option Value) → Heap → Prop} {YP : World → Heap → Prop} {d : DefRec}
    (hn : l.most = some n) (hdf : d.params.defaults = [])
    (call : ∀ (w : World) (s₀ s₁ : Shared) (mg mb : Str → Option Value) (fa : Addr) (o : Obj) (pm cd doc : Value) (a : Addr) (vs : List Value) (ns : List Int),
      Ground q loose [] XP w s₀ mg mb s₁.heap → YP w s₁.heap →
      s₁.heap.get? fa = some o → o.data = .func (docDef d.name d.params d.body d.scope pm cd doc) → s₁.heap.CodeRec cd d.name → mg d.name = some (.ref fa) →
      s₁.heap.get? a = some { cls := .type "list", data := .seq vs.toArray } → IntsAre vs ns → ns.length ≤ n → s₁.gens = #[] →
      codeAny (model l.prog w) callerA (.call (.ref fa) ⟨[.ref a], []⟩) (fun r s' => r = .ok (.ret (.bool true)) ∧ OldK s₁.heap s'.heap ∧ s'.os = s₁.os ∧ AllBare s'.gens) s₁) :
    WalkO q loose XP YP l.row.toRowW d [] (fun f vs => PySem.call f vs) := by
  intro w s₀ s₁ mg mb G Y fa o pm cd doc dV kV ho hd hcd hD hmg hg args vals as hpre hlay hrd hwl hlo
  obtain rfl : dV = .none := Dflts.none hD hdf
  obtain rfl : kV = .none := Dflts.noKw hD
  obtain ⟨a, vs, ns, rfl, rfl, hobj, hints, hlen⟩ := script_of hn hpre hwl
  refine enter_call (codeAny_mono (call w s₀ s₁ mg mb fa o pm cd doc a vs ns G Y ho (fd_plain hd) hcd hmg hobj hints hlen hg) fun r s' hq => ?_)
  obtain ⟨rfl, h2, h3, h4⟩ := hq
  exact ⟨.inl ⟨.bool true, .bool true, [], rfl, fun _ => rfl, .bool true, post_true l _, fun _ => ⟨List.Pairwise.nil, fun _ hm => (nomatch hm)⟩⟩, h2, h3, h4⟩
section
variable {prog : Program} {w : World} {A : Around} {E : Value → Shared → Prop} {s : Shared} {K : Frag}
end
end Att
namespace L2
open PySem PySem.Spec PyProof.Rows
theorem vals_ints : ∀ {vs : List Value} {ns : List Int}, IntsAre vs ns → Vals (ns.map V.int) vs
  | _, _, .nil => .nil
  | _, _, .cons n t h => .cons ⟨t, rfl⟩ (vals_ints h)
end L2
namespace L2
open PySem PySem.Spec PyProof.Rows
end L2
namespace L2
open PySem PySem.Spec PyProof.Rows
noncomputable def defArgs (s : Stmt) : Arguments := match s with
  | .FunctionDef _ a _ _ _ _ _ _ _ _ => a
  | _ => { posonlyargs := [], args := [], vararg := none, kwonlyargs := [], kw_defaults := [], kwarg := none, defaults := [] }
noncomputable def defBody (s : Stmt) : List Stmt := match s with
  | .FunctionDef _ _ b _ _ _ _ _ _ _ => b
  | _ => []
noncomputable def defScope (s : Stmt) : Scope := match s with
  | .FunctionDef _ _ _ _ _ _ sc _ _ _ => sc
  | _ => { kind := .function, names := [], isGenerator := false, isCoroutine := false }
noncomputable abbrev CX0 : CXT := fun _ _ _ _ _ _ => False
noncomputable abbrev E0 : XK := fun _ _ _ => False
theorem pass0 {X : Cx} : Passes CX0 X E0 := fun _ _ _ _ _ _ _ h => h.elim
structure Fun (K : PySem.W.Frag) (x qual : Str) (st : Stmt) (f : Addr) (fd : FuncData) : Prop where
  ex : ∃ (oc : Value) (od : Option Addr) (kV doc pm : Value) (an : Option Addr) (cdv ct : Value) (osl : Array (Option Value)),
    fd = PySem.W.fnOf x qual (defArgs st) (defBody st) (defScope st) .none kV doc pm an cdv ct ∧ K.lookup f = some ⟨oc, od, .func fd, osl⟩ ∧ PySem.W.codeIn K cdv qual = true
  kp : PySem.W.keepIn K (.ref f) = true
section
variable {P : Program} {w : World} {K : PySem.W.Frag} {mg : Str → Option Value} {base : Heap}
theorem Fun.ok {x qual : Str} {st : Stmt} {f : Addr} {fd : FuncData} {N ps : List Str} {k : Nat} {sp : Sp} (F : Fun K x qual st f fd) (S : FnScope N ps (defScope st)) (len : ∀ vs H Q E, sp vs H Q E → vs.length = ps.length)
    (hbody : ∀ (cdv : Value) (A : Around) (outer : List Env) (s : Shared) (H : Hp) (vs : List V) (Q : VK) (E : XK), Room k (A.deeper (envOfC qual (defScope st) s.heap.objs.size f cdv)) → sp vs H Q E →
      ∃ t, PSs (cxOf CX0 P w K mg base N qual (defScope st) f cdv A outer s H E).nox (defBody st) t ∧ t { nx := fun _ H' => Q .non H', rt := Q } (start N vs) H) : FnOk P w K mg base CX0 (k + 1) f fd ps sp := by
  obtain ⟨oc, od, kV, doc, pm, an, cdv, ct, osl, rfl, lk, hcd⟩ := F.ex
  refine fn_of lk hcd S len fun A outer s H vs Q E hr hsp => ?_
  obtain ⟨t, h, q⟩ := hbody cdv A outer s H vs Q E hr hsp
  exact ⟨t, h.nox, q⟩
theorem Fun.binds {x qual : Str} {st : Stmt} {f : Addr} {fd : FuncData} {ps : List Str} (F : Fun K x qual st f fd)
    (h : ∀ (kV doc pm : Value) (an : Option Addr) (cdv ct : Value) (us : List Value), us.length = ps.length → bindArgs (PySem.W.fnOf x qual (defArgs st) (defBody st) (defScope st) .none kV doc pm an cdv ct) ⟨us, []⟩ = pure (ps.zip us)) : Binds K fd ps [] := by
  obtain ⟨oc, od, kV, doc, pm, an, cdv, ct, osl, rfl, lk, hcd⟩ := F.ex
  exact .all (h kV doc pm an cdv ct)
theorem fun_mk {x qual : Str} {st : Stmt} {f : Addr} {oc : Value} {od an : Option Addr} {osl : Array (Option Value)} {kV doc pm cdv ct : Value} (l : K.lookup f = some ⟨oc, od, .func (PySem.W.fnOf x qual (defArgs st) (defBody st) (defScope st) .none kV doc pm an cdv ct), osl⟩)
    (c : PySem.W.codeIn K cdv qual = true) (k : PySem.W.keepIn K (.ref f) = true) : Fun K x qual st f (PySem.W.fnOf x qual (defArgs st) (defBody st) (defScope st) .none kV doc pm an cdv ct) := ⟨⟨oc, od, kV, doc, pm, an, cdv, ct, osl, rfl, l, c⟩, k⟩
end
section
variable {X : Cx}
theorem pv (i : Nat) {x : Str} {pos : Pos} (hN : X.N[i]? = some x := by rfl) (hv : Vis X.env.scope x := by first | exact Or.inl rfl | exact Or.inr (Or.inl rfl) | exact Or.inr (Or.inr rfl)) (hd : (x == ("__debug__" : Str)) = false := by decide)
    (hcd : (x == ("__classdict__" : Str)) = false := by decide) : PE X (.Name x pos) (tVar i) := pe_var hN hv hd hcd
end
theorem iteF {A B : Prop} (h : B) : if false = true then A else B := by
  rw [if_neg Bool.false_ne_true]
  exact h
theorem iteT {A B : Prop} (h : A) : if true = true then A else B := by
  rw [if_pos rfl]
  exact h
theorem ite2 {c A B : Prop} [Decidable c] (h1 : c → A) (h2 : ¬ c → B) : if c then A else B := by
  by_cases h : c
  · rw [if_pos h]
    exact h1 h
  · rw [if_neg h]
    exact h2 h
theorem iteNS {c A B : Prop} [Decidable c] (hc : c) (h : B) : if (!decide c) = true then A else B := by
  rw [decide_eq_true hc]
  exact iteF h
noncomputable def Same (H H' : Hp) : Prop := ∀ b o, H b = some o → H' b = some o
theorem Same.refl (H : Hp) : Same H H := fun _ _ h => h
theorem Same.trans {H H1 H2 : Hp} (a : Same H H1) (b : Same H1 H2) : Same H H2 := fun c o h => b c o (a c o h)
theorem Same.free {H H' : Hp} (e : Same H H') {l : Addr} (h : H' l = Option.none) : H l = Option.none := by
  cases q : H l with
  | none => rfl
  | some o =>
    rw [e l o q] at h
    cases h
theorem Same.seq {K : PySem.W.Frag} {H H' : Hp} {a : Addr} {xs : List V} (e : Same H H') (h : SqL K H a xs) : SqL K H' a xs := by
  rcases h with (h | ⟨o, h⟩) | h
  · exact .inl (.inl (e _ _ h))
  · exact .inl (.inr ⟨o, e _ _ h⟩)
  · exact .inr h
section
variable {κ : Type} [DecidableEq κ]
end
end L2
end
section
set_option Elab.async false
set_option linter.all false
set_option maxRecDepth 100000
set_option maxHeartbeats 4000000
namespace L2
open PySem PySem.Spec PyProof.Rows
noncomputable def closeL (env : Env) : List (Str × NameKind) → List (Str × Addr) → List (Str × Addr)
  | [], cs => cs
  | (n, k) :: r, cs => closeL env r (if (k == NameKind.free) = true then (match env.cells.lookup n with | some c => (n, c) :: cs | none => cs) else cs)
theorem closure_run (env : Env) : ∀ (names : List (Str × NameKind)) (cs : List (Str × Addr)), (∀ p ∈ names, p.2 = NameKind.free → ∃ c, env.cells.lookup p.1 = some c) →
    (forIn names cs fun (x : Str × NameKind) (r : List (Str × Addr)) => if (x.2 == NameKind.free) = true then do
        let c ← cellOf env x.1
        pure (ForInStep.yield ((x.1, c) :: r)) else pure (ForInStep.yield r) : Sem (List (Str × Addr))) = pure (closeL env names cs)
  | [], cs, _ => rfl
  | (n, k) :: r, cs, h => by
    rw [List.forIn_cons]
    cases hk : (k == NameKind.free) with
    | false =>
      have e : closeL env ((n, k) :: r) cs = closeL env r cs := by simp [closeL, hk]
      rw [e]
      simp only [hk, Bool.false_eq_true, if_false, pure_bind]
      exact closure_run env r cs fun p hp => h p (List.mem_cons_of_mem _ hp)
    | true =>
      obtain ⟨c, hc⟩ := h (n, k) List.mem_cons_self (by simpa using hk)
      have hc : env.cells.lookup n = some c := hc
      have e : closeL env ((n, k) :: r) cs = closeL env r ((n, c) :: cs) := by simp [closeL, hk, hc]
      have e2 : cellOf env n = pure c := by unfold cellOf; rw [hc]
      rw [e]
      simp only [hk, if_true, e2, pure_bind]
      exact closure_run env r _ fun p hp => h p (List.mem_cons_of_mem _ hp)
theorem closureFor_eq {scope : Scope} {env : Env} (h : ∀ p ∈ scope.names, p.2 = NameKind.free → ∃ c, env.cells.lookup p.1 = some c) : closureFor scope env = pure (closeL env scope.names []) := by
  unfold closureFor
  have := closure_run env scope.names [] h
  simp only [bind_pure]
  exact this
theorem close_step (env : Env) (n : Str) (k : NameKind) (cs : List (Str × Addr)) (x : Str) (c : Addr) (h : (if (k == NameKind.free) = true then (match env.cells.lookup n with | some c => (n, c) :: cs | none => cs) else cs).lookup x = some c) :
    cs.lookup x = some c ∨ env.cells.lookup x = some c := by
  split at h
  · cases e : env.cells.lookup n with
    | none => rw [e] at h; exact .inl h
    | some d =>
      rw [e] at h
      dsimp only at h
      rw [List.lookup_cons] at h
      cases hx : x == n with
      | true =>
        rw [hx] at h
        have hx' : x = n := eq_of_beq hx
        rw [hx']
        exact .inr (e.trans h)
      | false => rw [hx] at h; exact .inl h
  · exact .inl h
theorem closeL_sub (env : Env) : ∀ (names : List (Str × NameKind)) (cs : List (Str × Addr)) (x : Str) (c : Addr), (closeL env names cs).lookup x = some c → cs.lookup x = some c ∨ env.cells.lookup x = some c
  | [], _, _, _, h => .inl h
  | (n, k) :: r, cs, x, c, h => by
    unfold closeL at h
    rcases closeL_sub env r _ x c h with h' | h'
    · exact close_step env n k cs x c h'
    · exact .inr h'
theorem closeL_keep (env : Env) : ∀ (names : List (Str × NameKind)) (cs : List (Str × Addr)) (x : Str), (∃ c, cs.lookup x = some c) → ∃ c, (closeL env names cs).lookup x = some c
  | [], _, _, h => h
  | (n, k) :: r, cs, x, h => by
    unfold closeL
    refine closeL_keep env r _ x ?_
    split
    · cases e : env.cells.lookup n with
      | none => exact h
      | some d =>
        dsimp only
        rw [List.lookup_cons]
        cases hx : x == n with
        | true => exact ⟨d, rfl⟩
        | false => exact h
    · exact h
theorem closeL_has (env : Env) : ∀ (names : List (Str × NameKind)) (cs : List (Str × Addr)) (x : Str), (x, NameKind.free) ∈ names → (∃ c, env.cells.lookup x = some c) → ∃ c, (closeL env names cs).lookup x = some c
  | [], _, _, h, _ => by simp at h
  | (n, k) :: r, cs, x, h, ⟨c, hc⟩ => by
    unfold closeL
    rcases List.mem_cons.mp h with e | h
    · obtain ⟨rfl, rfl⟩ := Prod.mk.inj e
      refine closeL_keep env r _ _ ?_
      rw [hc]
      simp [List.lookup_cons]
    · exact closeL_has env r _ x h ⟨c, hc⟩
noncomputable def lcOk (sc outer : Scope) (x : Str) (M : List Str) : Bool :=
  (sc.kind == .function) && sc.names.all (fun p => p.2 != NameKind.cell) && (sc.names.lookup x == some NameKind.local) && sc.names.all (fun p => p.2 != NameKind.local || sc.names.lookup p.1 == some NameKind.local) &&
  sc.names.all (fun p => p.2 != NameKind.free || (outer.names.lookup p.1 == some NameKind.cell || outer.names.lookup p.1 == some NameKind.free)) && M.all (fun y => sc.names.lookup y != some NameKind.local)
structure LcOk (sc outer : Scope) (x : Str) (M : List Str) : Prop where
  kind : sc.kind = .function
  nocell : ∀ p ∈ sc.names, p.2 ≠ NameKind.cell
  var : sc.names.lookup x = some NameKind.local
  locs : ∀ p ∈ sc.names, p.2 = NameKind.local → sc.names.lookup p.1 = some NameKind.local
  free : ∀ p ∈ sc.names, p.2 = NameKind.free → outer.names.lookup p.1 = some NameKind.cell ∨ outer.names.lookup p.1 = some NameKind.free
  out : ∀ y ∈ M, sc.names.lookup y ≠ some NameKind.local
theorem LcOk.of {sc outer : Scope} {x : Str} {M : List Str} (h : lcOk sc outer x M = true) : LcOk sc outer x M := by
  unfold lcOk at h
  simp only [Bool.and_eq_true, List.all_eq_true] at h
  obtain ⟨⟨⟨⟨⟨h1, h2⟩, h3⟩, h4⟩, h5⟩, h6⟩ := h
  refine ⟨eq_of_beq h1, fun p hp => by simpa using h2 p hp, eq_of_beq h3, fun p hp e => ?_, fun p hp e => ?_, fun y hy => by simpa using h6 y hy⟩
  · have := h4 p hp
    rw [e] at this
    simpa using this
  · have := h5 p hp
    rw [e] at this
    simpa using this
noncomputable def blk (X : Cx) (sc : Scope) (x : Str) (M : List Str) (C : Addr) (s : Shared) (H : Hp) (fp : List Addr) : Cx :=
  { X with env := compEnvC sc (closeL X.env sc.names []) C X.env, N := x :: M, s₀ := s, H₀ := H, outer := X.stack, ex := fp, fn := fun _ => false, pn := [], xe := fun _ _ => False }
theorem mem_of_lookup_relabel {env : Env} {k : NameKind} : ∀ {names : List (Str × NameKind)} {x : Str}, (∀ p ∈ names, p.2 ≠ NameKind.cell) →
    (names.map fun (n, k) => if (k == NameKind.free && env.scope.kind == .function && env.kindOf n == some .cell) then (n, NameKind.cell) else (n, k)).lookup x = some k → k = NameKind.cell ∨ k = NameKind.free → (x, NameKind.free) ∈ names
  | [], _, _, h, _ => by simp at h
  | (n, k') :: r, x, hc, h, hk => by
    have ih := @mem_of_lookup_relabel env k r x (fun p hp => hc p (List.mem_cons_of_mem _ hp))
    have h : List.lookup x ((if (k' == NameKind.free && env.scope.kind == .function && env.kindOf n == some .cell) = true then (n, NameKind.cell) else (n, k')) :: (r.map fun (n, k) => if (k == NameKind.free && env.scope.kind == .function && env.kindOf n == some .cell) then (n, NameKind.cell) else (n, k))) = some k := h
    by_cases hd : (k' == NameKind.free && env.scope.kind == .function && env.kindOf n == some .cell) = true
    · rw [if_pos hd, List.lookup_cons] at h
      cases hx : x == n with
      | true =>
        have e : x = n := eq_of_beq hx
        have e2 : k' = NameKind.free := by
          simp only [Bool.and_eq_true] at hd
          exact eq_of_beq hd.1.1
        rw [e, e2]
        exact List.mem_cons_self
      | false =>
        rw [hx] at h
        exact List.mem_cons_of_mem _ (ih h hk)
    · rw [if_neg hd, List.lookup_cons] at h
      cases hx : x == n with
      | true =>
        rw [hx] at h
        have e : x = n := eq_of_beq hx
        have e2 : k' = k := Option.some.inj h
        rcases hk with hk | hk
        · exact absurd (e2.trans hk) (hc (n, k') List.mem_cons_self)
        · rw [e, ← hk, ← e2]
          exact List.mem_cons_self
      | false =>
        rw [hx] at h
        exact List.mem_cons_of_mem _ (ih h hk)
theorem lookup_relabel_back {env : Env} : ∀ {names : List (Str × NameKind)} {x : Str},
    (names.map fun (n, k) => if (k == NameKind.free && env.scope.kind == .function && env.kindOf n == some .cell) then (n, NameKind.cell) else (n, k)).lookup x = some NameKind.local → names.lookup x = some NameKind.local
  | [], _, h => by simp at h
  | (n, k') :: r, x, h => by
    have ih := @lookup_relabel_back env r x
    have h : List.lookup x ((if (k' == NameKind.free && env.scope.kind == .function && env.kindOf n == some .cell) = true then (n, NameKind.cell) else (n, k')) :: (r.map fun (n, k) => if (k == NameKind.free && env.scope.kind == .function && env.kindOf n == some .cell) then (n, NameKind.cell) else (n, k))) = some NameKind.local := h
    rw [List.lookup_cons]
    by_cases hd : (k' == NameKind.free && env.scope.kind == .function && env.kindOf n == some .cell) = true
    · rw [if_pos hd, List.lookup_cons] at h
      cases hx : x == n with
      | true => rw [hx] at h; cases h
      | false => rw [hx] at h; exact ih h
    · rw [if_neg hd, List.lookup_cons] at h
      cases hx : x == n with
      | true => rw [hx] at h; exact h
      | false => rw [hx] at h; exact ih h
section
variable {X : Cx} {pins : List (Addr × Obj)} {σ : St} {H : Hp} {s : Shared} {sc : Scope} {x : Str} {M : List Str} {C : Addr} {fp : List Addr}
theorem blk_ok (I : Inv X pins σ H s) (ok : LcOk sc X.env.scope x M) (hC : s.heap.objs.size ≤ C) (hf : ∀ b ∈ fp, FpOk X pins H b) (hl : ∀ b ∈ fp, b < s.heap.objs.size) : (blk X sc x M C s H fp).Ok where
  mod := I.ok.mod
  kind := ok.kind
  glob := I.ok.glob
  blt := I.ok.blt
  above := hC
  inj := fun a b c h1 h2 => by
    rcases closeL_sub _ _ _ _ _ h1 with h1 | h1
    · cases h1
    rcases closeL_sub _ _ _ _ _ h2 with h2 | h2
    · cases h2
    exact I.ok.inj a b c h1 h2
  has := fun y hy => by
    have hm : (y, NameKind.free) ∈ sc.names := by
      rcases hy with hy | hy
      · exact mem_of_lookup_relabel ok.nocell hy (.inl rfl)
      · exact mem_of_lookup_relabel ok.nocell hy (.inr rfl)
    exact closeL_has X.env sc.names [] y hm (I.ok.has y (ok.free _ hm rfl))
  cab := fun y c h => by cases h
  hd := I.ok.hd
  frames := I.ok.frames
  stk := .inl rfl
  exf := fun b hb => ⟨Nat.ne_of_lt (Nat.lt_of_lt_of_le (hl b hb) hC), fun y c h => by
    rcases closeL_sub _ _ _ _ _ h with h | h
    · cases h
    · exact (hf b hb).2.2.2.2.1 y c h⟩
  bs := I.bs
  bsz := Nat.le_trans I.ok.bsz I.sz
  noex := fun b o e hb => by
    rcases (hf b hb).2.2.2.1 with z | z
    · exact I.ok.noex b o e z
    · exact absurd (Nat.lt_of_lt_of_le (Heap.lt_size e) (Nat.le_trans I.ok.bsz z)) (Nat.lt_irrefl _)
  exfs := fun b hb hb2 => by
    rcases List.mem_cons.mp (I.stkSub b hb2) with z | z
    · exact (hf b hb).2.1 z
    · exact (hf b hb).2.2.1 z
  funs := I.stack
  frf := I.stkFree
theorem blk_inv {s1 : Shared} {m : Str → Option Value} (I : Inv X pins σ H s) (ok : LcOk sc X.env.scope x M) (hM : ∀ (j : Nat) (y : Str), M[j]? = some y → (∃ p ∈ sc.names, p.1 = y) → X.N[j]? = some y) (hlen : M.length = X.N.length) (hC : s.heap.objs.size ≤ C) (hf : ∀ b ∈ fp, FpOk X pins H b) (hl : ∀ b ∈ fp, b < s.heap.objs.size)
    (hk : ∀ b o, s.heap.get? b = some o → s1.heap.get? b = some o) (hns : s1.heap.Ns C m) (hos : s1.os = s.os) (hg : s1.gens = s.gens) : Inv (blk X sc x M C s H fp) [] (none :: σ) H s1 where
  ok := blk_ok I ok hC hf hl
  os := hos
  bare := by rw [hg]; exact I.bare
  base := Un.kept hk
  loc := ⟨m, hns, fun i y v h1 h2 h3 => by
    cases i with
    | zero => cases h2
    | succ j =>
      have h1 : M[j]? = some y := by
        have h1 : (x :: M)[j + 1]? = some y := h1
        simpa using h1
      have h2 : σ[j]? = some (some v) := by simpa using h2
      have hm : (y, NameKind.free) ∈ sc.names := by
        rcases h3 with h3 | h3 | h3
        · exact absurd (lookup_relabel_back h3) (ok.out y (List.mem_of_getElem? h1))
        · exact mem_of_lookup_relabel ok.nocell h3 (.inl rfl)
        · exact mem_of_lookup_relabel ok.nocell h3 (.inr rfl)
      obtain ⟨m0, hn0, hl0⟩ := I.loc
      have ko := ok.free _ hm rfl
      obtain ⟨u, r, lk⟩ := hl0 j y v (hM j y h1 ⟨_, hm, rfl⟩) h2 (.inr ko)
      refine ⟨u, r, .inr ⟨?_, ?_⟩⟩
      · rcases h3 with h3 | h3 | h3
        · exact absurd (lookup_relabel_back h3) (ok.out y (List.mem_of_getElem? h1))
        · exact .inl h3
        · exact .inr h3
      · rcases lk with ⟨k, _⟩ | ⟨_, c, hc, z⟩
        · have k : X.env.scope.names.lookup y = some .local := k
          rcases ko with q | q
          · rw [q] at k; cases k
          · rw [q] at k; cases k
        · obtain ⟨c', hc'⟩ := closeL_has X.env sc.names [] y hm ⟨c, hc⟩
          have e : c' = c := by
            rcases closeL_sub _ _ _ _ _ hc' with q | q
            · cases q
            · rw [hc] at q; exact (Option.some.inj q).symm
          exact ⟨c, e ▸ hc', z.keeps hk⟩⟩
  cell := fun y c h => by
    rcases closeL_sub _ _ _ _ _ h with h | h
    · cases h
    · obtain ⟨v, z⟩ := I.cell y c h
      exact ⟨v, z.keeps hk⟩
  free := I.hok.fresh hC
  freeC := fun y c h => by
    rcases closeL_sub _ _ _ _ _ h with h | h
    · cases h
    · exact I.freeC y c h
  pin := fun p hp => absurd (show p ∈ ([] : List (Addr × Obj)) from hp) (by simp)
  hok := I.hok.kept hk
  len := by
    show (none :: σ).length = (x :: M).length
    rw [List.length_cons, List.length_cons, hlen, I.len]
end
end L2
end
section
set_option Elab.async false
set_option linter.all false
set_option maxRecDepth 100000
set_option maxHeartbeats 4000000
namespace L2
open PySem PySem.Spec PyProof.Rows
section
variable {P : Program} {w : World} {H : Hp} {h : Heap} {a : Addr} {o : HO}
theorem HOk.track (x : HOk P w H h) (hn : H a = none) (new : ObjOk P w (upd H a o) h a o) : HOk P w (upd H a o) h := fun b u e => by
  by_cases hb : b = a
  · subst hb; rw [upd_same] at e; cases e; exact new
  · rw [upd_ne hb] at e
    exact (x b u e).stay (fun c v _ q => q) (fun c q => by rw [upd_ne (ne_of_none q hn)]; exact q) fun c xs q => by rw [upd_ne (ne_of_none q hn)]; exact q
end
section
variable {X : Cx} {pins : List (Addr × Obj)} {σ : St} {H : Hp} {s : Shared}
theorem Inv.track {a : Addr} {o : HO} (I : Inv X pins σ H s) (hf : FpOk X pins H a) (ha : X.s₀.heap.objs.size ≤ a) (new : ObjOk X.prog X.w (upd H a o) s.heap a o) : Inv X pins σ (upd H a o) s := by
  obtain ⟨hn, hL, hfs, hs, hc, hp⟩ := hf
  refine ⟨I.ok, I.os, I.bare, ⟨I.base.keep, I.base.slot, fun b ob e n x => ?_, I.base.there, fun b xs e => ?_, fun b ob u e => ?_, fun b ps e => ?_⟩, I.loc, I.cell, ?_, fun y c e => ?_, fun p q => ?_, I.hok.track hn new, I.len⟩
  · rw [upd_ne (Nat.ne_of_lt (Nat.lt_of_lt_of_le (Heap.lt_size e) ha))]
    exact I.base.free b ob e n x
  · rw [upd_ne (ne_of_none (I.base.tups b xs e) hn)]; exact I.base.tups b xs e
  · rw [upd_ne (ne_of_none (I.base.frzs b ob u e) hn)]; exact I.base.frzs b ob u e
  · obtain ⟨mr, q⟩ := I.base.tbls b ps e
    exact ⟨mr, by rw [upd_ne (ne_of_none q hn)]; exact q⟩
  · rw [upd_ne (Ne.symm hL)]; exact I.free
  · rw [upd_ne (hc y c e)]; exact I.freeC y c e
  · obtain ⟨e, n, ne, nf, d⟩ := I.pin p q
    exact ⟨e, by rw [upd_ne (hp p q)]; exact n, ne, nf, d⟩
end
noncomputable def PF (X : Cx) (ifs : List Expr) (t : TT) : Prop :=
  ∀ (pins : List (Addr × Obj)) (s : Shared) (σ : St) (H : Hp) (Q : Bool → Hp → Prop), Inv X pins σ H s → t σ H Q →
    wpAny (model X.prog X.w) X.A (forIn ifs true fun c r => if r = true then do let ok ← isTrue c X.env (eval c X.env); pure (ForInStep.yield ok) else pure (ForInStep.yield r)) (TP X pins σ Q) X.xe s
noncomputable def tAlways : TT := fun _ H Q => Q true H
theorem pf_nil {X : Cx} : PF X [] tAlways := fun _ _ _ H _ I h => wpAny_tests_nil ⟨H, I, h⟩
noncomputable def LcW (J : It) (σ : St) (tt : TT) (te : TE) (R : List V → Hp → Prop) (H1 : Hp) : Prop :=
  ∃ W : Nat → Nat → List V → Hp → Prop, (∃ m, W 0 m [] H1) ∧ ∀ i m ys H, W i m ys H →
    (J.stop i H ∧ ys.length ≤ sizeLine ∧ R ys H) ∨ (J.go i H ∧ ys.length < sizeLine ∧ ∃ N : List V → Hp → Prop, (∀ ys' H', N ys' H' → ∃ m', m' < m ∧ W (i + 1) m' ys' H') ∧
      ∀ x H', J.yld i H x H' → tt (some x :: σ) H' fun b H2 => if b = true then te (some x :: σ) H2 fun y H3 => N (ys ++ [y]) H3 else N ys H2)
structure TurnQ (q : Cx → Prop) (P : Program) (w : World) (K : PySem.W.Frag) (tg : Expr) (J : It) (fp : List Addr) (it : Addr) (tn : Nat → Heap → Prop) : Prop where
  obj : ∀ i h, tn i h → ∀ b ∈ fp, ∃ o, h.get? b = some o ∧ ∀ v, o.data ≠ .cell v
  keep : ∀ i h h', tn i h → (∀ b ∈ fp, ∀ o, h.get? b = some o → h'.get? b = some o) → tn i h'
  item : ∀ (X : Cx), X.prog = P → X.w = w → X.K = K → q X → ∀ (i : Nat) (pins : List (Addr × Obj)) (s : Shared) (σ : St) (H : Hp) (E : Value → Shared → Prop), Inv X pins σ H s → (∀ b ∈ fp, FpOk X pins H b) → tn i s.heap → J.go i H →
    wpAny (model P w) X.A (pyNext (.ref it)) (fun r s1 => ∃ u, r = some u ∧
      wpAny (model P w) X.A (letOwnedTupleGo tg (.ref it) u) (fun _ s2 => ∃ x H', Inv X pins σ H' s2 ∧ RelV x u ∧ J.yld i H x H' ∧ tn (i + 1) s2.heap ∧ ∀ b ∈ fp, H' b = none) E s1) E s
  done : ∀ (X : Cx), X.prog = P → X.w = w → X.K = K → q X → ∀ (i : Nat) (pins : List (Addr × Obj)) (s : Shared) (σ : St) (H : Hp) (E : Value → Shared → Prop), Inv X pins σ H s → (∀ b ∈ fp, FpOk X pins H b) → tn i s.heap → J.stop i H →
    wpAny (model P w) X.A (pyNext (.ref it)) (fun r s1 => r = none ∧ Inv X pins σ H s1) E s
  self : ∀ (A : Around) (i : Nat) (s : Shared) (Q : Value → Shared → Prop) (E : Value → Shared → Prop), tn i s.heap → Q (.ref it) s → wpAny (model P w) A (pyIter (.ref it)) Q E s
theorem Turn.q {P : Program} {w : World} {K : PySem.W.Frag} {tg : Expr} {J : It} {fp : List Addr} {it : Addr} {tn : Nat → Heap → Prop} (T : Turn P w K tg J fp it tn) : TurnQ (fun X => X.calm = true) P w K tg J fp it tn := ⟨T.obj, T.keep, T.item, T.done, T.self⟩
section
variable {X : Cx} {pins : List (Addr × Obj)} {σ : St} {H : Hp} {s : Shared} {sc : Scope} {x : Str} {M : List Str} {fp : List Addr} {J : It} {it : Addr} {tn : Nat → Heap → Prop} {px pos : Pos} {elt iter : Expr} {ifs : List Expr} {tt : TT} {te : TE} {R : List V → Hp → Prop}
theorem lc_block {E : Value → Shared → Prop} {RR : Value → Addr → Result → Shared → Prop} (I : Inv X pins σ H s) (ok : LcOk sc X.env.scope x M) (hM : ∀ (j : Nat) (y : Str), M[j]? = some y → (∃ p ∈ sc.names, p.1 = y) → X.N[j]? = some y) (hlen : M.length = X.N.length) (hnd : (x :: M).Nodup) {q : Cx → Prop} (hq : ∀ C, q (blk X sc x M C s H fp))
    (T : TurnQ q X.prog X.w X.K (.Name x px) J fp it tn) (st : tn 0 s.heap) (hf : ∀ b ∈ fp, FpOk X pins H b)
    (ht : ∀ C s H fp, PF (blk X sc x M C s H fp) ifs tt) (he : ∀ C s H fp, PE (blk X sc x M C s H fp) elt te) (h : LcW J σ tt te R H)
    (hRR : ∀ D C ys H' s' m, R ys H' → H' D = none → Inv X pins σ (upd H' D (.lst ys)) s' → FpOk X pins (upd H' D (.lst ys)) C → s'.heap.Ns C m → RR (.ref D) C (.ok .next) s') :
    wpAny (model X.prog X.w) X.A (newList []) (fun acc s₃ => wpAny (model X.prog X.w) X.A (newFunctionEnv sc X.env.globals (closeL X.env sc.names []) [] X.env.qual none .none (some X.env)) (fun cenv s₄ =>
      codeAny (model X.prog X.w) X.A (.compStart (.ListComp elt [⟨.Name x px, iter, ifs, 0⟩] sc pos) 0 (.ref it) acc { cenv with scope := relabel sc X.env }) (RR acc cenv.locals) s₄) E s₃) E s := by
  refine wpAny_newObj_type (wpAny_newFunctionEnv ok.nocell (by intro y hy; simp at hy) (fun h₁ hns₁ hsb₁ => ?_) ok.kind)
  dsimp only at hns₁ hsb₁ ⊢
  generalize hH2 : s.heap.push { cls := .type "list", dict := none, data := .seq ([] : List Value).toArray } = H2 at hns₁ hsb₁ ⊢
  have hC : H2.objs.size = s.heap.objs.size + 1 := by rw [← hH2, Heap.size_push]
  have hDC : s.heap.objs.size ≠ H2.objs.size := by rw [hC]; exact Nat.ne_of_lt (Nat.lt_succ_self _)
  have hCle : s.heap.objs.size ≤ H2.objs.size := by rw [hC]; exact Nat.le_succ _
  have hl : ∀ b ∈ fp, b < s.heap.objs.size := fun b hb => by
    obtain ⟨o, e, _⟩ := T.obj 0 _ st b hb
    exact Heap.lt_size e
  have old : ∀ b o, s.heap.get? b = some o → h₁.get? b = some o := fun b o e =>
    (hsb₁.2 b (by rw [hC]; exact Nat.ne_of_lt (Nat.lt_succ_of_lt (Heap.lt_size e)))).trans (Heap.get?_push_of_some _ (hH2 ▸ Heap.get?_push_of_some _ e))
  have hacc : h₁.get? s.heap.objs.size = some { cls := .type "list", data := .seq ([] : List Value).toArray } :=
    (hsb₁.2 _ hDC).trans (Heap.get?_push_of_some _ (hH2 ▸ Heap.get?_push_size _ rfl))
  have fsD : s.heap.objs.size ∉ frs X.stack := fun z => by
    rcases List.mem_cons.mp (I.stkSub _ z) with q | q
    · exact absurd I.lt (by rw [← q]; exact Nat.lt_irrefl _)
    · exact I.nofs (Nat.le_refl _) q
  have fsF : ∀ b ∈ fp, b ∉ frs X.stack := fun b hb z => by
    rcases List.mem_cons.mp (I.stkSub b z) with q | q
    · exact (hf b hb).2.1 q
    · exact (hf b hb).2.2.1 q
  have I0 : Inv (blk X sc x M H2.objs.size s H fp) [] (none :: σ) H { s with heap := h₁, toks := s.toks + ([] : List (Str × Value)).length } := blk_inv I ok hM hlen hCle hf hl old hns₁ rfl rfl
  obtain ⟨W, ⟨m0, w0⟩, turn⟩ := h
  have cne : ∀ y c, (closeL X.env sc.names []).lookup y = some c → c < s.heap.objs.size := fun y c e => by
    rcases closeL_sub _ _ _ _ _ e with q | q
    · cases q
    · obtain ⟨v, z⟩ := I.cell y c q
      exact z.lt
  have fx : ∀ {od : Obj} {H' : Hp}, (∀ b ∈ fp, H' b = none) → ∀ b ∈ fp, FpOk (blk X sc x M H2.objs.size s H fp) [(s.heap.objs.size, od)] H' b := fun {od H'} hn b hb =>
    ⟨hn b hb, Nat.ne_of_lt (Nat.lt_of_lt_of_le (hl b hb) hCle), fsF b hb, .inl hb, ((blk_ok I ok hCle hf hl).exf b hb).2, fun p hp => by
      have hp : p ∈ [(s.heap.objs.size, od)] := hp
      rw [List.mem_singleton.mp hp]
      exact Ne.symm (Nat.ne_of_lt (hl b hb))⟩
  have loop : ∀ s₃ : Shared, s₃ = { s with heap := h₁, toks := s.toks + ([] : List (Str × Value)).length } →
      codeAny (model X.prog X.w) X.A (.compLoop (.ListComp elt [⟨.Name x px, iter, ifs, 0⟩] sc pos) 0 (.ref it) (.ref s.heap.objs.size) (compEnvC sc (closeL X.env sc.names []) H2.objs.size X.env))
        (RR (.ref s.heap.objs.size) H2.objs.size) s₃ := by
    rintro s₃ rfl
    refine codeAny_compLoop_tests (fun n s' => ∃ i ys H' v0 its k, Inv (blk X sc x M H2.objs.size s H fp) [] (v0 :: σ) H' s' ∧ tn i s'.heap ∧ (∀ b ∈ fp, H' b = none) ∧ H' s.heap.objs.size = none ∧
      s'.heap.get? s.heap.objs.size = some { cls := .type "list", data := .seq (its : List Value).toArray k } ∧ Vals ys its ∧ W i n ys H') ?_ m0
      ⟨0, [], H, none, [], 0, I0, T.keep 0 _ _ st fun b hb o e => old b o e, fun b hb => (hf b hb).1, I.hok.fresh (Nat.le_refl _), hacc, .nil, w0⟩
    rintro n s3 ⟨i, ys, H3, v0, its, k, I3, st3, fr3, hD3, hD, rv, w3⟩
    have I3' : Inv (blk X sc x M H2.objs.size s H fp) [(s.heap.objs.size, { cls := .type "list", data := .seq its.toArray k })] (v0 :: σ) H3 s3 := I3.pins_of fun p hp => by
      rw [List.mem_singleton.mp hp]
      exact ⟨hD, hD3, hDC, fsD, fun v z => nomatch z⟩
    rcases turn i n ys H3 w3 with ⟨stop, hz, qn⟩ | ⟨go, hz, N, hN, step⟩
    · refine thn (T.done (blk X sc x M H2.objs.size s H fp) rfl rfl rfl (hq _) i _ s3 _ H3 _ I3' (fx fr3) st3 stop) fun r s4 ⟨hr, I4⟩ => ?_
      subst hr
      dsimp only
      have hD4 : s4.heap.get? s.heap.objs.size = some { cls := .type "list", data := .seq its.toArray k } := (I4.pin _ (List.mem_append_right _ (List.mem_singleton.mpr rfl))).1
      have I5 : Inv X pins σ H3 s4 := I.call' (ch := fp) I4.os I4.base I4.hok I4.bare fun b hb => ⟨(hf b hb).2.2.2.1, (hf b hb).2.1, (hf b hb).2.2.2.2.1, (hf b hb).2.2.2.2.2⟩
      obtain ⟨m, hn, _⟩ := I4.loc
      have I6 : Inv X pins σ (upd H3 s.heap.objs.size (.lst ys)) s4 := I5.track (I.fpOk (Nat.le_refl _) hD3) I.sz ⟨hz, its, k, rv, hD4⟩
      refine hRR _ _ ys H3 s4 m qn hD3 I6 (I.fpOk hCle ?_) hn
      rw [upd_ne (Ne.symm hDC)]
      exact I4.free
    · refine thn (T.item (blk X sc x M H2.objs.size s H fp) rfl rfl rfl (hq _) i _ s3 _ H3 _ I3' (fx fr3) st3 go) fun r s4 ⟨u, hr, h4⟩ => ?_
      subst hr
      dsimp only
      show wpAny (model X.prog X.w) X.A (letOwnedTupleGo (.Name x px) (.ref it) u >>= fun _ => assign (.Name x px) (compEnvC sc (closeL X.env sc.names []) H2.objs.size X.env) u) _ _ s4
      refine wpAny_bind (thn h4 fun _ s5 ⟨z, H5, I5, r5, y5, st5, fr5⟩ => ?_)
      have I5' := I5.pinned (fx fr5) (T.obj _ _ st5)
      refine wpAny_assign_Name ?_
      refine store_ok (X := blk X sc x M H2.objs.size s H fp) (i := 0) I5' hnd rfl (.inl (lookup_relabel_local ok.var)) r5 (fun s6 I6 => ?_) (.inr (lookup_relabel_local ok.var))
      have I6 : Inv (blk X sc x M H2.objs.size s H fp) ([(s.heap.objs.size, { cls := .type "list", data := .seq its.toArray k })] ++ pinsAt fp s5.heap) (some z :: σ) H5 s6 := I6
      have back : ∀ {H7 : Hp} {s7 : Shared}, Inv (blk X sc x M H2.objs.size s H fp) ([(s.heap.objs.size, { cls := .type "list", data := .seq its.toArray k })] ++ pinsAt fp s5.heap) (some z :: σ) H7 s7 →
          tn (i + 1) s7.heap ∧ (∀ b ∈ fp, H7 b = none) ∧ H7 s.heap.objs.size = none ∧ s7.heap.get? s.heap.objs.size = some { cls := .type "list", data := .seq its.toArray k } := fun {H7 s7} I7 => by
        refine ⟨T.keep _ _ _ st5 fun b hb o e => (I7.pin (b, o) (List.mem_append_right _ (List.mem_append_right _ (mem_pinsAt hb e)))).1, fun b hb => ?_, (I7.pin _ (List.mem_append_right _ (List.mem_append_left _ (List.mem_singleton.mpr rfl)))).2.1, (I7.pin _ (List.mem_append_right _ (List.mem_append_left _ (List.mem_singleton.mpr rfl)))).1⟩
        obtain ⟨o, e, d⟩ := T.obj _ _ st5 b hb
        exact (I7.pin (b, o) (List.mem_append_right _ (List.mem_append_right _ (mem_pinsAt hb e)))).2.1
      refine wpAny_mono (ht _ _ _ _ _ s6 _ H5 _ I6 (step z H5 y5)) (fun b s7 ⟨H7, I7, q7⟩ => ?_) fun _ _ f => f.elim
      cases b with
      | false =>
        simp only [Bool.false_eq_true, if_false] at q7 ⊢
        obtain ⟨m', hm, w7⟩ := hN _ _ q7
        obtain ⟨b1, b2, b3, b4⟩ := back I7
        exact ⟨m', hm, i + 1, ys, H7, some z, its, k, I7.pins_of (fun p hp => absurd hp (by simp)), b1, b2, b3, b4, rv, w7⟩
      | true =>
        simp only [if_true] at q7 ⊢
        refine wpAny_mono (he _ _ _ _ _ s7 _ H7 _ I7 q7) (fun u8 s8 ⟨v8, H8, I8, r8, q8⟩ => ?_) fun _ _ f => f.elim
        obtain ⟨m', hm, w8⟩ := hN _ _ q8
        obtain ⟨b1, b2, b3, b4⟩ := back I8
        refine append_at b4 (fun h' hs' hD' => ?_) (by rw [List.size_toArray, ← rv.length]; exact Nat.le_of_lt hz)
        refine ⟨m', hm, i + 1, ys ++ [v8], H8, some z, its ++ [u8], k + 1, ?_, ?_, b2, b3, ?_, rv.append (.cons r8 .nil), w8⟩
        · have I9 : Inv (blk X sc x M H2.objs.size s H fp) [] (some z :: σ) H8 s8 := I8.pins_of (fun p hp => absurd hp (by simp))
          exact I9.turned (t' := s8.toks) (it := s.heap.objs.size) (fun b o hb e => (hs'.2 b hb).trans e) b3 hDC (.inr (Nat.le_refl _)) (fun y c e z => absurd (cne y c e) (by rw [z]; exact Nat.lt_irrefl _)) fun p hp => absurd (show p ∈ ([] : List (Addr × Obj)) from hp) (by simp)
        · exact T.keep _ _ _ b1 fun b hb o e => (hs'.2 b (Nat.ne_of_lt (hl b hb))).trans e
        · rw [hD']
          simp
  exact codeAny_compStart_list (loop _ rfl) (T.self X.A 0 _ _ _ (T.keep 0 _ _ st fun b hb o e => old b o e) (loop _ rfl))
end
theorem lc_by {J : It} {σ : St} {tt : TT} {te : TE} {R : List V → Hp → Prop} {H : Hp} (n : Nat) (Pv : Nat → List V → Hp → Prop) (h0 : Pv 0 [] H) (hz : ∀ i ys H, i ≤ n → Pv i ys H → ys.length ≤ i) (hn : n ≤ sizeLine) (hgo : ∀ i ys H, i < n → Pv i ys H → J.go i H)
    (hs : ∀ i ys H x H', i < n → Pv i ys H → J.yld i H x H' → tt (some x :: σ) H' fun b H2 => if b = true then te (some x :: σ) H2 fun y H3 => Pv (i + 1) (ys ++ [y]) H3 else Pv (i + 1) ys H2)
    (hd : ∀ ys H, Pv n ys H → J.stop n H ∧ R ys H) : LcW J σ tt te R H := by
  refine ⟨fun i m ys H => m = n - i ∧ i ≤ n ∧ Pv i ys H, ⟨n, by simp, Nat.zero_le _, h0⟩, ?_⟩
  rintro i m ys H ⟨rfl, hi, p⟩
  have hl := hz i ys H hi p
  by_cases hlt : i < n
  · exact .inr ⟨hgo i ys H hlt p, by omega, Pv (i + 1), fun ys' H' p' => ⟨n - (i + 1), by omega, rfl, hlt, p'⟩, fun x H' y => hs i ys H x H' hlt p y⟩
  · have e : i = n := by omega
    subst e
    exact .inl ⟨(hd ys H p).1, by omega, (hd ys H p).2⟩
theorem alw {σ σ' : St} {H : Hp} {te : TE} {A : VK} {B : Hp → Prop} (h : te σ' H A) : tAlways σ H fun b H2 => if b = true then te σ' H2 A else B H2 := by
  show if true = true then te σ' H A else B H
  rw [if_pos rfl]
  exact h
end L2
end
section
set_option Elab.async false
set_option linter.all false
set_option maxRecDepth 100000
set_option maxHeartbeats 4000000
namespace L2
open PySem PySem.Spec PyProof.Rows
noncomputable def tLc (wi : TI) (tt : TT) (te : TE) : TE := fun σ H Q => wi σ H fun J H1 => LcW J σ tt te (fun ys H2 => ∀ D, H2 D = none → Q (.ref D) (upd H2 D (.lst ys))) H1
section
variable {X : Cx} {sc : Scope} {x : Str} {px pos : Pos} {elt iter : Expr} {ifs : List Expr} {tt : TT} {te : TE} {wi : TI}
theorem clos_of {pins : List (Addr × Obj)} {σ : St} {H : Hp} {s : Shared} {M : List Str} (I : Inv X pins σ H s) (ok : LcOk sc X.env.scope x M) : closureFor sc X.env = pure (closeL X.env sc.names []) :=
  closureFor_eq fun p hp e => I.ok.has p.1 (ok.free p hp e)
theorem pe_lcM (M : List Str) (hc : X.calm = true) (ok : lcOk sc X.env.scope x M = true) (hM : ∀ (j : Nat) (y : Str), M[j]? = some y → (∃ p ∈ sc.names, p.1 = y) → X.N[j]? = some y) (hlen : M.length = X.N.length) (hnd : (x :: M).Nodup)
    (hi : PI X (.Name x px) iter wi) (ht : ∀ C s H fp, PF (blk X sc x M C s H fp) ifs tt) (he : ∀ C s H fp, PE (blk X sc x M C s H fp) elt te)
    (hs : ∀ x, foldedSetIterable iter X.env x = pure x := by intro _; rfl) : PE X (.ListComp elt [⟨.Name x px, iter, ifs, 0⟩] sc pos) (tLc wi tt te) := by
  intro pins s σ H Q I h
  have ok := LcOk.of ok
  rw [eval_ListComp]
  refine wpAny_comprehension_free (use := none) rfl hs (clos_of I ok) ok.kind ok.locs (thn (hi pins s σ H _ I h) fun v s1 h1 => thn h1 fun itv s2 h2 => ?_)
  obtain ⟨it, fp, tn, J, H2, e, I2, T, st2, f2, lw⟩ := h2
  subst e
  refine lc_block (RR := fun acc C => compPost (model X.prog X.w) X.A X.xe none (EP X pins σ Q) acc C) I2 ok hM hlen hnd (fun _ => hc) T.q st2 f2 ht he lw ?_
  intro D C ys H' s' m q hD I' fC hn
  exact ⟨m, hn, fun h' hs' => ⟨.ref D, _, I'.turned (t' := s'.toks) (it := C) (fun b o hb e => (hs'.2 b hb).trans e) fC.1 fC.2.1 fC.2.2.2.1 fC.2.2.2.2.1 fC.2.2.2.2.2, rfl, q D hD⟩⟩
theorem pe_lc (hc : X.calm = true) (ok : lcOk sc X.env.scope x X.N = true) (hnd : (x :: X.N).Nodup)
    (hi : PI X (.Name x px) iter wi) (ht : ∀ C s H fp, PF (blk X sc x X.N C s H fp) ifs tt) (he : ∀ C s H fp, PE (blk X sc x X.N C s H fp) elt te)
    (hs : ∀ x, foldedSetIterable iter X.env x = pure x := by intro _; rfl) : PE X (.ListComp elt [⟨.Name x px, iter, ifs, 0⟩] sc pos) (tLc wi tt te) :=
  pe_lcM X.N hc ok (fun _ _ h _ => h) rfl hnd hi ht he hs
end
end L2
end
section
set_option Elab.async false
set_option linter.all false
set_option maxRecDepth 100000
set_option maxHeartbeats 4000000
namespace L2
open PySem PySem.Spec PyProof.Rows PySem.SeqAt
noncomputable def Cmp (K : PySem.W.Frag) (H : Hp) (n : Nat) (x y : V) (b : Bool) : Prop :=
  ∀ (X : Cx) (pins : List (Addr × Obj)) (σ : St) (s : Shared) (A : Around) (u v : Value), X.K = K → Inv X pins σ H s → RelV x u → RelV y v → A.units + n < cLine → EqAt A s u v b ∧ RcAt A s u v b ∧ RcNeAt A s u v (!b)
theorem cmp_flat {K : PySem.W.Frag} {H : Hp} {n : Nat} {x y : V} (fx : flatV x = true) (fy : flatV y = true) : Cmp K H n x y (eqV x y) := by
  intro X pins σ s A u v _ I rx ry _
  refine ⟨eqAt_V rx ry fx fy, ?_⟩
  cases x with
  | non =>
    cases rx
    cases y with
    | non => cases ry; exact ⟨RcAt.none_none, RcNeAt.none_none⟩
    | bl b => cases ry; exact ⟨RcAt.none_bool b, RcNeAt.none_bool b⟩
    | int b => obtain ⟨t, rfl⟩ := ry; exact ⟨RcAt.none_int b t, RcNeAt.none_int b t⟩
    | str b => obtain ⟨t, rfl⟩ := ry; exact ⟨RcAt.none_str b t, RcNeAt.none_str b t⟩
    | _ => cases fy
  | bl a =>
    cases rx
    cases y with
    | non => cases ry; exact ⟨RcAt.bool_none a, RcNeAt.bool_none a⟩
    | bl b => cases ry; exact ⟨RcAt.bool_bool a b, RcNeAt.bool_bool a b⟩
    | int b => obtain ⟨t, rfl⟩ := ry; exact ⟨RcAt.bool_int a b t, RcNeAt.bool_int a b t⟩
    | str b => obtain ⟨t, rfl⟩ := ry; exact ⟨RcAt.bool_str a b t, RcNeAt.bool_str a b t⟩
    | _ => cases fy
  | int a =>
    obtain ⟨ta, rfl⟩ := rx
    cases y with
    | non => cases ry; exact ⟨RcAt.int_none a ta, RcNeAt.int_none a ta⟩
    | bl b => cases ry; exact ⟨RcAt.int_bool a ta b, RcNeAt.int_bool a ta b⟩
    | int b => obtain ⟨t, rfl⟩ := ry; exact ⟨RcAt.int_int a ta b t, RcNeAt.int_int a ta b t⟩
    | str b => obtain ⟨t, rfl⟩ := ry; exact ⟨RcAt.int_str a ta b t, RcNeAt.int_str a ta b t⟩
    | _ => cases fy
  | str a =>
    obtain ⟨ta, rfl⟩ := rx
    cases y with
    | non => cases ry; exact ⟨RcAt.str_none a ta, RcNeAt.str_none a ta⟩
    | bl b => cases ry; exact ⟨RcAt.str_bool a ta b, RcNeAt.str_bool a ta b⟩
    | int b => obtain ⟨t, rfl⟩ := ry; exact ⟨RcAt.str_int a ta b t, RcNeAt.str_int a ta b t⟩
    | str b => obtain ⟨t, rfl⟩ := ry; exact ⟨RcAt.str_str a ta b t, RcNeAt.str_str a ta b t⟩
    | _ => cases fy
  | _ => cases fx
section
variable {K : PySem.W.Frag} {H : Hp} {n : Nat} {a b : Addr} {xs ys : List V} {e : Nat → Bool}
theorem vals_at {xs : List V} {its : List Value} (r : Vals xs its) {j : Nat} (h : j < its.toArray.size) : ∃ x, xs[j]? = some x ∧ RelV x its.toArray[j] := by
  have hl : j < its.length := by simpa using h
  cases q : xs[j]? with
  | none =>
    have := List.getElem?_eq_none_iff.mp q
    rw [r.length] at this
    omega
  | some x =>
    obtain ⟨u, hu, ru⟩ := r.get q
    refine ⟨x, rfl, ?_⟩
    obtain ⟨_, e⟩ := List.getElem?_eq_some_iff.mp hu
    have : its.toArray[j] = u := by simpa using e
    rw [this]; exact ru
theorem in1_units (A : Around) : A.in1.units = A.units + 1 := rfl
theorem cmp_lists (ha : SqL K H a xs) (hb : SqL K H b ys) (hl : xs.length = ys.length) (hab : a = b → (List.range xs.length).all e = true) (he : ∀ j x y, xs[j]? = some x → ys[j]? = some y → Cmp K H n x y (e j)) :
    Cmp K H (n + 1) (.ref a) (.ref b) ((List.range xs.length).all e) := by
  intro X pins σ s A u v hK I rx ry hu
  subst hK
  cases rx; cases ry
  obtain ⟨its, r1, p1, _⟩ := I.list ha
  obtain ⟨its2, r2, p2, _⟩ := I.list hb
  have hsz : its.toArray.size = its2.toArray.size := by simp [← r1.length, ← r2.length, hl]
  have es : xs.length = its.toArray.size := by simp [← r1.length]
  have items : ∀ j (h1 : j < its.toArray.size) (h2 : j < its2.toArray.size), EqAt A.in1 s its.toArray[j] its2.toArray[j] (e j) := fun j h1 h2 => by
    obtain ⟨x, e1, q1⟩ := vals_at r1 h1
    obtain ⟨y, e2, q2⟩ := vals_at r2 h2
    exact (he j x y e1 e2 X pins σ s A.in1 _ _ rfl I q1 q2 (by rw [in1_units]; omega)).1
  have rc : RcAt A s (.ref a) (.ref b) ((List.range xs.length).all e) := by rw [es]; exact RcAt.lists p1.isList p2.isList hsz (by omega) items
  refine ⟨?_, rc, ?_⟩
  · by_cases h : a = b
    · rw [hab h, h]; exact EqAt.same _
    · exact .of_refs h rc
  · rw [es]; exact RcNeAt.lists p1.isList p2.isList hsz (by omega) items
theorem cmp_lists_len (ha : SqL K H a xs) (hb : SqL K H b ys) (hl : xs.length ≠ ys.length) : Cmp K H n (.ref a) (.ref b) false := by
  intro X pins σ s A u v hK I rx ry hu
  subst hK
  cases rx; cases ry
  obtain ⟨its, r1, p1, _⟩ := I.list ha
  obtain ⟨its2, r2, p2, _⟩ := I.list hb
  have hsz : (its.toArray.size != its2.toArray.size) = true := by simp [← r1.length, ← r2.length, hl]
  have rc : RcAt A s (.ref a) (.ref b) false := RcAt.lists_lengths p1.isList p2.isList hsz (by omega)
  refine ⟨.of_refs (fun h => ?_) rc, rc, RcNeAt.lists_lengths p1.isList p2.isList hsz (by omega)⟩
  subst h
  exact hl (by rw [I.list_inj ha hb])
theorem cmp_tuples (ha : SqT K H a xs) (hb : SqT K H b ys) (hab : a = b → ((List.range (min xs.length ys.length)).all e && xs.length == ys.length) = true) (he : ∀ j x y, xs[j]? = some x → ys[j]? = some y → Cmp K H n x y (e j)) :
    Cmp K H (n + 1) (.ref a) (.ref b) ((List.range (min xs.length ys.length)).all e && xs.length == ys.length) := by
  intro X pins σ s A u v hK I rx ry hu
  subst hK
  cases rx; cases ry
  obtain ⟨its, r1, p1, _⟩ := I.tuple ha
  obtain ⟨its2, r2, p2, _⟩ := I.tuple hb
  have es : xs.length = its.toArray.size := by simp [← r1.length]
  have es2 : ys.length = its2.toArray.size := by simp [← r2.length]
  have items : ∀ j (h1 : j < its.toArray.size) (h2 : j < its2.toArray.size), EqAt A.in1 s its.toArray[j] its2.toArray[j] (e j) := fun j h1 h2 => by
    obtain ⟨x, e1, q1⟩ := vals_at r1 h1
    obtain ⟨y, e2, q2⟩ := vals_at r2 h2
    exact (he j x y e1 e2 X pins σ s A.in1 _ _ rfl I q1 q2 (by rw [in1_units]; omega)).1
  have p1 : s.heap.IsTuple a its.toArray := p1
  have p2 : s.heap.IsTuple b its2.toArray := p2
  have rc : RcAt A s (.ref a) (.ref b) ((List.range (min xs.length ys.length)).all e && xs.length == ys.length) := by rw [es, es2]; exact RcAt.tuples p1 p2 (by omega) items
  refine ⟨?_, rc, ?_⟩
  · by_cases h : a = b
    · rw [hab h, h]; exact EqAt.same _
    · exact .of_refs h rc
  · rw [es, es2]; exact RcNeAt.tuples p1 p2 (by omega) items
theorem all_range_true {k : Nat} : (List.range k).all (fun _ => true) = true := by simp
theorem cmp_same_lists (ha : SqL K H a xs) (hb : SqL K H b ys) (hl : xs.length = ys.length) (he : ∀ (j : Nat) x y, xs[j]? = some x → ys[j]? = some y → Cmp K H n x y true) : Cmp K H (n + 1) (.ref a) (.ref b) true := by
  have := cmp_lists (e := fun _ => true) ha hb hl (fun _ => all_range_true) he
  rwa [all_range_true] at this
theorem map_inj_str : ∀ {ps qs : List Str}, ps.map V.str = qs.map V.str → ps = qs
  | [], [], _ => rfl
  | [], _ :: _, h => by cases h
  | _ :: _, [], h => by cases h
  | p :: ps, q :: qs, h => by
    have h1 := List.cons.inj h
    rw [V.str.inj h1.1, map_inj_str h1.2]
theorem all_get_eq : ∀ (ps qs : List Str), ((List.range (min ps.length qs.length)).all (fun j => ps[j]?.getD default == qs[j]?.getD default) && ps.length == qs.length) = decide (ps = qs) := by
  intro ps qs
  by_cases h : ps = qs
  · subst h
    simp
  · rw [decide_eq_false h]
    rw [Bool.eq_false_iff]
    intro q
    rw [Bool.and_eq_true, List.all_eq_true] at q
    obtain ⟨q1, q2⟩ := q
    have hl : ps.length = qs.length := by simpa using q2
    apply h
    apply List.ext_getElem?
    intro j
    by_cases hj : j < ps.length
    · have hj2 : j < qs.length := by omega
      have := q1 j (by simp; omega)
      rw [List.getElem?_eq_getElem hj, List.getElem?_eq_getElem hj2] at this ⊢
      have := eq_of_beq this
      simpa using this
    · rw [List.getElem?_eq_none (by omega), List.getElem?_eq_none (by omega)]
theorem cmp_strs {ps qs : List Str} (ha : SqT K H a (ps.map V.str)) (hb : SqT K H b (qs.map V.str)) : Cmp K H 1 (.ref a) (.ref b) (decide (ps = qs)) := by
  intro X pins σ s A u v hK I
  have q : a = b → ps = qs := fun h => by
    subst h
    subst hK
    exact map_inj_str (I.tuple_inj ha hb)
  have := cmp_tuples (n := 0) (e := fun j => ps[j]?.getD default == qs[j]?.getD default) ha hb (fun h => by
    rw [List.length_map, List.length_map, all_get_eq]
    exact decide_eq_true (q h)) (fun j x y h1 h2 => by
      rw [List.getElem?_map] at h1 h2
      obtain ⟨p, e1, rfl⟩ := Option.map_eq_some_iff.mp h1
      obtain ⟨q, e2, rfl⟩ := Option.map_eq_some_iff.mp h2
      rw [e1, e2]
      exact cmp_flat rfl rfl)
  rw [List.length_map, List.length_map, all_get_eq] at this
  exact this X pins σ s A u v hK I
end
section
variable {X : Cx} {n : Nat}
noncomputable def rEqC (K : PySem.W.Frag) (n : Nat) : R2 := fun x y H Q => ∃ b, Cmp K H n x y b ∧ Q (.bl b) H
noncomputable def rNeC (K : PySem.W.Frag) (n : Nat) : R2 := fun x y H Q => ∃ b, Cmp K H n x y b ∧ Q (.bl (!b)) H
theorem op_eqC (hu : X.A.units + n < cLine) : OpR X (compareOp .Eq) (rEqC X.K n) := by
  intro pins s σ H x y v u Q I rx ry h
  obtain ⟨b, c, q⟩ := h
  exact (c X pins σ s X.A _ _ rfl I rx ry hu).2.1 _ _ _ _ ⟨.bl b, H, I, rfl, q⟩
theorem op_neC (hu : X.A.units + n < cLine) : OpR X (compareOp .NotEq) (rNeC X.K n) := by
  intro pins s σ H x y v u Q I rx ry h
  obtain ⟨b, c, q⟩ := h
  exact (c X pins σ s X.A _ _ rfl I rx ry hu).2.2 _ _ _ _ ⟨.bl (!b), H, I, rfl, q⟩
end
end L2
end
section
set_option Elab.async false
set_option linter.all false
set_option maxRecDepth 100000
set_option maxHeartbeats 4000000
namespace L2
open PySem PySem.Spec PyProof.Rows PySem.SeqAt
section
variable {X : Cx}
theorem op_mulX : OpR X (binaryOp .Mult) (rI IntMulOk fun i j => .int (i * j)) := opI fun _ _ _ _ _ _ _ hc q => PyProof.Rows.mul_int q hc
noncomputable def CDivX (i j : Int) : Prop := 0 < j ∧ j.natAbs.log2 < 9000
theorem op_fdivX : OpR X (binaryOp .FloorDiv) (rI CDivX fun i j => .int (i / j)) := opI fun i j _ _ _ _ _ hc q => by
  have h1 : (0 : Int) < j := hc.1
  exact floordiv_int (by omega) (by rw [Int.fdiv_eq_ediv_of_nonneg i (by omega)]; exact q) (.inl (PyProof.noPylong_of_log2 hc.2))
noncomputable def rIsi (K : PySem.W.Frag) : List V → Hp → VK → Prop := fun xs H Q => ∃ x c t cv b, xs = [x, c] ∧ RelV c cv ∧ (∀ u, RelV c u → u = cv) ∧ TyOf K H x t ∧ PySem.W.kitOne K t cv = some b ∧ Q (.bl b) H
theorem call_isi : CallR X (.builtin "isinstance") (rIsi X.K) := by
  intro pins s σ H xs us Q I r h
  obtain ⟨x, c, t, cv, b, rfl, rc, uc, ty, e, q⟩ := h
  obtain ⟨u, v, rfl, ru, rv⟩ := vals2 r
  cases uc v rv
  exact isinst_ok I ru ty e fun tk => ⟨.bl b, H, I.tok tk, rfl, q⟩
theorem cat_tup0 {prog : Program} {w : World} {A : Around} {E : Value → Shared → Prop} {s : Shared} {t b : Addr} {vs ws : List Value} {Q : Value → Shared → Prop} (ht : IsTup s.heap t vs.toArray) (hb : IsTup s.heap b ws.toArray) (hv : vs = [])
    (h1 : Q (.ref b) s) : wpAny (model prog w) A (binaryOp .Add (.ref t) (.ref b)) Q E s := by
  obtain ⟨⟨c1, d1, dt1, sl1⟩, ho, hc, n, hd⟩ := id ht
  obtain ⟨⟨c2, d2, dt2, sl2⟩, ho2, hc2, n2, hd2⟩ := id hb
  simp only at hc hd hc2 hd2
  subst hc hd hc2 hd2
  exact concat_meets ⟨_, ho, rfl⟩ ⟨_, ho2, rfl⟩ noFill_tuple_add seq_tuple_add PySem.F.slot_tuple_add PySem.F.entry_tuple_add (PySem.F.args_tuple_add_2 _ _)
    (tuple_addW0 t b vs.toArray ws.toArray n n2 d1 d2 sl1 sl2 (by simp [hv])) ⟨ho, ho2, h1⟩
noncomputable def rCatA (K : PySem.W.Frag) : R2 := fun x y H Q => ∃ a b xs ys, x = .ref a ∧ y = .ref b ∧ SqT K H a xs ∧ SqT K H b ys ∧ xs.length + ys.length ≤ sizeLine ∧
  (xs = [] → Q (.ref b) H) ∧ (xs ≠ [] → ys = [] → Q (.ref a) H) ∧ (xs ≠ [] → ys ≠ [] → ∀ p, H p = none → Q (.ref p) (upd H p (.tup (xs ++ ys))))
theorem op_catA : OpR X (binaryOp .Add) (rCatA X.K) := by
  intro pins s σ H x y v u Q I rx ry h
  obtain ⟨a, b, xs, ys, rfl, rfl, ha, hb, hz, h0, h1, h2⟩ := h
  cases rx; cases ry
  obtain ⟨its, r1, p1, _⟩ := I.tuple ha
  obtain ⟨its2, r2, p2, _⟩ := I.tuple hb
  by_cases hx : xs = []
  · exact cat_tup0 p1 p2 (r1.nil_iff.mpr hx) ⟨.ref b, H, I, rfl, h0 hx⟩
  · refine HT.cat_tup p1 p2 (fun z => hx (r1.nil_iff.mp z)) (fun z => ⟨.ref a, H, I, rfl, h1 hx (r2.nil_iff.mp z)⟩) (fun z => ?_) (by rw [← r1.length, ← r2.length]; exact hz)
    refine ⟨.ref s.heap.objs.size, _, I.laid (o := .tup (xs ++ ys)) (t' := s.toks) (fun c o e => Heap.get?_push_of_some _ e) (Nat.le_refl _) ?_, rfl, h2 hx (fun q => z (r2.nil_iff.mpr q)) _ I.fresh⟩
    exact ⟨by rw [List.length_append]; exact hz, its ++ its2, r1.append r2, ⟨_, Heap.get?_push_size _ rfl, rfl, _, rfl⟩⟩
noncomputable def rAll (K : PySem.W.Frag) : List V → Hp → VK → Prop := fun xs H Q => ∃ (a : Addr) (bs : List Bool), xs = [.ref a] ∧ SqL K H a (bs.map V.bl) ∧ Q (.bl (bs.all id)) H
theorem call_allL (hc : X.calm = true) : CallR X (.builtin "all") (rAll X.K) := by
  intro pins s σ H xs us Q I r h
  obtain ⟨a, bs, rfl, ha, q⟩ := h
  obtain ⟨u, rfl, ru⟩ := vals1 r
  cases ru
  obtain ⟨its, r1, p1, hz⟩ := I.list ha
  refine call_all_walk ?_
  refine wpAny_pyIter_list p1.isList ?_
  have hne : a ≠ s.heap.objs.size := fun z => by
    obtain ⟨o, n, e, _⟩ := p1
    exact absurd (Heap.lt_size e) (by rw [z]; exact Nat.lt_irrefl _)
  refine ⟨s.heap.objs.size, _, _, its.toArray.size, _, _, fun i => bs.getD i true, rfl, Walks.list (A := X.A.in1) (I.ok.hd hc) _ a hne its.toArray, ⟨⟨_, Heap.get?_push_size _ rfl, rfl, rfl⟩, ?_⟩, fun i v s' Q' E' hP hQ => ?_, fun h' tk hk => ?_⟩
  · obtain ⟨o, n, e, c, _, d⟩ := p1
    exact ⟨o, Heap.get?_push_of_some _ e, c, n, d⟩
  · have hi : its[i]? = some v := by simpa using hP
    have hl := r1.length
    rw [List.length_map] at hl
    have hlt : i < bs.length := by
      have := (List.getElem?_eq_some_iff.mp hi).1
      omega
    obtain ⟨w', hw, rw'⟩ := r1.get (i := i) (x := V.bl bs[i]) (by rw [List.getElem?_map, List.getElem?_eq_getElem hlt]; rfl)
    rw [hi] at hw
    cases hw
    cases rw'
    refine wpAny_truthy_bool ?_
    have : bs.getD i true = bs[i] := by simp [hlt]
    rw [← this]
    exact hQ
  · refine ⟨.bl _, H, I.kept (t' := tk) (fun b o e => hk b o (fun z => ?_) (Heap.get?_push_of_some _ e)), rfl, ?_⟩
    · have : b = s.heap.objs.size := by simpa using z
      exact absurd (Heap.lt_size e) (by rw [this]; exact Nat.lt_irrefl _)
    · have : (List.range its.toArray.size).all (fun i => bs.getD i true) = bs.all id := by
        have hl : its.toArray.size = bs.length := by
          have := r1.length
          rw [List.length_map] at this
          simpa using this.symm
        rw [hl, Bool.eq_iff_iff, List.all_eq_true, List.all_eq_true]
        constructor
        · intro h b hb
          obtain ⟨i, hi, rfl⟩ := List.getElem_of_mem hb
          have := h i (by simpa using hi)
          simpa [hi] using this
        · intro h i hi
          have hi : i < bs.length := by simpa using hi
          have := h bs[i] (List.getElem_mem hi)
          simpa [hi] using this
      rw [this]
      exact q
noncomputable def Its (x : Str) : It := ⟨fun i _ => i < x.cps.size, fun i H y H' => H' = H ∧ ∃ c, x.cps[i]? = some c ∧ y = .str ⟨#[c]⟩, fun i _ => x.cps.size ≤ i⟩
noncomputable def iStr (tl : TE) : TI := fun σ H R => tl σ H fun x H1 => ∃ z, x = .str z ∧ R (Its z) H1
theorem turn_str {P : Program} {w : World} {K : PySem.W.Frag} {y : Str} {py : Pos} {z : Str} {t : Tok} {ty : String} (it : Addr) (W : ∀ A' : Around, A'.handled = none → Walks P w A' it [it] [it] z.cps.size (SignAt z) (fun i h => h.IsStrIter it ty z t i)) (hs : ∀ (A : Around) (i : Nat) (s : Shared) (Q : Value → Shared → Prop) (E : Value → Shared → Prop), s.heap.IsStrIter it ty z t i → Q (.ref it) s → wpAny (model P w) A (pyIter (.ref it)) Q E s) :
    Turn P w K (.Name y py) (Its z) [it] it (fun i h => h.IsStrIter it ty z t i ∧ i ≤ z.cps.size) where
  mem := by simp
  obj := fun i h st b hb => by
    have e : b = it := by simpa using hb
    subst e
    obtain ⟨⟨o, e, c, d⟩, _⟩ := st
    exact ⟨o, e, fun v z => by rw [d] at z; cases z⟩
  keep := fun i h h' st k => by
    obtain ⟨⟨o, e, r⟩, q⟩ := st
    exact ⟨⟨o, k it (by simp) o e, r⟩, q⟩
  item := by
    intro X hP hw hK hc i pins s σ H E I hf st hg
    subst hP hw hK
    obtain ⟨f0, f1, f2, f3, f4, f5⟩ := hf it (by simp)
    refine (W X.A (I.ok.hd hc)).item i s _ _ hg st.1 fun v h' tk hv st' hk => ?_
    obtain ⟨c, u, e1, rfl⟩ := hv
    have I1 : Inv X pins σ H { s with heap := h', toks := tk } := I.turned (t' := tk) (fun b o hb e => hk b o (by simpa using hb) e) f0 f1 f3 f4 f5
    refine ⟨_, rfl, ?_⟩
    show wpAny _ _ (pure ()) _ _ _
    exact wpAny_pure ⟨.str ⟨#[c]⟩, H, I1, ⟨_, rfl⟩, ⟨rfl, c, e1, rfl⟩, ⟨st', hg⟩, fun b hb => (hf b hb).1⟩
  done := by
    intro X hP hw hK hc i pins s σ H E I hf st hg
    subst hP hw hK
    obtain ⟨f0, f1, f2, f3, f4, f5⟩ := hf it (by simp)
    have e : i = z.cps.size := Nat.le_antisymm st.2 hg
    subst e
    exact (W X.A (I.ok.hd hc)).done s _ _ st.1 fun h' tk hk => ⟨rfl, I.turned (t' := tk) (fun b o hb e => hk b o (by simpa using hb) e) f0 f1 f3 f4 f5⟩
  self := fun A i s Q E st h => hs A i s Q E st.1 h
theorem pi_str {l : Expr} {tl : TE} {y : Str} {py : Pos} (hl : PE X l tl) : PI X (.Name y py) l (iStr tl) := by
  intro pins s σ H R I h
  refine thn (hl pins s σ H _ I h) fun v s1 ⟨x, H1, I1, r1, q1⟩ => ?_
  obtain ⟨z, rfl, q⟩ := q1
  obtain ⟨t, rfl⟩ := r1
  have fo : ∀ b ∈ [s1.heap.objs.size], FpOk X pins H1 b := fun b hb => by
    have e : b = s1.heap.objs.size := by simpa using hb
    subst e
    exact I1.fpOk (Nat.le_refl _) (I1.hok.fresh (Nat.le_refl _))
  cases ha : z.cps.all (· < 128) with
  | false => exact wpAny_pyIter_wide ha ⟨s1.heap.objs.size, [s1.heap.objs.size], _, Its z, H1, rfl, I1.kept (t' := s1.toks) fun b o e => Heap.get?_push_of_some _ e, turn_str _ (fun A' hA => Walks.strWide hA _ z t) (fun _ _ _ _ _ st h => wpAny_pyIter_striter_wide st h), ⟨⟨_, Heap.get?_push_size _ rfl, rfl, rfl⟩, Nat.zero_le _⟩, fo, q⟩
  | true => exact wpAny_pyIter_ascii ha ⟨s1.heap.objs.size, [s1.heap.objs.size], _, Its z, H1, rfl, I1.kept (t' := s1.toks) fun b o e => Heap.get?_push_of_some _ e, turn_str _ (fun A' hA => Walks.strAscii hA _ z t) (fun _ _ _ _ _ st h => wpAny_pyIter_striter_ascii st h), ⟨⟨_, Heap.get?_push_size _ rfl, rfl, rfl⟩, Nat.zero_le _⟩, fo, q⟩
end
end L2
end
section
set_option Elab.async false
set_option linter.all false
set_option maxRecDepth 100000
set_option maxHeartbeats 4000000
namespace L2
open PySem PySem.Spec PyProof.Rows PySem.SeqAt
section
variable {prog : Program} {w : World} {A : Around} {E : Value → Shared → Prop} {s : Shared} {it d : Addr} {i n ep : Nat} {od : Obj} {es : Array DictEntry}
end
end L2
end
section
set_option Elab.async false
set_option linter.all false
set_option maxRecDepth 100000
set_option maxHeartbeats 4000000
namespace L2
open PySem PySem.Spec PyProof.Rows PySem.SeqAt
section
variable {prog : Program} {w : World} {A : Around} {E : Value → Shared → Prop} {s : Shared} {d : Addr} {ep : Nat} {od : Obj} {es : Array DictEntry}
end
section
variable {prog : Program} {w : World} {A : Around} {E : Value → Shared → Prop} {s : Shared} {d : Addr} {ep : Nat} {od : Obj} {es : Array DictEntry}
end
section
variable {X : Cx} {pins : List (Addr × Obj)} {σ : St} {H : Hp} {s : Shared} {a : Addr} {kvs : List (List Key × V)} {k : List Key}
end
end L2
end
section
set_option Elab.async false
set_option linter.all false
set_option maxRecDepth 100000
set_option maxHeartbeats 4000000
namespace L2
open PySem PySem.Spec PyProof.Rows PySem.SeqAt
section
variable {κ : Type} [DecidableEq κ]
end
section
variable {X : Cx} {pins : List (Addr × Obj)} {σ : St} {H : Hp} {s : Shared} {a b : Addr} {kvs : List (List Key × V)} {k : List Key} {A : Around} {E : Value → Shared → Prop}
end
section
variable {X : Cx} {o i e : Expr} {td ty : TE} {pos tpos apos cpos : Pos}
end
end L2
end
section
set_option Elab.async false
set_option linter.all false
set_option maxRecDepth 100000
set_option maxHeartbeats 4000000
namespace L2
open PySem PySem.Spec PyProof.Rows PySem.SeqAt
section
variable {X : Cx} {pins : List (Addr × Obj)} {σ : St} {H : Hp} {s : Shared} {d : Addr} {od : Obj} {kvs : List (List Key × V)}
end
end L2
end
section
set_option Elab.async false
set_option linter.all false
set_option maxRecDepth 100000
set_option maxHeartbeats 4000000
namespace L2
open PySem PySem.Spec PyProof.Rows PySem.SeqAt
section
variable {X : Cx} {pos : Pos}
end
inductive Kn where | non | bl | int | str | tup | lst
noncomputable def Kn.ty : Kn → String
  | .non => "NoneType" | .bl => "bool" | .int => "int" | .str => "str" | .tup => "tuple" | .lst => "list"
noncomputable def shapeV : V → Kn → Bool
  | .non, .non => true
  | .bl _, .bl => true
  | .int _, .int => true
  | .str _, .str => true
  | .ref _, .tup => true
  | .ref _, .lst => true
  | _, _ => false
structure KindV (K : PySem.W.Frag) (H : Hp) (v : V) (k : Kn) : Prop where
  ty : TyOf K H v (.type k.ty)
  sh : shapeV v k = true
section
variable {K : PySem.W.Frag} {H : Hp}
theorem kn_non : KindV K H .non .non := ⟨.non, rfl⟩
theorem kn_bl (b : Bool) : KindV K H (.bl b) .bl := ⟨.bl b, rfl⟩
theorem kn_int (i : Int) : KindV K H (.int i) .int := ⟨.int i, rfl⟩
theorem kn_str (x : Str) : KindV K H (.str x) .str := ⟨.str x, rfl⟩
theorem kn_tup {a : Addr} {xs : List V} (e : H a = some (.tup xs)) : KindV K H (.ref a) .tup := ⟨.tup e, rfl⟩
theorem kn_lst {a : Addr} {xs : List V} (e : H a = some (.lst xs)) : KindV K H (.ref a) .lst := ⟨.lst e, rfl⟩
end
noncomputable def isInt : Kn → Bool | .int => true | .bl => true | _ => false
noncomputable def isBl : Kn → Bool | .bl => true | _ => false
noncomputable def isStr : Kn → Bool | .str => true | _ => false
noncomputable def isTup : Kn → Bool | .tup => true | _ => false
theorem kit_bool (K : PySem.W.Frag) (k : Kn) : PySem.W.kitOne K (.type k.ty) (.type "bool") = some (isBl k) := by cases k <;> with_unfolding_all rfl
theorem kit_str (K : PySem.W.Frag) (k : Kn) : PySem.W.kitOne K (.type k.ty) (.type "str") = some (isStr k) := by cases k <;> with_unfolding_all rfl
theorem kit_tuple (K : PySem.W.Frag) (k : Kn) : PySem.W.kitOne K (.type k.ty) (.type "tuple") = some (isTup k) := by cases k <;> with_unfolding_all rfl
section
variable {X : Cx}
noncomputable def rIsiK (K : PySem.W.Frag) (f : Kn → Bool) (T : String) : List V → Hp → VK → Prop := fun xs H Q => ∃ x k, xs = [x, .ty T] ∧ KindV K H x k ∧ Q (.bl (f k)) H
theorem call_isiK {T : String} {f : Kn → Bool} (hk : ∀ k, PySem.W.kitOne X.K (.type k.ty) (.type T) = some (f k)) : CallR X (.builtin "isinstance") (rIsiK X.K f T) := by
  intro pins s σ H xs us Q I r h
  obtain ⟨x, k, rfl, kn, q⟩ := h
  exact call_isi pins s σ H _ us Q I r ⟨x, .ty T, _, .type T, _, rfl, rfl, fun _ z => z, kn.ty, hk k, q⟩
end
end L2
end
section
set_option Elab.async false
set_option linter.all false
set_option maxRecDepth 100000
set_option maxHeartbeats 4000000
namespace L2
open PySem
structure Lft (fs : List Addr) (e : Addr) (oe : Obj) (vs : Array Value) (T : Addr) (h h' : Heap) : Prop where
  keep : ∀ b o, h.get? b = some o → b ≠ e → b ∉ fs → h'.get? b = some o
  slot : ∀ b o, h.get? b = some o → b ∈ fs → ∃ sl, h'.get? b = some { o with slots := sl }
  exc : h'.get? e = some { oe with data := .fields (vs.setIfInBounds 1 (.ref T)) }
  new : h.get? T = none
  trc : ∃ oT ts, h'.get? T = some oT ∧ oT.data = .fields ts ∧ ts[3]? = some .none
section
variable {M : Model} {A : Around} {E : Value → Shared → Prop} {s : Shared}
theorem mapF {o : Obj} {vs : Array Value} (hd : o.data = .fields vs) (f : Array Value → Array Value) : o.mapFields f = { o with data := .fields (f vs) } := by
  obtain ⟨c, d, dt, sl⟩ := o
  have hd : dt = .fields vs := hd
  subst hd
  rfl
theorem mapF_same {o : Obj} {vs : Array Value} {i : Nat} {x : Value} (hd : o.data = .fields vs) (hx : vs[i]? = some x) : o.mapFields (·.setIfInBounds i x) = o := by
  rw [mapF hd]
  have e : vs.setIfInBounds i x = vs := by
    obtain ⟨hi, hxi⟩ := Array.getElem?_eq_some_iff.mp hx
    rw [Array.setIfInBounds_def, dif_pos hi, ← hxi, Array.set_getElem_self]
  rw [e, ← hd]
theorem lft_new {base : Heap} {env : Env} {outer : List Env} {L e : Addr} {oe : Obj} {vs : Array Value} {head : Value} {had : Bool} {Q : Unit → Shared → Prop} (fr : A.frames = some (env :: outer)) (fl : s.heap.FunFrames base (env :: outer))
    (hL : env.frame = some L) (he : s.heap.get? e = some oe) (hd : oe.data = .fields vs) (hsz : 1 < vs.size) (k : ∀ h' T, Lft ((env :: outer).filterMap (·.frame)) e oe vs T s.heap h' → Q () { s with heap := h' }) :
    wpAny M A (do let a ← frameOf env; let pl ← entryPlaceOf L had; let b ← EntryCells.newEntry head a .none (rawInt L) .none pl; setField (.ref e) 1 b) (fun _ s1 => wpAny M A (setFlight (.ref e) none) Q E s1) E s := by
  have ne : e ∉ (env :: outer).filterMap (·.frame) := fun z => by
    obtain ⟨_, o, ho, nf⟩ := fl.mem z
    rw [he] at ho
    cases ho
    exact nf vs hd
  refine wpAny_bind (wpAny_frameOf_fun fr fl hL fun h1 S1 => ?_)
  refine wpAny_bind (wpAny_entryPlaceOf fun pl ip => ?_)
  unfold EntryCells.newEntry newFields
  refine wpAny_bind (wpAny_newObj_type ?_ (ip.sizeOk5 _ _ _ _ _))
  have e1 : h1.get? e = some oe := (S1.2.1 e ne).trans he
  generalize ho : ({ cls := .type "traceback", dict := none, data := .fields ([head, .ref L, .none, rawInt L, .none] ++ (if pl.isEmpty then List.replicate 6 Value.none else pl)).toArray } : Obj) = oT
  have hoT : oT.data = .fields ([head, .ref L, .none, rawInt L, .none] ++ (if pl.isEmpty then List.replicate 6 Value.none else pl)).toArray := by rw [← ho]
  have fT : oT.isFreed = false := by rw [← ho]; rfl
  have e2 : (h1.push oT).get? e = some oe := Heap.get?_push_of_some oT e1
  refine wpAny_setField e2 hd hsz ?_
  have nT : h1.objs.size ≠ e := Nat.ne_of_gt (Heap.lt_size e1)
  have e3 := Heap.get?_update_self (Obj.mapFields (·.setIfInBounds 1 (Value.ref h1.objs.size))) e2 (Obj.isFreed_of_fields (Obj.data_mapFields hd _))
  have t3 : ((h1.push oT).update e (Obj.mapFields (·.setIfInBounds 1 (Value.ref h1.objs.size)))).get? h1.objs.size = some oT := by
    rw [Heap.get?_update_other _ _ (Ne.symm nT)]
    exact Heap.get?_push_size h1 fT
  unfold setFlight
  refine wpAny_bind (wpAny_field e3 (Obj.data_mapFields hd _) (x := .ref h1.objs.size) (by simp [hsz]) ?_)
  rw [if_pos (by simp)]
  refine wpAny_setField t3 hoT (by simp only [List.size_toArray, List.length_append, List.length_cons, List.length_nil] <;> omega) (k _ h1.objs.size ?_)
  have lt : s.heap.objs.size = h1.objs.size := S1.1.symm
  refine ⟨fun b o hb nb nf => ?_, fun b o hb bf => ?_, ?_, ?_, ?_⟩
  · have b1 : h1.get? b = some o := (S1.2.1 b nf).trans hb
    rw [Heap.get?_update_other _ _ (Nat.ne_of_gt (Heap.lt_size b1)), Heap.get?_update_other _ _ (Ne.symm nb)]
    exact Heap.get?_push_of_some _ b1
  · obtain ⟨sl, b1⟩ := S1.2.2 b o hb
    refine ⟨sl, ?_⟩
    rw [Heap.get?_update_other _ _ (Nat.ne_of_gt (Heap.lt_size b1)), Heap.get?_update_other _ _ (fun z => ne (by rw [z]; exact bf))]
    exact Heap.get?_push_of_some _ b1
  · rw [Heap.get?_update_other _ _ nT, e3, mapF hd]
  · rw [← lt]
    exact Heap.get?_none_of_le (Nat.le_refl _)
  · refine ⟨_, _, Heap.get?_update_self _ t3 (Obj.isFreed_of_fields (Obj.data_mapFields hoT _)), Obj.data_mapFields hoT _, ?_⟩
    first
      | (simp; done)
      | (rcases ip with rfl | ⟨_, _, _, _, _, _, _, rfl⟩ <;> simp)
noncomputable def Trc (h : Heap) (e : Addr) (vs : Array Value) : Prop := vs[1]? = some .none ∨ ∃ T oT ts, vs[1]? = some (.ref T) ∧ T ≠ e ∧ h.get? T = some oT ∧ oT.data = .fields ts ∧ ts[3]? = some .none
theorem lft_note {base : Heap} {env : Env} {outer : List Env} {L e : Addr} {oe : Obj} {vs : Array Value} {Q : Unit → Shared → Prop} (fr : A.frames = some (env :: outer)) (fl : s.heap.FunFrames base (env :: outer))
    (hL : env.frame = some L) (he : s.heap.get? e = some oe) (hd : oe.data = .fields vs) (ht : Trc s.heap e vs) (k : ∀ h' T, Lft ((env :: outer).filterMap (·.frame)) e oe vs T s.heap h' → Q () { s with heap := h' }) :
    wpAny M A (noteFrame (.ref e) env) (fun _ s1 => wpAny M A (setFlight (.ref e) none) Q E s1) E s := by
  unfold noteFrame
  simp only [hL]
  rcases ht with h1 | ⟨T, oT, ts, h1, nT, hT, dT, h3⟩
  · refine wpAny_bind (wpAny_field he hd h1 ?_)
    rw [if_neg (by decide)]
    exact lft_new fr fl hL he hd (Array.getElem?_eq_some_iff.mp h1).1 k
  · refine wpAny_bind (wpAny_field he hd h1 ?_)
    rw [if_pos (by simp)]
    refine wpAny_bind (wpAny_field hT dT h3 ?_)
    rw [if_neg (by simp [rawInt])]
    refine wpAny_bind (wpAny_setField hT dT (Array.getElem?_eq_some_iff.mp h3).1 ?_)
    have same : ∀ b o, s.heap.get? b = some o → (s.heap.update T (Obj.mapFields (·.setIfInBounds 3 Value.none))).get? b = some o := fun b o hb => by
      by_cases z : b = T
      · subst z
        rw [hT] at hb
        cases hb
        rw [Heap.get?_update_self _ hT (Obj.isFreed_of_fields (Obj.data_mapFields dT _)), mapF_same dT h3]
      · rw [Heap.get?_update_other _ _ (Ne.symm z)]; exact hb
    have back : ∀ b, s.heap.get? b = none → (s.heap.update T (Obj.mapFields (·.setIfInBounds 3 Value.none))).get? b = none := fun b hb => by
      rw [Heap.get?_update_other _ _ (fun z => by rw [z, hb] at hT; cases hT)]; exact hb
    have back' : ∀ b, (s.heap.update T (Obj.mapFields (·.setIfInBounds 3 Value.none))).get? b = none → s.heap.get? b = none := fun b hb => by
      cases z : s.heap.get? b with
      | none => rfl
      | some o => rw [same b o z] at hb; cases hb
    refine lft_new (s := { s with heap := s.heap.update T (Obj.mapFields (·.setIfInBounds 3 Value.none)) }) fr (fl.of_keeps fun b o hb _ => ⟨o, same b o hb, rfl⟩) hL (same e oe he) hd (Array.getElem?_eq_some_iff.mp h1).1 fun h' T' l => k h' T' ?_
    exact ⟨fun b o hb => l.keep b o (same b o hb), fun b o hb => l.slot b o (same b o hb), l.exc, back' _ l.new, l.trc⟩
theorem lft_leave {base : Heap} {env : Env} {outer : List Env} {L e : Addr} {oe : Obj} {vs : Array Value} {Q : Unit → Shared → Prop} (fr : A.frames = some (env :: outer)) (fl : s.heap.FunFrames base (env :: outer))
    (hL : env.frame = some L) (he : s.heap.get? e = some oe) (hd : oe.data = .fields vs) (ht : Trc s.heap e vs) (k : ∀ h' T, Lft ((env :: outer).filterMap (·.frame)) e oe vs T s.heap h' → Q () { s with heap := h' }) :
    wpAny M A (leaving env (.ref e)) Q E s := by
  unfold leaving
  exact wpAny_bind (lft_note fr fl hL he hd ht k)
end
end L2
end
section
set_option Elab.async false
set_option linter.all false
set_option maxRecDepth 100000
set_option maxHeartbeats 4000000
namespace L2
open PySem PySem.Spec PyProof.Rows
theorem ObjOk.there {P : Program} {w : World} {H : Hp} {h : Heap} {a : Addr} {o : HO} (x : ObjOk P w H h a o) : ∃ ob, h.get? a = some ob := by
  cases o with
  | lst xs => obtain ⟨_, _, _, _, e⟩ := x; exact ⟨_, e⟩
  | tup xs => obtain ⟨_, _, _, ob, e, _⟩ := x; exact ⟨_, e⟩
  | dK kvs => obtain ⟨_, _, _, _, o, _, _, e, _⟩ := x; exact ⟨_, e⟩
  | dT kvs => obtain ⟨_, _, _, _, o, _, _, e, _⟩ := x; exact ⟨_, e⟩
  | set S n => obtain ⟨o, _, _, _, e, _⟩ := x; exact ⟨_, e⟩
  | ins C dx fs => obtain ⟨_, _, _, e, _⟩ := x; exact ⟨_, e⟩
  | own y => exact x
  | xd fs => obtain ⟨_, ⟨_, _, _, e, _⟩, _⟩ := x; exact ⟨_, e⟩
  | rng lo hi => obtain ⟨_, _, _, e⟩ := x; exact ⟨_, e⟩
  | frz ob u => obtain ⟨e, _⟩ := x; exact ⟨_, e⟩
  | tbl ps => exact ⟨_, x⟩
  | met f y => exact ⟨_, x⟩
  | ext φ => exact x.2.1
theorem HOk.free {P : Program} {w : World} {H : Hp} {h : Heap} {a : Addr} (x : HOk P w H h) (e : h.get? a = none) : H a = none := by
  cases q : H a with
  | none => rfl
  | some o =>
    obtain ⟨ob, z⟩ := (x a o q).there
    rw [e] at z
    cases z
noncomputable def CXF (P : Program) (w : World) : CXT := fun outer H s E e s' => ∃ (a C : Addr) (dx : Option Addr) (H' : Hp) (o : Obj) (vs : Array Value), e = .ref a ∧ s'.os = s.os ∧ AllBare s'.gens ∧ Un (frs outer) [] H H' s.heap s'.heap ∧ HOk P w H' s'.heap ∧
  s.heap.get? a = none ∧ H' a = none ∧ s'.heap.get? a = some o ∧ o.cls = .ref C ∧ o.dict = dx ∧ o.data = .fields vs ∧ vs[2]? = some .none ∧ Trc s'.heap a vs ∧ E (.ref C) dx H'
noncomputable def Flies (X : Cx) (E : XK) : Prop := ∀ (pins : List (Addr × Obj)) (σ : St) (H : Hp) (s : Shared) (a C : Addr) (dx : Option Addr) (o : Obj) (vs : Array Value), Inv X pins σ H s → X.s₀.heap.get? a = none → H a = none → s.heap.get? a = some o → o.cls = .ref C → o.dict = dx →
  o.data = .fields vs → vs[2]? = some .none → Trc s.heap a vs → E (.ref C) dx H → X.xe (.ref a) s
theorem Inv.gone {X : Cx} {pins : List (Addr × Obj)} {σ : St} {H : Hp} {s : Shared} {a : Addr} (I : Inv X pins σ H s) (hx : X.ex = []) (e : s.heap.get? a = none) : X.s₀.heap.get? a = none := by
  cases q : X.s₀.heap.get? a with
  | none => rfl
  | some o =>
    obtain ⟨o', z⟩ := I.base.there a o q (by rw [hx]; simp)
    rw [e] at z
    cases z
theorem isCell_slots {h h' : Heap} {c : Addr} {v : Option Value} (x : h.IsCell c v) (k : ∀ o, h.get? c = some o → ∃ sl, h'.get? c = some { o with slots := sl }) : h'.IsCell c v := by
  obtain ⟨o, e, d⟩ := x
  obtain ⟨sl, e'⟩ := k o e
  exact ⟨_, e', d⟩
section
variable {X : Cx} {pins : List (Addr × Obj)} {σ : St} {H : Hp} {s : Shared}
theorem Inv.lft {a T : Addr} {o : Obj} {vs : Array Value} {h' : Heap} (I : Inv X pins σ H s) (l : Lft (frs X.stack) a o vs T s.heap h') (ha : s.heap.get? a = some o) (hd : o.data = .fields vs) (haH : H a = none) (h0 : X.s₀.heap.get? a = none) (hp : ∀ p ∈ X.pn ++ pins, p.1 ≠ a) : Inv X pins σ H { s with heap := h' } := by
  have na : ∀ b ob, X.s₀.heap.get? b = some ob → b ≠ a := fun b ob e z => by rw [z, h0] at e; cases e
  have nl : ∀ b ob, X.s₀.heap.get? b = some ob → b ≠ X.env.locals := fun b ob e => Nat.ne_of_lt (Nat.lt_of_lt_of_le (Heap.lt_size e) I.ok.above)
  have any : ∀ b ob, s.heap.get? b = some ob → b ≠ a → ∃ sl, h'.get? b = some { ob with slots := sl } := fun b ob e n => by
    by_cases z : b ∈ frs X.stack
    · exact l.slot b ob e z
    · exact ⟨ob.slots, l.keep b ob e n z⟩
  have cel : ∀ c v, s.heap.IsCell c v → h'.IsCell c v := fun c v x => by
    refine isCell_slots x fun ob e => any c ob e fun z => ?_
    obtain ⟨oc, e1, d1⟩ := x
    rw [z, ha] at e1
    cases e1
    rw [hd] at d1
    cases d1
  refine ⟨I.ok, I.os, I.bare, ⟨fun b ob e n hb hx => ?_, fun b ob e n hb hx => ?_, I.base.free, fun b ob e hx => ?_, I.base.tups, I.base.frzs, I.base.tbls⟩, ?_, fun x c e => ?_, I.free, I.freeC, fun p q => ?_, fun b u q => ?_, I.len⟩
  · refine l.keep b ob (I.base.keep b ob e n hb hx) (na b ob e) fun z => ?_
    rcases List.mem_cons.mp (I.stkSub b z) with z | z
    · exact nl b ob e z
    · exact hb z
  · obtain ⟨sl, e1⟩ := I.base.slot b ob e n hb hx
    obtain ⟨sl2, e2⟩ := any b _ e1 (na b ob e)
    exact ⟨sl2, e2⟩
  · obtain ⟨o', e1⟩ := I.base.there b ob e hx
    obtain ⟨sl2, e2⟩ := any b _ e1 (na b ob e)
    exact ⟨_, e2⟩
  · obtain ⟨m, ⟨ol, es, ep, e, d, r⟩, q⟩ := I.loc
    have nla : X.env.locals ≠ a := fun z => by
      rw [z, ha] at e
      cases e
      rw [hd] at d
      cases d
    obtain ⟨sl, e2⟩ := any _ _ e nla
    refine ⟨m, ⟨_, es, ep, e2, d, r⟩, fun i x v h1 h2 vis => ?_⟩
    obtain ⟨u, rv, lk⟩ := q i x v h1 h2 vis
    refine ⟨u, rv, ?_⟩
    rcases lk with lk | ⟨k1, c, k2, k3⟩
    · exact .inl lk
    · exact .inr ⟨k1, c, k2, cel c _ k3⟩
  · obtain ⟨v, z⟩ := I.cell x c e
    exact ⟨v, cel c v z⟩
  · obtain ⟨e, n, ne, nf, d⟩ := I.pin p q
    refine ⟨l.keep _ _ e (hp p q) fun z => ?_, n, ne, nf, d⟩
    rcases List.mem_cons.mp (I.stkSub _ z) with z | z
    · exact ne z
    · exact nf z
  · refine (I.hok b u q).stay (fun c v hc r => l.keep c v r (fun z => ?_) fun z => ?_) (fun _ r => r) fun _ _ r => r
    · rcases hc with hc | hc
      · rw [hc] at z; rw [z, haH] at q; cases q
      · rw [z, haH] at hc; cases hc
    · have := I.stkFree c z
      rcases hc with hc | hc
      · rw [hc, q] at this; cases this
      · rw [hc] at this; cases this
end
theorem flies_of {X : Cx} {E : XK} (hex : X.ex = []) (hpn : X.pn = []) (hst : X.stack = X.env :: X.outer) (hfr : X.env.frame = some X.env.locals)
    (hxe : ∀ e s', wpAny (model X.prog X.w) X.A (leaving X.env e) (fun _ s'' => CXF X.prog X.w X.outer X.H₀ X.s₀ E e s'') (fun e' s'' => CXF X.prog X.w X.outer X.H₀ X.s₀ E e' s'') s' → X.xe e s') : Flies X E := by
  intro pins σ H s1 a C dx o vs I ha0 haH he hc hdx hd h2 ht hE
  apply hxe
  refine lft_leave (base := X.base) (env := X.env) (outer := X.outer) (by rw [← hst]; exact I.ok.frames) (by rw [← hst]; exact I.stack) hfr he hd ht fun h' T l => ?_
  have l' : Lft (frs X.stack) a o vs T s1.heap h' := by rw [hst]; exact l
  have I0 : Inv X [] σ H s1 := I.pins_of fun p hp => absurd hp (by simp)
  have J := I0.lft l' he hd haH ha0 fun p hp => absurd hp (by rw [hpn]; simp)
  have h1 : 1 < vs.size := by
    rcases ht with z | ⟨_, _, _, z, _⟩ <;> exact (Array.getElem?_eq_some_iff.mp z).1
  have jb := J.base
  rw [hex] at jb
  refine ⟨a, C, dx, H, _, _, rfl, J.os, J.bare, jb, J.hok, ha0, haH, l.exc, hc, hdx, rfl, ?_, ?_, hE⟩
  · rw [Array.getElem?_setIfInBounds_ne (by decide)]; exact h2
  · obtain ⟨oT, ts, t1, t2, t3⟩ := l.trc
    refine .inr ⟨T, oT, ts, by simp [h1], fun z => ?_, t1, t2, t3⟩
    have := l.new
    rw [z, he] at this
    cases this
theorem flies_cxOf {P : Program} {w : World} {K : PySem.W.Frag} {mg : Str → Option Value} {base : Heap} {N : List Str} {qual : Str} {scope : Scope} {f : Addr} {cd : Value} {A : Around} {outer : List Env} {s : Shared} {H₀ : Hp} {E : XK} :
    Flies (cxOf (CXF P w) P w K mg base N qual scope f cd A outer s H₀ E) E := flies_of rfl rfl rfl rfl fun _ _ h => h
theorem passF {X : Cx} {E : XK} (h : Flies X E) (hx : X.ex = [] := by rfl) : Passes (CXF X.prog X.w) X E := by
  rintro pins σ H s e s' I ⟨a, C, dx, H', o, vs, rfl, os, bare, un, hok, ha, haH, he, hc, hdx, hd, h2, ht, hE⟩
  have I' : Inv X pins σ H' s' := I.call' os un hok bare (fun b z => absurd z (by simp))
  exact h pins σ H' s' a C dx o vs I' (I.gone hx ha) haH he hc hdx hd h2 ht hE
noncomputable def ExcC (K : PySem.W.Frag) (C : Addr) : Prop := ∃ nm q N bs bm hdct sn sub ab col dd k0 k1 k2 k3 k5, K.lookup C = some (excClassObj nm q C N bs bm hdct sn sub ab col dd k0 k1 k2 k3 k5 "ValueError.__new__") ∧ bm.contains (.type "BaseException") = true ∧
  (∀ h : Heap, K.In h → ∃ mN, h.Ns N mN ∧ mN "__init__" = none) ∧ ∀ h : Heap, K.In h → OwnTail h [.type "ValueError", .type "Exception", .type "BaseException", .type "object"] bm
section
variable {X : Cx}
noncomputable def tRaise (C : Addr) (E : XK) (ta : TA) : TS := fun _ σ H => ta σ H fun vs H1 => vs.length ≤ sizeLine ∧ E (.ref C) none H1
theorem ps_raise {E : XK} {C : Addr} {x : Str} {np cpos pos : Pos} {e : Expr} {es : List Expr} {ta : TA} (hF : Flies X E) (hc : X.calm = true) (c : ExcC X.K C) (hg : Gl X x) (hm : X.mg x = some (.ref C)) (ha : PA X (e :: es) ta) (hx : X.ex = [] := by rfl) (hdb : (x == ("__debug__" : Str)) = false := by decide)
    (he : starEach (e :: es) X.env = (false, eval e X.env) :: starEach es X.env := by rfl) (hpl : (backTo cpos (starEach es X.env)).any (·.1) = false := by rfl) :
    PS X (.Raise (some (.Call (.Name x np) (e :: es) [] cpos)) none pos) (tRaise C E ta) := by
  intro pins s σ H D I h
  obtain ⟨nm, q, N, bs, bm, hdct, sn, sub, ab, col, dd, k0, k1, k2, k3, k5, hK, hb, hN, hT⟩ := c
  obtain ⟨mN, hns, hni⟩ := hN X.base I.mod.kin
  have tl := hT X.base I.mod.kin
  have ha := ha cpos pins s σ H _ I h
  rw [he] at ha
  refine wpAny_Raise_call_subT (nm := nm) (q := q) (C := C) (N := N) (bs := bs) (bm := bm) (hdct := hdct) (sn := sn) (sub := sub) (ab := ab) (col := col) (dd := dd) (k0 := k0) (k1 := k1) (k2 := k2) (k3 := k3) (k5 := k5) PySem.F.excBase_ValueError hb (I.ok.hd hc) (by rw [he]; show (false || (backTo cpos (starEach es X.env)).any (·.1)) = false; rw [hpl]; rfl) hni (ld_glob I hg hm ⟨rfl, ?_⟩ hdb)
  rw [he]
  refine Calls.evalArgs_plain (thn ha fun us s2 ⟨vs, H1, I1, r, hl, hE⟩ => ?_)
  refine ⟨rfl, by rw [← r.length]; exact hl, I1.kIn _ _ hK, hns.keeps I1.bk, tl.keeps I1.bk, fun h' a hm' => ?_⟩
  obtain ⟨t, ht, _, _⟩ := hm'.there
  have I2 : Inv X pins σ H1 { s2 with heap := h' } := I1.kept (t' := s2.toks) hm'.keeps
  exact hF pins σ H1 _ a C none _ _ I2 (I1.gone hx hm'.new) (I1.hok.free hm'.new) ht rfl rfl rfl rfl (.inl rfl) hE
end
end L2
end
section
set_option Elab.async false
set_option linter.all false
set_option maxRecDepth 100000
set_option maxHeartbeats 4000000
namespace L2
open PySem PySem.Spec PyProof.Rows
noncomputable abbrev TJ := St → Hp → Str → (Str → Hp → Prop) → Prop
section
variable {X : Cx} {pos : Pos} {e e1 e2 : Expr} {es : List Expr} {te : TE} {t : TJ}
end
end L2
end
section
set_option Elab.async false
set_option linter.all false
set_option maxRecDepth 100000
set_option maxHeartbeats 4000000
namespace L2
open PySem PySem.Spec PyProof.Rows
noncomputable def codeO (qual : Str) (c : Addr) : HO := .ext fun h => h.CodeRec (.ref c) qual
noncomputable def Tbl (H : Hp) (P : Addr) (qual : Str) : Prop := ∃ ps, H P = some (.tbl ps) ∧ TriplesOk ps.toList ∧ ∀ pos cv, codeAmong pos ps.toList = some cv → ∃ c, cv = .ref c ∧ H c = some (codeO qual c)
noncomputable def Grown (d : Addr) (H H' : Hp) : Prop := ∀ b o, b ≠ d → H b = some o → H' b = some o
theorem Tbl.same {H H' : Hp} {P : Addr} {q : Str} (x : Tbl H P q) (e : ∀ b o, H b = some o → H' b = some o) : Tbl H' P q :=
  let ⟨ps, h1, h2, h3⟩ := x
  ⟨ps, e _ _ h1, h2, fun pos cv h => let ⟨c, e1, e2⟩ := h3 pos cv h; ⟨c, e1, e _ _ e2⟩⟩
theorem Tbl.grown {H H' : Hp} {P d : Addr} {q : Str} {od : HO} (x : Tbl H P q) (e : Grown d H H') (hd : H d = some od) (n1 : ∀ ps, od ≠ .tbl ps) (n2 : ∀ c, od ≠ codeO q c) : Tbl H' P q :=
  let ⟨ps, h1, h2, h3⟩ := x
  ⟨ps, e _ _ (fun z => by rw [z, hd] at h1; exact n1 _ (Option.some.inj h1)) h1, h2, fun pos cv h => let ⟨c, e1, e2⟩ := h3 pos cv h; ⟨c, e1, e _ _ (fun z => by rw [z, hd] at e2; exact n2 _ (Option.some.inj e2)) e2⟩⟩
theorem triples_cases {l : List Value} (ok : TriplesOk l) : l = [] ∨ ∃ a t b u x r, l = .int a t :: .int b u :: x :: r ∧ TriplesOk r := by
  rcases l with _ | ⟨p, _ | ⟨q, _ | ⟨x, r⟩⟩⟩
  · exact .inl rfl
  · cases p <;> exact (show False from ok).elim
  · cases p with
    | int a t => cases q <;> exact (show False from ok).elim
    | _ => exact (show False from ok).elim
  · cases p with
    | int a t =>
      cases q with
      | int b u => exact .inr ⟨a, t, b, u, x, r, rfl, ok⟩
      | _ => exact (show False from ok).elim
    | _ => exact (show False from ok).elim
theorem among_snoc {pos : Pos} {cv c : Value} {i j : Nat} (l : List Value) (ok : TriplesOk l) (h : codeAmong pos (l ++ [rawInt i, rawInt j, c]) = some cv) : codeAmong pos l = some cv ∨ cv = c := by
  induction n : l.length using Nat.strongRecOn generalizing l with
  | ind n ih =>
    rcases triples_cases ok with rfl | ⟨a, t, b, u, x, r, rfl, okr⟩
    · have h : (if ((i : Int) == (pos.line : Int) && (j : Int) == (pos.col : Int)) = true then some c else none) = some cv := h
      split at h
      · exact .inr (Option.some.inj h).symm
      · cases h
    · have h : (if (a == (pos.line : Int) && b == (pos.col : Int)) = true then some x else codeAmong pos (r ++ [rawInt i, rawInt j, c])) = some cv := h
      show (if (a == (pos.line : Int) && b == (pos.col : Int)) = true then some x else codeAmong pos r) = some cv ∨ cv = c
      split at h
      · rename_i z
        rw [if_pos z]
        exact .inl h
      · rename_i z
        rw [if_neg z]
        exact ih r.length (by rw [← n]; simp only [List.length_cons]; omega) r okr h rfl
theorem triples_snoc {c : Value} {i j : Nat} (l : List Value) (ok : TriplesOk l) : TriplesOk (l ++ [rawInt i, rawInt j, c]) := by
  induction n : l.length using Nat.strongRecOn generalizing l with
  | ind n ih =>
    rcases triples_cases ok with rfl | ⟨a, t, b, u, x, r, rfl, okr⟩
    · trivial
    · exact ih r.length (by rw [← n]; simp only [List.length_cons]; omega) r okr rfl
noncomputable def BmAt (mg : Str → Option Value) (base : Heap) : Prop := ∃ bm o, mg "__builtins__" = some (.ref bm) ∧ bm ≠ builtinsNs ∧ bm ≠ mainGlobals ∧ base.get? bm = some o ∧ o.cls = .type "module" ∧ o.dict = some builtinsNs ∧ o.data = .plain
section
variable {X : Cx} {pins : List (Addr × Obj)} {σ : St} {H : Hp} {s : Shared}
theorem lam_make {E : Value → Shared → Prop} {Q : Value → Shared → Prop} {params : Arguments} {body : Expr} {sc : Scope} {pos : Pos} {c P : Addr} (I : Inv X pins σ H s) (hcode : X.env.code = .ref c) (hC : PySem.W.codeHdIn X.K c P = true)
    (hT : Tbl H P (X.env.qual ++ "<lambda>")) (hB : BmAt X.mg X.base) (hdef : defaultsOf params X.env = ([], [])) (hfree : ∀ p ∈ sc.names, p.2 = NameKind.free → ∃ c, X.env.cells.lookup p.1 = some c)
    (k : ∀ (f c' : Addr) (ctv pm : Value) (H1 : Hp) (s1 : Shared), Inv X pins σ H1 s1 → s1.heap.get? f = some (PySem.W.kla_obj "<lambda>" (X.env.qual ++ "<lambda>") params body sc (closeL X.env sc.names []) pm c' ctv) → H1 f = none →
      H1 c' = some (codeO (X.env.qual ++ "<lambda>") c') → Grown P H H1 → Tbl H1 P (X.env.qual ++ "<lambda>") → Q (.ref f) s1) :
    wpAny (model X.prog X.w) X.A (eval (.Lambda params body sc pos) X.env) Q E s := by
  obtain ⟨ps, hP, ht, hcs⟩ := hT
  have hPo : s.heap.get? P = some (PySem.W.tabObj ps) := I.hok P _ hP
  have hcl := closureFor_eq hfree
  have hg : s.heap.Ns mainGlobals X.mg := I.mod.glob.keeps I.bk
  have hgP : mainGlobals ≠ P := fun z => by
    obtain ⟨o, es, ep, e, d, _⟩ := hg
    rw [z, hPo] at e
    cases e
    cases d
  obtain ⟨bm, ob, b1, b2, b3, b4, b5, b6, b7⟩ := hB
  have hbP : bm ≠ P := fun z => by
    have := (I.bs bm ob b4).2
    rw [z, hP] at this
    cases this
  have hBA : s.heap.BuiltinsAt X.mg P := ⟨bm, ob, b1, b2, b3, hbP, I.bk _ _ b4, b5, b6, b7⟩
  have hCd := PySem.W.codeHd_of_K I.kIn hC
  refine PySem.W.kla_eval hdef ?_
  cases e : codeAmong pos ps.toList with
  | some cv =>
    obtain ⟨c', rfl, hc'⟩ := hcs pos cv e
    refine PySem.W.kla_makeFunctionHit (mg := X.mg) hcl I.ok.glob hg hcode hCd hPo ht e hBA fun ctv h' tk hk hsz => ?_
    have I1 : Inv X pins σ H { s with heap := h'.push { cls := .type "function", data := .func (PySem.W.kla_fn "<lambda>" (X.env.qual ++ "<lambda>") params body sc (closeL X.env sc.names []) ((X.mg "__name__").getD .none) (.ref c') ctv) }, toks := tk } :=
      I.kept fun b u q => Heap.get?_push_of_some _ (hk b u q)
    exact k h'.objs.size c' ctv _ H _ I1 (Heap.get?_push_size _ rfl) (I.hok.fresh hsz) hc' (fun _ _ _ q => q) ⟨ps, hP, ht, hcs⟩
  | none =>
    refine PySem.W.kla_makeFunction (mg := X.mg) hcl I.ok.glob hg hcode hCd hPo ht e hgP hBA fun c' ctv h' tk hx hge hlt hrec htb => ?_
    have fr : H c' = none := I.hok.fresh hge
    have nP : c' ≠ P := fun z => by rw [z, hP] at fr; cases fr
    have kp : ∀ b o, b ≠ P → s.heap.get? b = some o → (h'.push (PySem.W.kla_obj "<lambda>" (X.env.qual ++ "<lambda>") params body sc (closeL X.env sc.names []) ((X.mg "__name__").getD .none) c' ctv)).get? b = some o := fun b o hb q => Heap.get?_push_of_some _ (hx b o hb q)
    have notP : ∀ b, H b = none → b ≠ P := fun b q z => by rw [z, hP] at q; cases q
    have lt : ∀ b o, s.heap.get? b = some o → b ≠ c' := fun b o q => Nat.ne_of_lt (Nat.lt_of_lt_of_le (Heap.lt_size q) hge)
    have trk : ∀ b o, H b = some o → b ≠ c' := fun b o q z => by rw [z, fr] at q; cases q
    have I1 : Inv X pins σ (upd (upd H P (.tbl (ps ++ #[rawInt pos.line, rawInt pos.col, .ref c']))) c' (codeO (X.env.qual ++ "<lambda>") c'))
        { s with heap := h'.push (PySem.W.kla_obj "<lambda>" (X.env.qual ++ "<lambda>") params body sc (closeL X.env sc.names []) ((X.mg "__name__").getD .none) c' ctv), gens := s.gens, drawn := s.drawn, toks := tk } := by
      refine I.step (ch := []) (fun b z => absurd z (by simp)) (fun b o _ _ _ q n => kp b o (notP b n) q) (fun b o _ _ _ q n => ⟨o.slots, kp b o (notP b n) q⟩) (fun b o _ q n => ?_) (fun b o _ q => ?_) (fun b xs q => ?_) (fun b o u q => ?_) (fun b qs q => ?_) (fun m hm => ?_) (fun b u q => ?_) I.bare
      · rw [upd_ne (lt b o q), upd_ne (notP b n)]; exact n
      · by_cases z : b = P
        · rw [z]; exact ⟨_, Heap.get?_push_of_some _ htb⟩
        · exact ⟨o, kp b o z q⟩
      · rw [upd_ne (trk b _ q), upd_ne (fun z => by rw [z, hP] at q; cases q)]; exact q
      · rw [upd_ne (trk b _ q), upd_ne (fun z => by rw [z, hP] at q; cases q)]; exact q
      · rw [upd_ne (trk b _ q)]
        by_cases z : b = P
        · subst z
          rw [hP] at q
          cases q
          exact ⟨_, upd_same⟩
        · rw [upd_ne z]; exact ⟨#[], by rw [q]; simp⟩
      · obtain ⟨o, es, ep, q, r⟩ := hm
        exact ⟨o, es, ep, kp _ o (notP _ I.free) q, r⟩
      · by_cases z : b = c'
        · subst z
          rw [upd_same] at q
          cases q
          obtain ⟨c0, oc, vs, tq, e1, e2, e3, e4⟩ := hrec
          cases e1
          refine ⟨⟨b, oc, vs, tq, rfl, Heap.get?_push_of_some _ e2, e3, e4⟩, ⟨oc, Heap.get?_push_of_some _ e2⟩, fun h1 h2 ⟨c0, oc', vs', tq', f1, f2, f3, f4⟩ kk => ?_⟩
          cases f1
          exact ⟨b, oc', vs', tq', rfl, kk _ f2, f3, f4⟩
        · rw [upd_ne z] at q
          by_cases z2 : b = P
          · subst z2
            rw [upd_same] at q
            cases q
            exact Heap.get?_push_of_some _ htb
          · rw [upd_ne z2] at q
            refine (I.hok b u q).stay (fun d v hd r => kp d v (fun y => ?_) r) (fun d r => ?_) fun d xs r => ?_
            · rcases hd with hd | hd
              · rw [hd] at y; exact z2 y
              · rw [y, hP] at hd; cases hd
            · rw [upd_ne (trk d _ r), upd_ne (fun y => by rw [y, hP] at r; cases r)]; exact r
            · rw [upd_ne (trk d _ r), upd_ne (fun y => by rw [y, hP] at r; cases r)]; exact r
    have f0 : H h'.objs.size = none := I.hok.fresh (Nat.le_trans hge (Nat.le_of_lt hlt))
    refine k h'.objs.size c' ctv _ _ _ I1 (Heap.get?_push_size _ rfl) ?_ upd_same (fun b o nb q => ?_) ⟨_, by rw [upd_ne (Ne.symm nP), upd_same], ?_, fun pos' cv h => ?_⟩
    · rw [upd_ne (Nat.ne_of_gt hlt), upd_ne (notP _ f0)]; exact f0
    · rw [upd_ne (trk b _ q), upd_ne nb]; exact q
    · rw [Array.toList_append]
      exact triples_snoc _ ht
    · rw [Array.toList_append] at h
      rcases among_snoc _ ht h with h | h
      · obtain ⟨c2, e1, e2⟩ := hcs pos' cv h
        refine ⟨c2, e1, ?_⟩
        rw [upd_ne (trk c2 _ e2), upd_ne (fun y => by rw [y, hP] at e2; cases e2)]
        exact e2
      · exact ⟨c', h, upd_same⟩
end
end L2
end
section
set_option Elab.async false
set_option linter.all false
set_option maxRecDepth 100000
set_option maxHeartbeats 4000000
namespace L2
open PySem PySem.Spec PyProof.Rows
noncomputable def lamOk (sc outer : Scope) : Bool := (sc.kind == .function) && !sc.isCoroutine && !sc.isGenerator && sc.names.all (fun p => p.2 != NameKind.cell && p.2 != NameKind.local) &&
  sc.names.all (fun p => p.2 != NameKind.free || (outer.names.lookup p.1 == some NameKind.cell || outer.names.lookup p.1 == some NameKind.free))
structure LamOk (sc outer : Scope) : Prop where
  kind : sc.kind = .function
  co : sc.isCoroutine = false
  gen : sc.isGenerator = false
  nocell : ∀ p ∈ sc.names, p.2 ≠ NameKind.cell
  noloc : ∀ p ∈ sc.names, p.2 ≠ NameKind.local
  free : ∀ p ∈ sc.names, p.2 = NameKind.free → outer.names.lookup p.1 = some NameKind.cell ∨ outer.names.lookup p.1 = some NameKind.free
theorem LamOk.of {sc outer : Scope} (h : lamOk sc outer = true) : LamOk sc outer := by
  unfold lamOk at h
  simp only [Bool.and_eq_true, List.all_eq_true] at h
  obtain ⟨⟨⟨⟨h1, h2⟩, h3⟩, h4⟩, h5⟩ := h
  refine ⟨eq_of_beq h1, by simpa using h2, by simpa using h3, fun p hp => by simpa using (h4 p hp).1, fun p hp => by simpa using (h4 p hp).2, fun p hp e => ?_⟩
  have := h5 p hp
  rw [e] at this
  simpa using this
noncomputable abbrev lamEnv (X : Cx) (qual : Str) (sc : Scope) (f c' : Addr) (s : Shared) : Env := PySem.W.envX qual sc s.heap.objs.size f (.ref c') (closeL X.env sc.names [])
noncomputable def lamCx (X : Cx) (qual : Str) (sc : Scope) (f c' : Addr) (A : Around) (outer : List Env) (s : Shared) (H : Hp) (E : XK) : Cx where
  prog := X.prog
  w := X.w
  K := X.K
  mg := X.mg
  base := X.base
  A := A.deeper (lamEnv X qual sc f c' s)
  N := X.N
  s₀ := s
  H₀ := H
  env := lamEnv X qual sc f c' s
  outer := outer
  stack := lamEnv X qual sc f c' s :: outer
  ex := []
  fn := fun _ => false
  calm := true
  pn := []
  xe := fun e s' => wpAny (model X.prog X.w) (A.deeper (lamEnv X qual sc f c' s)) (leaving (lamEnv X qual sc f c' s) e) (fun _ s'' => CXF X.prog X.w outer H s E e s'') (fun e' s'' => CXF X.prog X.w outer H s E e' s'') s'
noncomputable def DeedAt (P : Program) (w : World) (K : PySem.W.Frag) (mg : Str → Option Value) (base : Heap) (k : Nat) (f : Addr) (h0 : Heap) (H : Hp) (pre : VK → XK → Prop) : Prop :=
  ∀ (A : Around) (outer : List Env) (s : Shared) (Q : VK) (E : XK), Room k A → Env0 P w K mg base A outer s H → (∀ b o, h0.get? b = some o → H b = none → ∃ sl, s.heap.get? b = some { o with slots := sl }) → pre Q E →
    codeAny (model P w) A (.call (.ref f) ⟨[], []⟩) (CR (CXF P w) outer P w H s Q E) s
section
variable {X : Cx} {pins : List (Addr × Obj)} {σ : St} {H : Hp} {s : Shared}
theorem lam_deed {k : Nat} {f c' : Addr} {ctv pm : Value} {qual : Str} {params : Arguments} {body : Expr} {sc : Scope} {tb : XK → TE} (I : Inv X pins σ H s) (ok : LamOk sc X.env.scope)
    (hf : s.heap.get? f = some (PySem.W.kla_obj "<lambda>" qual params body sc (closeL X.env sc.names []) pm c' ctv)) (hH : H f = none) (hc : H c' = some (codeO qual c'))
    (hbind : bindArgs (PySem.W.kla_fn "<lambda>" qual params body sc (closeL X.env sc.names []) pm (.ref c') ctv) ⟨[], []⟩ = pure [])
    (hb : ∀ (A : Around) (outer : List Env) (s' : Shared) (E : XK), Room k (A.deeper (PySem.W.envX qual sc s'.heap.objs.size f (.ref c') (closeL X.env sc.names []))) → PE (lamCx X qual sc f c' A outer s' H E) body (tb E)) :
    DeedAt X.prog X.w X.K X.mg X.base (k + 1) f s.heap H (fun Q E => tb E σ H Q) := by
  intro A outer s' Q E hr e0 kp hq
  obtain ⟨sl, hf'⟩ := kp f _ hf hH
  have hrec : s'.heap.CodeRec (.ref c') qual := (e0.hok c' _ hc).1
  have lim : s'.heap.NoLimit := e0.mod.nolimit.keeps fun b o e => (e0.bs b o e).1
  refine PySem.W.kla_callFunE hr.depth hf' rfl ok.co ok.gen rfl hrec ?_
  rw [hbind]
  refine wpAny_pure (wpAny_newFunctionEnv ok.nocell (fun x hx => absurd hx (by simp)) (fun h1 hns hsb => ?_) ok.kind)
  have hk1 : ∀ b o, s'.heap.get? b = some o → h1.get? b = some o := fun b o e => hsb.extBut b o (Nat.ne_of_lt (Heap.lt_size e)) (Heap.get?_push_of_some _ e)
  have sub : ∀ x c, (closeL X.env sc.names []).lookup x = some c → X.env.cells.lookup x = some c := fun x c e => by
    rcases closeL_sub X.env sc.names [] x c e with z | z
    · simp at z
    · exact z
  have cel : ∀ c v, H c = none → s.heap.IsCell c v → h1.IsCell c v := fun c v n x => by
    refine isCell_slots x fun o e => ?_
    obtain ⟨sl, e'⟩ := kp c o e n
    exact ⟨sl, hk1 _ _ e'⟩
  have fr : ∀ x, (sc.names.lookup x = some .local ∨ sc.names.lookup x = some .cell ∨ sc.names.lookup x = some .free) → sc.names.lookup x = some .free := fun x h => by
    rcases h with h | h | h
    · exact absurd rfl (ok.noloc _ (PySem.mem_of_lookup h))
    · exact absurd rfl (ok.nocell _ (PySem.mem_of_lookup h))
    · exact h
  have J : Inv (lamCx X qual sc f c' A outer s' H E) [] σ H { s' with heap := h1, toks := s'.toks + ([] : List (Str × Value)).length } := by
    refine ⟨⟨e0.mod, ok.kind, rfl, rfl, Nat.le_refl _, fun x y c h1 h2 => I.ok.inj x y c (sub x c h1) (sub y c h2), fun x hx => ?_, fun x c h => (by cases h), fun _ => hr.hd, Around.frames_deeper e0.frames, .inr ⟨rfl, rfl⟩, fun b z => absurd (show b ∈ ([] : List Addr) from z) (by simp), e0.bs, e0.bsz,
      fun b o _ z => absurd (show b ∈ ([] : List Addr) from z) (by simp), fun b z => absurd (show b ∈ ([] : List Addr) from z) (by simp), e0.funs, e0.frf⟩, rfl, e0.bare, Un.kept hk1, ⟨_, hns, fun i x v h1 h2 vis => ?_⟩, fun x c h => ?_, e0.hok.fresh (Nat.le_refl _), fun x c h => I.freeC x c (sub x c h),
      fun p hp => absurd (show p ∈ ([] : List (Addr × Obj)) from hp) (by simp), e0.hok.kept hk1, I.len⟩
    · have hx : sc.names.lookup x = some .cell ∨ sc.names.lookup x = some .free := hx
      have hx := fr x (.inr hx)
      have hm := PySem.mem_of_lookup hx
      exact closeL_has X.env sc.names [] x hm (I.ok.has x (ok.free _ hm rfl))
    · have hx := fr x vis
      have hm := PySem.mem_of_lookup hx
      have ho := ok.free _ hm rfl
      obtain ⟨m, _, hl⟩ := I.loc
      obtain ⟨u, rv, lk⟩ := hl i x v h1 h2 (by rcases ho with z | z; exact .inr (.inl z); exact .inr (.inr z))
      refine ⟨u, rv, .inr ⟨.inr hx, ?_⟩⟩
      rcases lk with ⟨z, _⟩ | ⟨_, c, hc1, hc2⟩
      · have z : X.env.scope.names.lookup x = some .local := z
        rcases ho with y | y <;> rw [z] at y <;> cases y
      · obtain ⟨c2, hc3⟩ := closeL_has X.env sc.names [] x hm ⟨c, hc1⟩
        have := sub x c2 hc3
        rw [hc1] at this
        cases this
        exact ⟨c, hc3, cel c _ (I.freeC x c hc1) hc2⟩
    · have h' := sub x c h
      obtain ⟨v, hv⟩ := I.cell x c h'
      exact ⟨v, cel c v (I.freeC x c h') hv⟩
  refine ⟨lim.keeps hk1, PySem.W.kla_codeExpr ?_⟩
  refine wpAny_mono (hb A outer s' E (hr.deeper _) [] _ σ H Q J hq) (fun v s2 hs => ?_) fun _ _ x => x
  obtain ⟨v', H', J', rv, q⟩ := hs
  exact ⟨v', H', J'.os, J'.bare, J'.base, J'.hok, rv, q⟩
end
end L2
end
section
set_option Elab.async false
set_option linter.all false
set_option maxRecDepth 100000
set_option maxHeartbeats 4000000
namespace L2
open PySem
theorem entry_unchain : entryFor table "proto.unchain" = some Builtin.«proto.unchain» := entryFor_of_tree (by kernel_rfl)
section
variable {prog : Program} {w : World} {A : Around} {E : Value → Shared → Prop} {s : Shared}
theorem raise_h {α : Type} {e a : Addr} {oe oa : Obj} {vs us : Array Value} {Q : α → Shared → Prop} (hh : A.handled = some (.ref e)) (he : s.heap.get? e = some oe) (hd : oe.data = .fields vs) (h2 : vs[2]? = some .none) (ne : e ≠ a)
    (ha : s.heap.get? a = some oa) (da : oa.data = .fields us) (sz : 2 < us.size) (k : E (.ref a) { s with heap := s.heap.update a (Obj.mapFields (·.setIfInBounds 2 (.ref e))) }) : wpAny (model prog w) A (raiseNew (.ref a) : Sem α) Q E s := by
  unfold raiseNew
  refine wpAny_bind (wpAny_handled ?_)
  rw [hh]
  dsimp only
  rw [if_pos (by simp [ne])]
  refine wpAny_bind (wpAny_holding (wpAny_runValue (codeAny_builtin entry_unchain ?_)))
  unfold Builtin.«proto.unchain»
  dsimp only
  refine wpAny_bind (wpAny_field he hd h2 ?_)
  rw [if_pos (by decide)]
  refine wpAny_bind (wpAny_pure (wpAny_pure ?_))
  refine wpAny_bind ?_
  exact wpAny_setField ha da sz (wpAny_throw k)
theorem next_end_h {it l e : Addr} {i : Nat} {items : Array Value} {oe : Obj} {vs : Array Value} {Q : Option Value → Shared → Prop} (hh : A.handled = some (.ref e)) (he : s.heap.get? e = some oe) (hd : oe.data = .fields vs) (h2 : vs[2]? = some .none) (nit : e ≠ it)
    (hit : s.heap.IsListIter it l i) (hl : s.heap.IsList l items) (hx : items[i]? = none) (hQ : ∀ h', Heap.ExtBut it s.heap h' → Q none { s with heap := h' }) : wpAny (model prog w) A (pyNext (.ref it)) Q E s := by
  obtain ⟨oi, ei, ci, di⟩ := id hit
  obtain ⟨ol, el, _, nl, dl⟩ := hl
  unfold pyNext
  refine wpAny_bind (wpAny_attempt (wpAny_callSpecial?_slot (name := Str.ofString "__next__") hit.typeIs slot_listiter_next (wpAny_call_entry slot_listiter_next hit.typeIs entry_listiter_next ?_ (args_listiter_next _))))
  show wpAny _ _ (field (.ref it) 0 >>= _) _ _ s
  refine wpAny_bind (wpAny_field ei di (x := .ref l) rfl ?_)
  show wpAny _ _ (if (Value.ref l == Value.none) = true then _ else _) _ _ s
  rw [if_neg (fun z => nomatch z)]
  show wpAny _ _ (field (.ref it) 1 >>= _) _ _ s
  refine wpAny_bind (wpAny_field ei di (x := .int i 0) rfl ?_)
  show wpAny _ _ (seqItems? (.ref l) >>= _) _ _ s
  refine wpAny_bind (wpAny_seqItems el dl ?_)
  simp only [Int.toNat_natCast, hx]
  refine wpAny_bind (wpAny_rule (wpAny_bind (wpAny_setField ei di (by simp) ?_)))
  show wpAny _ _ (newExc (.type "StopIteration") [] >>= _) _ _ _
  refine wpAny_bind ?_
  simp only [newExc, newTuple]
  refine wpAny_bind (wpAny_newObj_type ?_ (by size_fits))
  refine wpAny_bind (m := firstArgMember _ _) (wpAny_of_eq (a := Value.none) (by first | rfl | (simp only [firstArgMember]; rfl)) ?_)
  refine wpAny_newObj_type ?_ (by size_fits)
  dsimp only
  generalize hs1 : s.heap.update it (Obj.mapFields fun x => x.setIfInBounds 0 Value.none) = h1
  have k1 : Heap.ExtBut it s.heap h1 := by rw [← hs1]; exact (Heap.SameBut.update ..).extBut
  generalize hs2 : h1.push { cls := Value.type "tuple", data := Data.seq #[] } = h3
  have k3 : ∀ b o, h1.get? b = some o → h3.get? b = some o := fun b o q => by rw [← hs2]; exact Heap.get?_push_of_some _ q
  generalize hoS : ({ cls := Value.type "StopIteration", data := Data.fields (#[Value.ref h1.objs.size, Value.none, Value.none, Value.none, Value.bool false, Value.none] ++ ownMembersOf (Value.type "StopIteration") []) } : Obj) = oS
  have e4 : (h3.push oS).get? e = some oe := Heap.get?_push_of_some _ (k3 e oe (k1 e oe nit he))
  have n4 : (h3.push oS).get? h3.objs.size = some oS := Heap.get?_push_size h3 (by rw [← hoS]; rfl)
  refine raise_h (A := A.in1) hh e4 hd h2 (Nat.ne_of_lt (Heap.lt_size (k3 e oe (k1 e oe nit he)))) n4 (by rw [← hoS]) (by rw [Array.size_append]; exact Nat.lt_of_lt_of_le (show 2 < 6 by decide) (Nat.le_add_right _ _)) ?_
  have dS : oS.data = Data.fields (#[Value.ref h1.objs.size, Value.none, Value.none, Value.none, Value.bool false, Value.none] ++ ownMembersOf (Value.type "StopIteration") []) := by rw [← hoS]
  have u4 := Heap.get?_update_self (Obj.mapFields (·.setIfInBounds 2 (Value.ref e))) n4 (Obj.isFreed_of_fields (Obj.data_mapFields dS _))
  refine wpAny_bind (wpAny_isInstance (T := "StopIteration") (b := true) ⟨_, u4, (Obj.cls_mapFields ..).trans (by rw [← hoS])⟩ isSubtype_stop ?_)
  refine wpAny_pure (hQ _ fun b o nb q => ?_)
  have q3 := k3 b o (k1 b o nb q)
  rw [Heap.get?_update_other _ _ (Nat.ne_of_gt (Heap.lt_size q3))]
  exact Heap.get?_push_of_some _ q3
theorem walks_h {e : Addr} {oe : Obj} {vs : Array Value} (hh : A.handled = some (.ref e)) (hd : oe.data = .fields vs) (h2 : vs[2]? = some .none) (I ax : Addr) (hne : ax ≠ I) (hie : e ≠ I) (items : Array Value) :
    Walks prog w A I [I, ax, e] [I] items.size (fun i v => items[i]? = some v) (fun i h => h.IsListIter I ax i ∧ h.IsList ax items ∧ h.get? e = some oe) where
  sub := fun b hb => by simp at hb; simp [hb]
  frame := fun _ _ _ st hk => ⟨st.1.at fun o q => hk I (by simp) o q, st.2.1.at fun o q => hk ax (by simp) o q, hk e (by simp) oe st.2.2⟩
  item := fun i s Q E hi st hQ => by
    refine wpAny_pyNext_list_item st.1 st.2.1 (x := items[i]) (by simp [hi]) fun h' st' sb => ?_
    exact hQ _ h' s.toks (by simp [hi]) ⟨st', st.2.1.extBut sb.extBut hne, sb.extBut _ _ hie st.2.2⟩ fun b o hb q => sb.extBut b o (fun z => hb (by simp [z])) q
  done := fun s Q E st hQ => next_end_h hh st.2.2 hd h2 hie st.1 st.2.1 (by simp) fun h' eb => hQ h' s.toks fun b o hb q => eb b o (fun z => hb (by simp [z])) q
  self := fun _ _ _ _ st hQ => wpAny_pyIter_listiter st.1 hQ
end
end L2
end
section
set_option Elab.async false
set_option linter.all false
set_option maxRecDepth 100000
set_option maxHeartbeats 4000000
namespace L2
open PySem PySem.W
section
variable {prog : Program} {w : World} {A : Around} {E : Value → Shared → Prop} {s : Shared} {K : Frag} {x C : Addr} {ox : Obj} {odo : Option Obj}
theorem findObj_exc {name : Str} {a g : Value} (hc : (clsIn K C).isSome = true) (ha : findIn K (.ref C) name = some (some a)) (hg : specialIn K a "__get__" = some (some g)) (ht : takesIn K a = some true) : findObj K C odo name = some (.bind g a) := by
  obtain ⟨cd, hc⟩ := Option.isSome_iff_exists.mp hc
  unfold findObj
  rw [hc, Option.bind_some, ha, Option.bind_some]
  simp [hg, ht]
theorem exc_class {Q : Option Value → Shared → Prop} (X : K.In s.heap) (I : InstAt s.heap x ox C odo) (hga : findIn K (.ref C) "__getattribute__" = some (some (.builtin "BaseException.__getattribute__"))) (hgh : findIn K (.ref C) "__getattr__" = some none)
    (hf : findObj K C odo "__class__" = some (.bind (.builtin "getset_descriptor.__get__") (.builtin "object.__class__"))) (hm : mroIn K C (.type "object") = some true) (hb : mroIn K C (.type "BaseException") = some true)
    (h : Q (some (.ref C)) { s with toks := s.toks + 1 }) : wpAny (model prog w) A (getAttr? (.ref x) "__class__") Q E s := by
  obtain ⟨hh, g, d, t, os⟩ := s
  have T0 := I.type (M := model prog w)
  have T1 := looks_findIn (M := model prog w) X hga
  have T2 : Looks (model prog w) hh (hookBefore (.ref C)) none := looks_hook X hgh
  have T3 := looks_find (M := model prog w) X I hf
  have T4 := looks_mroIn (M := model prog w) X hb
  have f3 := PySem.F.attrBase_ValueError.ga.bind (.ref x)
  unfold getAttr? getAttrBy? getAttrBy
  refine wpAny_bind (wpAny_mkText (wpAny_bind (wpAny_attempt (wpAny_holding (wpAny_bind (T0.at (wpAny_bind (T1.at ?_))))))))
  dsimp only
  rw [if_neg (by simp)]
  unfold getAttrByItsOwn
  refine wpAny_bind (T2.at (wpAny_bind (wpAny_attempt (wpAny_holding ?_))))
  unfold callGetattribute
  rw [if_neg (by simp)]
  unfold boundAndCalled
  rw [f3]
  refine wpAny_bind (wpAny_pure ?_)
  dsimp only
  have hk : builtinKind "BaseException.__getattribute__" = some .slot := by decide +kernel
  have hsp : splitId "BaseException.__getattribute__" = some ("BaseException", "__getattribute__") := by decide +kernel
  have hargs := PySem.F.args_bexc_ga (.ref x) (.str (Str.ofString "__class__") t)
  refine wpAny_call (codeAny_call_builtin PySem.F.attrBase_ValueError.ga.plain PySem.F.entry_bexc_ga ?_)
  simp only [checkBuiltinCall, hk, hsp]
  refine wpAny_bind ?_
  unfold isInstance
  refine wpAny_bind (T0.at (T4.at ?_))
  rw [if_neg (by simp)]
  unfold argsOk at hargs
  refine wpAny_of_eq hargs ?_
  unfold Builtin.«object.__getattribute__»
  refine wpAny_bind (wpAny_pure ?_)
  refine wpAny_bind (wpAny_pure ?_)
  refine wpAny_bind (T0.at (wpAny_bind (T3.at ?_)))
  dsimp only
  show wpAny _ _ (do ret (← holding [Value.builtin "object.__class__"] (call (Value.builtin "getset_descriptor.__get__") [Value.builtin "object.__class__", Value.ref x, Value.ref C]))) _ _ _
  refine wpAny_bind (wpAny_holding (wpAny_call (class_get (ox := ox) (od := odo) X I hm ?_)))
  exact wpAny_pure (handed_on rfl (wpAny_pure h))
structure ExcIs (K : Frag) (C : Addr) : Prop where
  ga : findIn K (.ref C) "__getattribute__" = some (some (.builtin "BaseException.__getattribute__"))
  gh : findIn K (.ref C) "__getattr__" = some none
  ca : findIn K (.ref C) "__class__" = some (some (.builtin "object.__class__"))
  gn : specialIn K (.builtin "object.__class__") "__get__" = some (some (.builtin "getset_descriptor.__get__"))
  tk : takesIn K (.builtin "object.__class__") = some true
  ob : mroIn K C (.type "object") = some true
  be : mroIn K C (.type "BaseException") = some true
  cl : (clsIn K C).isSome = true
end
end L2
end
section
set_option Elab.async false
set_option linter.all false
set_option maxRecDepth 100000
set_option maxHeartbeats 4000000
namespace L2
open PySem PySem.Spec PyProof.Rows
section
variable {X : Cx} {pins : List (Addr × Obj)} {σ : St} {H : Hp} {s : Shared}
theorem Inv.trackN {a : Addr} {o : HO} (I : Inv X pins σ H s) (hn : H a = none) (h0 : X.s₀.heap.get? a = none) (hL : X.env.locals ≠ a) (hc : ∀ x c, X.env.cells.lookup x = some c → c ≠ a) (hp : ∀ p ∈ X.pn ++ pins, p.1 ≠ a) (new : ObjOk X.prog X.w (upd H a o) s.heap a o) :
    Inv X pins σ (upd H a o) s := by
  refine ⟨I.ok, I.os, I.bare, ⟨I.base.keep, I.base.slot, fun b ob e n x => ?_, I.base.there, fun b xs e => ?_, fun b ob u e => ?_, fun b ps e => ?_⟩, I.loc, I.cell, ?_, fun y c e => ?_, fun p q => ?_, I.hok.track hn new, I.len⟩
  · rw [upd_ne (fun z => by rw [z, h0] at e; cases e)]
    exact I.base.free b ob e n x
  · rw [upd_ne (ne_of_none (I.base.tups b xs e) hn)]; exact I.base.tups b xs e
  · rw [upd_ne (ne_of_none (I.base.frzs b ob u e) hn)]; exact I.base.frzs b ob u e
  · obtain ⟨mr, q⟩ := I.base.tbls b ps e
    exact ⟨mr, by rw [upd_ne (ne_of_none q hn)]; exact q⟩
  · rw [upd_ne hL]; exact I.free
  · rw [upd_ne (hc y c e)]; exact I.freeC y c e
  · obtain ⟨e, n, ne, nf, d⟩ := I.pin p q
    exact ⟨e, by rw [upd_ne (hp p q)]; exact n, ne, nf, d⟩
noncomputable abbrev Cx.marked (X : Cx) (A2 : Around) : Cx := { X with A := A2, calm := false, xe := fun _ _ => False }
theorem Inv.marked {A2 : Around} (I : Inv X pins σ H s) (hf : A2.frames = X.A.frames) : Inv (X.marked A2) pins σ H s :=
  ⟨⟨I.ok.mod, I.ok.kind, I.ok.glob, I.ok.blt, I.ok.above, I.ok.inj, I.ok.has, I.ok.cab, fun z => (by cases z), hf.trans I.ok.frames, I.ok.stk, I.ok.exf, I.ok.bs, I.ok.bsz, I.ok.noex, I.ok.exfs, I.ok.funs, I.ok.frf⟩, I.os, I.bare, I.base, I.loc, I.cell, I.free, I.freeC, I.pin, I.hok, I.len⟩
theorem Inv.unmarked {A2 : Around} (I : Inv (X.marked A2) pins σ H s) (ok : X.Ok) : Inv X pins σ H s := ⟨ok, I.os, I.bare, I.base, I.loc, I.cell, I.free, I.freeC, I.pin, I.hok, I.len⟩
end
theorem kitx_exc {K : PySem.W.Frag} {x C : Addr} {ox : Obj} {odo : Option Obj} (Z : ExcIs K C) : PySem.W.KitX K (.ref x) (.ref C) (fun h => PySem.W.InstAt h x ox C odo) where
  ty := fun _ _ _ I => I.type
  it := fun _ _ X _ => by
    obtain ⟨cd, hc⟩ := Option.isSome_iff_exists.mp Z.cl
    unfold PySem.W.clsIn at hc
    split at hc
    · rename_i ho
      intro A' Q' E' s' k q
      unfold isType loadHead
      exact wpAny_bind (wpAny_loadPart (k _ _ (X _ _ ho)) (wpAny_pure q))
    · cases hc
  ne := fun h tp dd its n sl X htp => by
    obtain ⟨cd, hc⟩ := Option.isSome_iff_exists.mp Z.cl
    refine Bool.eq_false_iff.mpr fun q => ?_
    have e : C = tp := Value.ref.inj (beq_iff_eq.mp q)
    subst e
    unfold PySem.W.clsIn at hc
    split at hc
    · rename_i ho
      have z := (X _ _ ho).symm.trans htp
      cases z
    · cases hc
  ca := fun X I k => exc_class X I Z.ga Z.gh (findObj_exc Z.cl Z.ca Z.gn Z.tk) Z.ob Z.be k
noncomputable def excH (o : Obj) : HO := .frz o (.ext fun _ => True)
structure ExcObj (o : Obj) (C : Addr) : Prop where
  cls : o.cls = .ref C
  dict : o.dict = none
  data : ∃ vs, o.data = .fields vs ∧ vs[2]? = some .none
theorem ExcObj.inst {o : Obj} {C : Addr} (x : ExcObj o C) {h : Heap} {a : Addr} (e : h.get? a = some o) : PySem.W.InstAt h a o C none := by
  obtain ⟨vs, d, _⟩ := x.data
  refine ⟨e, x.cls, ?_, ?_⟩
  · unfold PySem.W.notCls
    rw [d]
  · rw [x.dict]
    trivial
section
variable {X : Cx}
noncomputable def rIsiE (K : PySem.W.Frag) : List V → Hp → VK → Prop := fun xs H Q => ∃ (a : Addr) (o : Obj) (C : Addr) (c : V) (cv : Value) (b : Bool), xs = [.ref a, c] ∧ H a = some (excH o) ∧ ExcObj o C ∧ ExcIs K C ∧ (∀ u, RelV c u → u = cv) ∧ PySem.W.kitOne K (.ref C) cv = some b ∧ Q (.bl b) H
theorem call_isiE : CallR X (.builtin "isinstance") (rIsiE X.K) := by
  intro pins s σ H xs us Q I r h
  obtain ⟨a, o, C, c, cv, b, rfl, ha, eo, z, uc, e, q⟩ := h
  obtain ⟨u, v, rfl, ru, rv⟩ := vals2 r
  cases uc v rv
  cases ru
  have h1 : s.heap.get? a = some o := (I.hok a _ ha).1
  exact PySem.W.kia_one (kitx_exc (ox := o) (odo := none) z) I.kIn (eo.inst h1) e (fun y => nomatch y) fun tk => ⟨.bl b, H, I.tok tk, rfl, q⟩
end
end L2
end
section
set_option Elab.async false
set_option linter.all false
set_option maxRecDepth 100000
set_option maxHeartbeats 4000000
namespace L2
open PySem PySem.Spec PyProof.Rows
noncomputable def Sob (X : Cx) : Prop := ∃ (e C : Addr) (o : Obj), X.A.handled = some (.ref e) ∧ X.H₀ e = some (excH o) ∧ ExcObj o C
theorem turn_listH {P : Program} {w : World} {K : PySem.W.Frag} {tg : Expr} (a it : Addr) : TurnQ Sob P w K tg (Itl K a) [it] it (fun i h => h.IsListIter it a i) where
  obj := (turn_list (P := P) (w := w) (K := K) (tg := tg) a it).obj
  keep := (turn_list (P := P) (w := w) (K := K) (tg := tg) a it).keep
  item := by
    intro X hP hw hK hq i pins s σ H E I hf st hg
    subst hP hw hK
    obtain ⟨xs, x, hq, hx⟩ := hg
    obtain ⟨its, rv, p, hz⟩ := I.list hq
    obtain ⟨u, hu, ru⟩ := rv.get hx
    obtain ⟨f0, f1, f2, f3, f4, f5⟩ := hf it (by simp)
    refine wpAny_pyNext_list_item st p.isList (x := u) (by simpa using hu) fun h' st' sb => ?_
    have I1 : Inv X pins σ H { s with heap := h' } := I.turned (t' := s.toks) (fun b o hb e => (sb.2 b hb).trans e) f0 f1 f3 f4 f5
    obtain ⟨o, e, c, d⟩ := id st'
    exact ⟨u, rfl, go_of (s := { s with heap := h' }) e c d (by decide) ⟨x, H, I1, ru, ⟨rfl, fun ys hy => by rw [I.list_inj hy hq]; exact hx⟩, st', fun b hb => (hf b hb).1⟩⟩
  done := by
    intro X hP hw hK hq i pins s σ H E I hf st hg
    subst hP hw hK
    obtain ⟨xs, hq', hx⟩ := hg
    obtain ⟨its, rv, p, hz⟩ := I.list hq'
    obtain ⟨f0, f1, f2, f3, f4, f5⟩ := hf it (by simp)
    obtain ⟨e, C, o, h1, h2, h3⟩ := hq
    have he := I.base.frzs _ _ _ h2
    have hh : s.heap.get? e = some o := (I.hok e _ he).1
    obtain ⟨vs, d1, d2⟩ := h3.data
    have hl := rv.length
    have ne : e ≠ it := fun z => by rw [z, f0] at he; cases he
    exact next_end_h h1 hh d1 d2 ne st p.isList (by simp; omega) fun h' eb => ⟨rfl, I.turned (t' := s.toks) (fun b o hb e => eb b o hb e) f0 f1 f3 f4 f5⟩
  self := fun _ _ _ _ _ st h => wpAny_pyIter_listiter st h
section
variable {X : Cx} {sc : Scope} {x : Str} {px pos : Pos} {elt iter : Expr} {ifs : List Expr} {tt : TT} {te tl : TE}
theorem pe_lcH (hs' : Sob X) (ok : lcOk sc X.env.scope x X.N = true) (hnd : (x :: X.N).Nodup) (hl : PE X iter tl)
    (ht : ∀ C s H fp, PF (blk X sc x X.N C s H fp) ifs tt) (he : ∀ C s H fp, PE (blk X sc x X.N C s H fp) elt te)
    (hs : ∀ x, foldedSetIterable iter X.env x = pure x := by intro _; rfl) : PE X (.ListComp elt [⟨.Name x px, iter, ifs, 0⟩] sc pos) (tLc (iList X.K tl) tt te) := by
  intro pins s σ H Q I h
  have ok := LcOk.of ok
  rw [eval_ListComp]
  refine wpAny_comprehension_free (use := none) rfl hs (clos_of I ok) ok.kind ok.locs (thn (hl pins s σ H _ I h) fun v s1 ⟨y, H1, I1, r1, q1⟩ => ?_)
  obtain ⟨a, e, ⟨xs, hq⟩, q⟩ := q1
  subst e
  cases r1
  obtain ⟨its, rv, p, hz⟩ := I1.list hq
  refine wpAny_pyIter_list p.isList ?_
  have I2 : Inv X pins σ H1 { s1 with heap := s1.heap.push { cls := .type "list_iterator", data := .fields #[.ref a, .int 0 0] } } := I1.kept (t' := s1.toks) fun b o e => Heap.get?_push_of_some _ e
  refine lc_block (RR := fun acc C => compPost (model X.prog X.w) X.A X.xe none (EP X pins σ Q) acc C) (q := Sob) (fp := [s1.heap.objs.size]) I2 ok (fun _ _ h _ => h) rfl hnd (fun C => ?_) (turn_listH a s1.heap.objs.size) ⟨_, Heap.get?_push_size _ rfl, rfl, rfl⟩ (fun b hb => ?_) ht he q ?_
  · obtain ⟨e, C', o, h1, h2, h3⟩ := hs'
    exact ⟨e, C', o, h1, I2.base.frzs _ _ _ h2, h3⟩
  · have e : b = s1.heap.objs.size := by simpa using hb
    subst e
    exact I1.fpOk (Nat.le_refl _) (I1.hok.fresh (Nat.le_refl _))
  · intro D C ys H' s' m q hD I' fC hn
    exact ⟨m, hn, fun h' hs' => ⟨.ref D, _, I'.turned (t' := s'.toks) (it := C) (fun b o hb e => (hs'.2 b hb).trans e) fC.1 fC.2.1 fC.2.2.2.1 fC.2.2.2.2.1 fC.2.2.2.2.2, rfl, q D hD⟩⟩
noncomputable def rSumH (K : PySem.W.Frag) : List V → Hp → VK → Prop := fun xs H Q => ∃ (a : Addr) (ns : List Int), xs = [.ref a] ∧ SqL K H a (ns.map V.int) ∧ Q (.int ns.sum) H
end
end L2
end
section
set_option Elab.async false
set_option linter.all false
set_option maxRecDepth 100000
set_option maxHeartbeats 4000000
namespace L2
open PySem PySem.Spec PyProof.Rows PySem.SeqAt
section
variable {X : Cx}
theorem call_sumH (hs : Sob X) : CallR X (.builtin "sum") (rSumH X.K) := by
  intro pins s σ H xs us Q I r h
  obtain ⟨a, ns, rfl, hq, q⟩ := h
  obtain ⟨u, rfl, ru⟩ := vals1 r
  cases ru
  obtain ⟨its, rv, p, hz⟩ := I.list hq
  obtain ⟨e, C, o, h1, h2, h3⟩ := hs
  have he := I.base.frzs _ _ _ h2
  have hh : s.heap.get? e = some o := (I.hok e _ he).1
  obtain ⟨vs, d1, d2⟩ := h3.data
  have elt := Heap.lt_size hh
  have hl : its.length = ns.length := by rw [← rv.length, List.length_map]
  have alt : a < s.heap.objs.size := by
    obtain ⟨ob, z, _⟩ := p.isList
    exact Heap.lt_size z
  refine call_sum_walkG (wpAny_pyIter_list p.isList ?_)
  refine ⟨s.heap.objs.size, _, _, _, _, _, fun i => ns.getD i 0, rfl, walks_h (A := X.A.in1) (oe := o) h1 d1 d2 s.heap.objs.size a (Nat.ne_of_lt alt) (Nat.ne_of_lt elt) its.toArray, ⟨⟨_, Heap.get?_push_size _ rfl, rfl, rfl⟩, p.isList.push _, Heap.get?_push_of_some _ hh⟩, fun b hb => ?_, fun i v hv => ?_, fun h' tk t' hk => ?_⟩
  · show b < (s.heap.push _).objs.size
    rw [Heap.size_push]
    simp only [List.mem_cons, List.not_mem_nil, or_false] at hb
    rcases hb with rfl | rfl | rfl
    · exact Nat.lt_succ_self _
    · exact Nat.lt_succ_of_lt alt
    · exact Nat.lt_succ_of_lt elt
  · have hv : its[i]? = some v := by simpa using hv
    have hi : i < ns.length := by rw [← hl]; exact (List.getElem?_eq_some_iff.mp hv).1
    obtain ⟨w, hw, rw'⟩ := rv.get (show (ns.map V.int)[i]? = some (V.int ns[i]) by rw [List.getElem?_map, List.getElem?_eq_getElem hi]; rfl)
    rw [hv] at hw
    cases hw
    obtain ⟨t, rfl⟩ := rw'
    exact ⟨t, by show Value.int ns[i] t = Value.int (ns.getD i 0) t; rw [List.getD_eq_getElem?_getD, List.getElem?_eq_getElem hi]; rfl⟩
  · rw [preSum_getD]
    refine ⟨.int ns.sum, H, I.kept (h' := h') (t' := tk) fun b ob z => hk b ob (fun y => ?_) (Heap.get?_push_of_some _ z), ⟨t', ?_⟩, q⟩
    · rw [List.mem_singleton.mp y] at z
      exact absurd (Heap.lt_size z) (Nat.lt_irrefl _)
    · rw [List.take_of_length_le (by simp [hl])]
noncomputable def rIndexT : V → List V → Hp → VK → Prop := fun x vs H Q => ∃ (l : Addr) (bs : List Bool) (j : Nat), x = .ref l ∧ vs = [.bl true] ∧ H l = some (.lst (bs.map V.bl)) ∧ bs[j]? = some true ∧ (∀ m, m < j → bs[m]? = some false) ∧ bs.length ≤ 1000 ∧ Q (.int (j : Nat)) H
theorem mt_indexT : MtM X "list.index" rIndexT := by
  intro pins s σ H x vs v us Q I rx rv h
  obtain ⟨l, bs, j, rfl, rfl, hH, hj, hm, hz, q⟩ := h
  cases rx
  obtain ⟨u, rfl, ru⟩ := rv.one
  cases ru
  obtain ⟨z, its, n, r, hl, e⟩ := I.lstM hH
  have len : its.length = bs.length := by rw [← r.length, List.length_map]
  have at_ : ∀ (m : Nat) (b : Bool), bs[m]? = some b → its[m]? = some (Value.bool b) := fun m b hb => by
    obtain ⟨w, hw, rw'⟩ := r.get (show (bs.map V.bl)[m]? = some (V.bl b) by rw [List.getElem?_map, hb]; rfl)
    cases rw'
    exact hw
  have hji : j < its.length := (List.getElem?_eq_some_iff.mp (at_ j true hj)).1
  refine call_meets F.slot_list_index ⟨_, e, rfl⟩ F.entry_list_index (F.args_list_index_2 _ _) (list_indexAt l its.toArray n none #[] (.bool true) (fun y => y == .bool true) j (by simpa using hji) (by omega) ?_ fun m hm1 hm2 => ?_) ⟨e, fun y hy => ?_, ?_⟩
  · have := at_ j true hj
    have h2 : its[j] = .bool true := (List.getElem?_eq_some_iff.mp this).2
    simp [h2]
  · have := at_ m false (hm m hm2)
    have h2 : its[m] = .bool false := (List.getElem?_eq_some_iff.mp this).2
    simp [h2]
  · have hy : y ∈ its := by simpa using hy
    obtain ⟨i, hi, rfl⟩ := List.getElem_of_mem hy
    have hib : i < bs.length := by omega
    have h1 := at_ i bs[i] (List.getElem?_eq_getElem hib)
    have h2 : its[i] = .bool bs[i] := (List.getElem?_eq_some_iff.mp h1).2
    rw [h2]
    have := eqAt_V (A := X.A.in1) (s := s) (x := .bl true) (y := .bl bs[i]) rfl rfl rfl rfl
    have e2 : eqV (.bl bs[i]) (.bl true) = (Value.bool bs[i] == Value.bool true) := by cases bs[i] <;> rfl
    rw [e2] at this
    exact this
  · exact ⟨.int (j : Nat), H, I.kept (t' := s.toks + 1) (fun _ _ z => z), ⟨_, rfl⟩, q⟩
end
structure FnH (P : Program) (w : World) (K : PySem.W.Frag) (mg : Str → Option Value) (base : Heap) (k : Nat) (f : Addr) (fd : FuncData) (ps : List Str) (sp : Sp) : Prop where
  len : ∀ vs H Q E, sp vs H Q E → vs.length = ps.length
  run : ∀ (A : Around) (outer : List Env) (s : Shared) (H : Hp) (args : Args) (us : List Value) (vs : List V) (Q : VK) (e C : Addr) (o : Obj), A.handled = some (.ref e) → H e = some (excH o) → ExcObj o C → A.depth + 3 * k + 5 < recursionLimit → A.units + 16 * k + 200 < cLine →
    Env0 P w K mg base A outer s H → BindsTo s fd args (ps.zip us) → Vals vs us → sp vs H Q E0 → codeAny (model P w) A (.call (.ref f) args) (CR CX0 outer P w H s Q E0) s
noncomputable abbrev cxH (P : Program) (w : World) (K : PySem.W.Frag) (mg : Str → Option Value) (base : Heap) (N : List Str) (qual : Str) (scope : Scope) (f : Addr) (cd : Value) (A : Around) (outer : List Env) (s : Shared) (H : Hp) : Cx :=
  (cxOf CX0 P w K mg base N qual scope f cd { A with handled := none } outer s H E0).marked (A.deeper (envOfC qual scope s.heap.objs.size f cd))
theorem fnh_of {P : Program} {w : World} {K : PySem.W.Frag} {mg : Str → Option Value} {base : Heap} {k : Nat} {f : Addr} {name qual : Str} {st : Stmt} {fd : FuncData} {N ps : List Str} {sp : Sp} (F : Fun K name qual st f fd) (S : FnScope N ps (defScope st))
    (len : ∀ vs H Q E, sp vs H Q E → vs.length = ps.length)
    (hbody : ∀ (cd : Value) (A : Around) (outer : List Env) (s : Shared) (H : Hp) (vs : List V) (Q : VK), Sob (cxH P w K mg base N qual (defScope st) f cd A outer s H) → A.units + 3 + 16 * k + 200 < cLine → sp vs H Q E0 →
      ∃ t, PSs (cxH P w K mg base N qual (defScope st) f cd A outer s H) (defBody st) t ∧ t { nx := fun _ H' => Q .non H', rt := Q } (start N vs) H) :
    FnH P w K mg base (k + 1) f fd ps sp := by
  obtain ⟨oc, od, kV, doc, pm, an, cdv, ct, osl, rfl, lk, hcd⟩ := F.ex
  refine ⟨len, fun A outer s H args us vs Q e C o hh hHe eo hdp hun e0 hb r hsp => ?_⟩
  have hl := len _ _ _ _ hsp
  have KX : K.In s.heap := e0.mod.kin.keeps fun b o e => (e0.bs b o e).1
  have lim : s.heap.NoLimit := e0.mod.nolimit.keeps fun b o e => (e0.bs b o e).1
  have hkind : ∀ y ∈ ps.zip us, (defScope st).names.lookup y.1 = some .local ∨ ((defScope st).names.lookup y.1 = some .cell ∧ ((cellsFrom (s.heap.objs.size + 1) (defScope st).names []).lookup y.1).isSome = true) := fun ⟨n, v⟩ hy => by
    rcases S.par n (List.of_mem_zip hy).1 with q | q
    · exact .inl q
    · exact .inr ⟨q, PySem.W.cellsFrom_some _ _ _ (.inl q)⟩
  refine codeAny_call_function (by omega) (KX _ _ lk) rfl S.co S.gen rfl (PySem.W.codeRec_of KX hcd) (hb _ _ _ _ ?_)
  refine wpAny_newFunctionEnv_cells S.kind hkind fun env he s1 x => ?_
  subst he
  refine ⟨lim.keeps x.toInCall.keep, codeAny_func ?_⟩
  have e0' : Env0 P w K mg base { A with handled := none } outer s H := ⟨e0.frames, e0.mod, e0.bs, e0.bsz, e0.funs, e0.frf, e0.hok, e0.bare⟩
  have I0 : Inv (cxOf CX0 P w K mg base N qual (defScope st) f cdv { A with handled := none } outer s H E0) [] (start N vs) H s1 := inv_start S rfl e0' hl r x
  have I := I0.marked (A2 := A.deeper (envOfC qual (defScope st) s.heap.objs.size f cdv)) rfl
  obtain ⟨t, ht, hq⟩ := hbody cdv A outer s H vs Q ⟨e, C, o, hh, hHe, eo⟩ (by omega) hsp
  refine wpAny_mono (ht [] s1 (start N vs) H _ I hq) (fun fl s' hs => ?_) fun e s' hs => hs.elim
  have fin : ∀ {σ' : St} {H' : Hp} {v : V} {u : Value}, Inv (cxH P w K mg base N qual (defScope st) f cdv A outer s H) [] σ' H' s' → RelV v u → Q v H' → CE outer P w H s Q u s' :=
    fun {σ' H' v u} J rv q => ⟨v, H', J.os, J.bare, J.base, J.hok, rv, q⟩
  cases fl with
  | ret u =>
    obtain ⟨v, σ', H', J, rv, q⟩ := hs
    exact fin J rv q
  | next =>
    obtain ⟨σ', H', J, q⟩ := hs
    exact fin (v := V.non) (u := Value.none) J rfl q
  | brk =>
    obtain ⟨_, _, _, q⟩ := hs
    exact False.elim q
  | cont =>
    obtain ⟨_, _, _, q⟩ := hs
    exact False.elim q
section
variable {X : Cx}
noncomputable def tCallH (ex : Addr) (o : Obj) (sp : Sp) (t : TA) : TE := fun σ H Q => t σ H fun vs H1 => H1 ex = some (excH o) ∧ sp vs H1 Q E0
theorem pe_callH {k : Nat} {f : Addr} {fd : FuncData} {ps : List Str} {sp : Sp} {x : Str} {p pos : Pos} {e : Expr} {es : List Expr} {t : TA} {ex C : Addr} {o : Obj} (F : FnH X.prog X.w X.K X.mg X.base k f fd ps sp) (hh : X.A.handled = some (.ref ex)) (eo : ExcObj o C)
    (hdp : X.A.depth + 3 * k + 5 < recursionLimit) (hun : X.A.units + 16 * k + 200 < cLine) (hg : Gl X x) (hm : X.mg x = some (.ref f)) (hk : PySem.W.keepIn X.K (.ref f) = true) (hb : Binds X.K fd ps [])
    (ha : PA X (e :: es) t) (hdb : (x == ("__debug__" : Str)) = false := by decide) (he : starEach (e :: es) X.env = (false, eval e X.env) :: starEach es X.env := by rfl) (hpl : (backTo pos (starEach es X.env)).any (·.1) = false := by rfl) :
    PE X (.Call (.Name x p) (e :: es) [] pos) (tCallH ex o sp t) := by
  intro pins s σ H Q I h
  refine wpAny_Call_Name_kw (ld_glob I hg hm ?_ hdb)
  refine PySem.W.callWith_K (h₀ := X.base) I.ok.mod.kin hk (thn (ha pos pins s σ H _ I h) fun us s1 ⟨vs, H1, I1, r, q1, q2⟩ => ⟨I1.kIn, ?_⟩) he hpl
  have hl : us.length = ps.length := by rw [← r.length]; exact F.len _ _ _ _ q2
  refine wpAny_call (codeAny_mono (F.run X.A X.stack s1 H1 ⟨us, []⟩ us vs Q ex C o hh q1 eo hdp hun I1.env0 (by have := hb s1 us I1.kIn (by simpa using hl); simpa using this) r q2) fun r s' hq => ?_)
  cases r with
  | error e => exact hq.elim
  | ok fl =>
    cases fl with
    | ret u => exact I1.after hq
    | next => exact False.elim hq
    | brk => exact False.elim hq
    | cont => exact False.elim hq
end
end L2
end
section
set_option Elab.async false
set_option linter.all false
set_option maxRecDepth 100000
set_option maxHeartbeats 4000000
namespace L2
open PySem PySem.Spec PyProof.Rows
section
variable {prog : Program} {w : World} {A : Around} {E : Value → Shared → Prop} {s : Shared} {K : PySem.W.Frag}
theorem exc_match {a C W : Addr} {o : Obj} {Q : Bool → Shared → Prop} (X : K.In s.heap) (he : s.heap.get? a = some o) (hc : o.cls = .ref C) (hW : PySem.W.kitCls K (.ref C) (.ref W) = some true) (hB : PySem.W.mroIn K W (.type "BaseException") = some true)
    (h : Q true s) : wpAny (model prog w) A (excMatches (.ref a) (.ref W)) Q E s := by
  obtain ⟨hp, g, d, t, os⟩ := s
  obtain ⟨l1, l2, l3⟩ := PySem.W.kit_cls (M := model prog w) X hW
  have l4 := PySem.W.looks_mroIn (M := model prog w) X hB
  have l5 : PySem.W.Looks (model prog w) hp (typeOf (.ref a)) (.ref C) := by rw [← hc]; exact (PySem.W.Looks.ld he).andThen .now
  have f := tc_notTuple
  unfold excMatches isInstance
  refine wpAny_bind (wpAny_bind (l1.at (wpAny_of_eq f ?_)))
  rw [if_neg (by decide)]
  refine wpAny_bind (wpAny_pure ?_)
  refine wpAny_bind ?_
  rw [List.forIn_cons]
  unfold isExcClass
  refine wpAny_bind (wpAny_bind (wpAny_bind (l2.at ?_)))
  rw [if_pos rfl]
  refine l4.at ?_
  rw [if_neg (by decide)]
  refine wpAny_pure (wpAny_pure ?_)
  refine wpAny_bind (l5.at (wpAny_bind ?_))
  rw [List.forIn_cons]
  refine wpAny_bind (wpAny_bind (l3.at ?_))
  rw [if_pos rfl]
  refine wpAny_pure (wpAny_pure ?_)
  exact wpAny_pure h
end
section
variable {X : Cx} {pins : List (Addr × Obj)} {σ : St} {H : Hp} {s : Shared}
theorem Inv.forget {h' : Heap} {m' : Str → Option Value} {tk : Nat} (I : Inv X [] σ H s) (hpn : X.pn = []) (hns : h'.Ns X.env.locals m') (sb : Heap.SameBut X.env.locals s.heap h') : Inv X [] (List.replicate X.N.length none) H { s with heap := h', toks := tk } := by
  have kp : ∀ b o, b ≠ X.env.locals → s.heap.get? b = some o → h'.get? b = some o := fun b o n e => (sb.2 b n).trans e
  have nl : ∀ b ob, X.s₀.heap.get? b = some ob → b ≠ X.env.locals := fun b ob e => Nat.ne_of_lt (Nat.lt_of_lt_of_le (Heap.lt_size e) I.ok.above)
  refine ⟨I.ok, I.os, I.bare, ⟨fun b o e n hb hx => kp b o (nl b o e) (I.base.keep b o e n hb hx), fun b o e n hb hx => ?_, I.base.free, fun b o e hx => ?_, I.base.tups, I.base.frzs, I.base.tbls⟩, ⟨m', hns, fun i x v h1 h2 _ => ?_⟩, fun x c e => ?_, I.free, I.freeC, fun p hp => absurd hp (by rw [hpn]; simp), fun b u q => ?_, by simp⟩
  · obtain ⟨sl, e1⟩ := I.base.slot b o e n hb hx
    exact ⟨sl, kp b _ (nl b o e) e1⟩
  · obtain ⟨o', e1⟩ := I.base.there b o e hx
    exact ⟨o', kp b _ (nl b o e) e1⟩
  · rw [List.getElem?_replicate] at h2
    split at h2 <;> cases h2
  · obtain ⟨v, oc, e1, d1⟩ := I.cell x c e
    refine ⟨v, oc, kp c oc (fun z => ?_) e1, d1⟩
    obtain ⟨m, ⟨ol, es, ep, e2, d2, _⟩, _⟩ := I.loc
    rw [z, e2] at e1
    cases e1
    rw [d2] at d1
    cases d1
  · refine (I.hok b u q).stay (fun c v hc r => kp c v (fun z => ?_) r) (fun _ r => r) fun _ _ r => r
    have := I.free
    rcases hc with hc | hc
    · rw [← z, hc, q] at this; cases this
    · rw [← z, hc] at this; cases this
theorem caught {e : Value} {s2 : Shared} {E' : XK} {W : Addr} {i : Nat} {n xw : Str} {p4 p5 : Pos} {b0 : Stmt} {bs : List Stmt} {D : Ends} {pre : Addr → Hp → Prop} (I : Inv X [] σ H s) (hex : X.ex = []) (hpn : X.pn = []) (hst : X.stack = X.env :: X.outer) (hfr : X.env.frame = some X.env.locals)
    (hx : CXF X.prog X.w X.stack H s E' e s2) (hN : X.N.Nodup) (hi : X.N[i]? = some n) (hn : X.env.scope.names.lookup n = some .local) (hg : Gl X xw) (hm : X.mg xw = some (.ref W)) (hB : PySem.W.mroIn X.K W (.type "BaseException") = some true)
    (hE : ∀ cv dx H2, E' cv dx H2 → ∃ C, cv = .ref C ∧ dx = none ∧ PySem.W.kitCls X.K (.ref C) (.ref W) = some true ∧ pre C H2)
    (hs : ∀ (a C : Addr) (o : Obj) (H2 : Hp), ExcObj o C → pre C H2 → H2 a = none → ∃ t, PSs (X.marked (X.A.mark (some (.ref a)))) (b0 :: bs) t ∧ t { nx := fun _ _ => False, rt := D.rt } (σ.set i (some (.ref a))) (upd H2 a (excH o)))
    (hdb : (xw == ("__debug__" : Str)) = false := by decide) :
    wpAny (model X.prog X.w) X.A (noteFrame e X.env) (fun _ s3 => wpAny (model X.prog X.w) X.A (setFlight e none) (fun _ s4 => wpAny (model X.prog X.w) X.A (handleBy e X.env [.ExceptHandler (some (.Name xw p4)) (some n) (b0 :: bs) p5]) (SP X [] D) (fun _ _ => False) s4) (fun _ _ => False) s3) (fun _ _ => False) s2 := by
  obtain ⟨a, C, dx, H2, o, vs, rfl, os, bare, un, hok, ha, haH, he, hc, hdx, hd, h2, ht, hEv⟩ := hx
  obtain ⟨C', e1, e2, hW, hpre⟩ := hE _ _ _ hEv
  cases e1
  subst e2
  have I2 : Inv X [] σ H2 s2 := I.call' os un hok bare (fun b z => absurd z (by simp))
  have gone := I.gone hex ha
  refine lft_note (base := X.base) (env := X.env) (outer := X.outer) (by rw [← hst]; exact I2.ok.frames) (by rw [← hst]; exact I2.stack) hfr he hd ht fun h' T l => ?_
  have l' : Lft (frs X.stack) a o vs T s2.heap h' := by rw [hst]; exact l
  have I3 := I2.lft l' he hd haH gone fun p hp => absurd hp (by rw [hpn]; simp)
  have h1 : 1 < vs.size := by
    rcases ht with z | ⟨_, _, _, z, _⟩ <;> exact (Array.getElem?_eq_some_iff.mp z).1
  have eo : ExcObj { o with data := .fields (vs.setIfInBounds 1 (.ref T)) } C := ⟨hc, hdx, _, rfl, by rw [Array.getElem?_setIfInBounds_ne (by decide)]; exact h2⟩
  generalize ho3 : ({ o with data := .fields (vs.setIfInBounds 1 (.ref T)) } : Obj) = o3 at eo
  have g3 : h'.get? a = some o3 := by rw [← ho3]; exact l.exc
  have d3 : o3.data = .fields (vs.setIfInBounds 1 (.ref T)) := by rw [← ho3]
  have hmk : (X.A.mark (some (.ref a))).frames = X.A.frames := rfl
  have I3m := I3.marked hmk
  have hg' : Gl (X.marked (X.A.mark (some (.ref a)))) xw := hg
  refine wpAny_handleBy_cons (codeAny_handlers_test (ld_glob I3m hg' hm (exc_match I3.kIn g3 eo.cls hW hB ?_) hdb)) (by intro q; cases q)
  refine codeAny_handlers_suite_as ?_
  obtain ⟨oT, ts, t1, t2, t3⟩ := l.trc
  unfold setFlight
  refine wpAny_bind (wpAny_field g3 d3 (x := .ref T) (by simp [h1]) ?_)
  rw [if_pos (by simp)]
  refine wpAny_setField t1 t2 (Array.getElem?_eq_some_iff.mp t3).1 ?_
  have same : ∀ b u, h'.get? b = some u → (h'.update T (Obj.mapFields (·.setIfInBounds 3 ((none : Option Addr).elim Value.none fun f => rawInt f)))).get? b = some u := fun b u hb => by
    by_cases z : b = T
    · subst z
      rw [t1] at hb
      cases hb
      rw [Heap.get?_update_self _ t1 (Obj.isFreed_of_fields (Obj.data_mapFields t2 _))]
      exact congrArg some (mapF_same t2 t3)
    · rw [Heap.get?_update_other _ _ (Ne.symm z)]; exact hb
  have nloc : a ≠ X.env.locals := fun z => by
    obtain ⟨m, ⟨ol, es, ep, e2, d2, _⟩, _⟩ := I3.loc
    rw [← z, g3] at e2
    cases e2
    rw [d3] at d2
    cases d2
  have nfs : a ∉ X.fs := fun z => by
    obtain ⟨_, ob, e2, nf⟩ := I3.funs.mem z
    rw [g3] at e2
    cases e2
    exact nf _ d3
  have ncell : ∀ x c, X.env.cells.lookup x = some c → c ≠ a := fun x c ec z => by
    obtain ⟨v, oc, e2, d2⟩ := I3.cell x c ec
    rw [z, g3] at e2
    cases e2
    rw [d3] at d2
    cases d2
  have I4 := (I3m.kept (t' := s2.toks) same)
  have I4p := I4.pins_of (pins' := [(a, o3)]) fun p hp => by
    rw [List.mem_singleton.mp hp]
    exact ⟨same _ _ g3, haH, nloc, nfs, fun v z => by rw [d3] at z; cases z⟩
  refine store_ok (X := X.marked (X.A.mark (some (.ref a)))) (v := .ref a) I4p hN hi (.inl hn) rfl (fun s5 I5 => ?_) (.inr hn)
  have g5 : s5.heap.get? a = some o3 := (I5.pin (a, o3) (List.mem_append_right _ (List.mem_singleton.mpr rfl))).1
  have I5' := I5.pins_of (pins' := []) fun p hp => absurd hp (by simp)
  have I6 := I5'.trackN (o := excH o3) haH gone (Ne.symm nloc) ncell (fun p hp => absurd hp (by rw [show (X.marked (X.A.mark (some (.ref a)))).pn = [] from hpn]; simp)) ⟨g5, trivial, ⟨o3, g5⟩, fun _ _ _ _ => trivial⟩
  obtain ⟨t, hPS, hq⟩ := hs a C o3 H2 eo hpre haH
  refine wpAny_mono (hPS [] s5 _ _ _ I6 hq) (fun f s6 q => ?_) fun _ _ x => x.elim
  cases f with
  | ret u =>
    obtain ⟨v, σ', H', I7, rv, q⟩ := q
    have I7u := I7.unmarked I.ok
    obtain ⟨m, hns, _⟩ := I7u.loc
    refine wpAny_nameGoes hn hns (by rw [I.ok.kind]; rfl) fun h8 m8 n8 sb8 => ?_
    exact ⟨v, _, H', I7u.forget hpn n8 sb8, rv, q⟩
  | next => obtain ⟨_, _, _, q⟩ := q; exact q.elim
  | brk => obtain ⟨_, _, _, q⟩ := q; exact q.elim
  | cont => obtain ⟨_, _, _, q⟩ := q; exact q.elim
end
end L2
end
section
set_option Elab.async false
set_option linter.all false
set_option maxRecDepth 100000
set_option maxHeartbeats 4000000
namespace L2
open PySem PySem.Spec PyProof.Rows
noncomputable abbrev NTold : List Str := ["_law_deed", "_law_e"]
noncomputable abbrev toldCx (P : Program) (w : World) (K : PySem.W.Frag) (mg : Str → Option Value) (base : Heap) (st : Stmt) (ft : Addr) (cd : Value) (A : Around) (outer : List Env) (s : Shared) (H : Hp) : Cx := cxOf CX0 P w K mg base NTold "_law_told" (defScope st) ft cd A outer s H E0
section
variable {P : Program} {w : World} {K : PySem.W.Frag} {mg : Str → Option Value} {base : Heap} {A : Around} {outer : List Env} {s : Shared} {H : Hp}
noncomputable def xWant (K : PySem.W.Frag) (W : Addr) (pre : Addr → Hp → Prop) : XK := fun cv dx H2 => ∃ C, cv = .ref C ∧ dx = none ∧ PySem.W.kitCls K (.ref C) (.ref W) = some true ∧ pre C H2
theorem told_run {kd : Nat} {ft f W : Addr} {fdt : FuncData} {st : Stmt} {p1 p2 p3 p4 p5 p6 : Pos} {b0 : Stmt} {pre : Addr → Hp → Prop} {Q : VK} {args : Args} {pr : VK → XK → Prop} (F : Fun K "_law_told" "_law_told" st ft fdt) (S : FnScope NTold ["_law_deed"] (defScope st))
    (hbd : defBody st = [.Try [.Return (some (.Call (.Name "_law_deed" p1) [] [] p2)) p3] [.ExceptHandler (some (.Name "WantError" p4)) (some "_law_e") [b0] p5] [] [] p6])
    (hd1 : (defScope st).names.lookup ("_law_deed" : Str) = some .local) (he1 : (defScope st).names.lookup ("_law_e" : Str) = some .local) (hgW : ∀ cd, Gl (toldCx P w K mg base st ft cd A outer s H) "WantError")
    (mW : mg "WantError" = some (.ref W)) (hB : PySem.W.mroIn K W (.type "BaseException") = some true) (hr : Room (kd + 1) A) (e0 : Env0 P w K mg base A outer s H) (hb : BindsTo s fdt args [("_law_deed", .ref f)])
    (hD : DeedAt P w K mg base kd f s.heap H pr) (hfn : PySem.W.FnAt f s.heap) (hf0 : H f = none) (hpr : pr Q (xWant K W pre))
    (hs : ∀ (cd : Value) (a C : Addr) (o : Obj) (H2 : Hp), ExcObj o C → pre C H2 → H2 a = none → ∃ t, PSs ((toldCx P w K mg base st ft cd A outer s H).marked ((A.deeper (envOfC "_law_told" (defScope st) s.heap.objs.size ft cd)).mark (some (.ref a)))) [b0] t ∧
      t { nx := fun _ _ => False, rt := Q } [some (.ref f), some (.ref a)] (upd H2 a (excH o))) :
    codeAny (model P w) A (.call (.ref ft) args) (CR CX0 outer P w H s Q E0) s := by
  obtain ⟨oc, od, kV, doc, pm, an, cdv, ct, osl, rfl, lk, hcd⟩ := F.ex
  have KX : K.In s.heap := e0.mod.kin.keeps fun b o e => (e0.bs b o e).1
  have lim : s.heap.NoLimit := e0.mod.nolimit.keeps fun b o e => (e0.bs b o e).1
  refine codeAny_call_function hr.depth (KX _ _ lk) rfl S.co S.gen rfl (PySem.W.codeRec_of KX hcd) (hb _ _ _ _ ?_)
  refine wpAny_newFunctionEnv_cells S.kind (fun y hy => ?_) fun env he s1 x => ?_
  · rw [List.mem_singleton.mp hy]; exact .inl hd1
  subst he
  refine ⟨lim.keeps x.toInCall.keep, codeAny_func ?_⟩
  have I : Inv (toldCx P w K mg base st ft cdv A outer s H) [] [some (.ref f), none] H s1 := inv_start (vs := [.ref f]) (us := [.ref f]) S hr.hd e0 rfl (.cons rfl .nil) x
  have D0 : Ends := { nx := fun _ _ => False, rt := Q }
  have main : wpAny (model P w) (A.deeper (envOfC "_law_told" (defScope st) s.heap.objs.size ft cdv)) (execs (defBody st) (envOfC "_law_told" (defScope st) s.heap.objs.size ft cdv)) (SP (toldCx P w K mg base st ft cdv A outer s H) [] { nx := fun _ _ => False, rt := Q }) (fun _ _ => False) s1 := by
    rw [hbd]
    refine wpAny_execs_cons (thn (Q := SP (toldCx P w K mg base st ft cdv A outer s H) [] { nx := fun _ _ => False, rt := Q }) (wpAny_Try_except ?_) fun f s1 q => ?_)
    rotate_left
    · cases f with
      | next => obtain ⟨_, _, _, q⟩ := q; exact q.elim
      | ret v => exact q
      | brk => exact q
      | cont => exact q
    refine wpAny_execs_cons (wpAny_Return_some (wpAny_Call_Name_kw ?_))
    have hv := (pv (X := (toldCx P w K mg base st ft cdv A outer s H).nox) 0 (pos := p1) (x := "_law_deed") rfl (Or.inl hd1)) [] s1 [some (.ref f), none] H (fun v H' => v = .ref f ∧ H' = H) (I.wish _) ⟨_, rfl, rfl, rfl⟩
    refine wpAny_mono hv (fun u s2 hq => ?_) fun _ _ z => z.elim
    obtain ⟨v, H', I2, rv, e1, e2⟩ := hq
    subst e1
    subst e2
    cases rv
    have I2 := I2.unwish
    have kp : ∀ b o, s.heap.get? b = some o → H' b = none → ∃ sl, s2.heap.get? b = some { o with slots := sl } := fun b o q n => I2.base.any q n (fun z => absurd (show b ∈ ([] : List Addr) from z) (by simp))
    have fa : PySem.W.FnAt f s2.heap := by
      obtain ⟨oc, od, fd, sl, e⟩ := hfn
      obtain ⟨sl2, e2⟩ := kp f _ e hf0
      exact ⟨_, _, _, _, e2⟩
    refine PySem.W.callWith_F0 fa (wpAny_call (codeAny_mono (hD _ _ s2 Q (xWant K W pre) (hr.deeper _) I2.env0 kp hpr) fun r s3 hq => ?_))
    cases r with
    | error e => exact caught (b0 := b0) (bs := []) (D := { nx := fun _ _ => False, rt := Q }) (i := 1) I2 rfl rfl rfl rfl hq S.nd rfl he1 (hgW cdv) mW hB (fun _ _ _ z => z) fun a C o H2 eo hp hn => hs cdv a C o H2 eo hp hn
    | ok fl =>
      cases fl with
      | ret u =>
        obtain ⟨v, H3, I3, rv, q⟩ := I2.after hq
        exact ⟨v, _, H3, I3, rv, q⟩
      | next => exact False.elim hq
      | brk => exact False.elim hq
      | cont => exact False.elim hq
  refine wpAny_mono main (fun fl s' hs => ?_) fun _ _ x => x.elim
  cases fl with
  | ret u =>
    obtain ⟨v, σ', H', J, rv, q⟩ := hs
    exact ⟨v, H', J.os, J.bare, J.base, J.hok, rv, q⟩
  | next => obtain ⟨_, _, _, q⟩ := hs; exact q.elim
  | brk => obtain ⟨_, _, _, q⟩ := hs; exact q.elim
  | cont => obtain ⟨_, _, _, q⟩ := hs; exact q.elim
end
end L2
end
section
set_option Elab.async false
set_option linter.all false
set_option maxRecDepth 100000
set_option maxHeartbeats 4000000
namespace L2
open PySem PySem.Spec PyProof.Rows
noncomputable def told (wd : Addr → Str → Prop) (Q : VK) : Addr → Hp → Prop := fun C H2 => ∃ wrd, wd C wrd ∧ ∀ (t : Addr) (H' : Hp), (∀ b o, H2 b = some o → H' b = some o) → H' t = some (.tup [.str "refused", .str wrd]) → Q (.ref t) H'
structure ToldOk (P : Program) (w : World) (K : PySem.W.Frag) (mg : Str → Option Value) (base : Heap) (kw : Nat) (ft W : Addr) (fdt : FuncData) (wd : Addr → Str → Prop) : Prop where
  run : ∀ (kd : Nat) (A : Around) (outer : List Env) (s : Shared) (H : Hp) (f : Addr) (Q : VK) (pr : VK → XK → Prop), kw ≤ kd → Room (kd + 1) A → Env0 P w K mg base A outer s H → DeedAt P w K mg base kd f s.heap H pr → PySem.W.FnAt f s.heap → H f = none → pr Q (xWant K W (told wd Q)) →
    codeAny (model P w) A (.call (.ref ft) ⟨[.ref f], []⟩) (CR CX0 outer P w H s Q E0) s
section
variable {X : Cx}
noncomputable def tTold (P : Addr) (qual : Str) (wd : Addr → Str → Prop) (K : PySem.W.Frag) (W : Addr) (tb : XK → TE) : TE := fun σ H Q => Tbl H P qual ∧ ∀ H1, Grown P H H1 → Tbl H1 P qual → tb (xWant K W (told wd Q)) σ H1 Q
theorem flies_lam {qual : Str} {sc : Scope} {f c' : Addr} {A : Around} {outer : List Env} {s : Shared} {H : Hp} {E : XK} : Flies (lamCx X qual sc f c' A outer s H E) E := flies_of rfl rfl rfl rfl fun _ _ h => h
theorem pe_told {k kw : Nat} {ft W c P : Addr} {fdt : FuncData} {wd : Addr → Str → Prop} {params : Arguments} {body : Expr} {sc : Scope} {pl pt pos : Pos} {tb : XK → TE} (T : ToldOk X.prog X.w X.K X.mg X.base kw ft W fdt wd) (hg : Gl X "_law_told") (hm : X.mg "_law_told" = some (.ref ft)) (hk : PySem.W.keepIn X.K (.ref ft) = true)
    (hcode : X.env.code = .ref c) (hC : PySem.W.codeHdIn X.K c P = true) (hB : BmAt X.mg X.base) (hr : Room (k + 2) X.A) (hkw : kw ≤ k + 1) (ok : lamOk sc X.env.scope = true)
    (hb : ∀ (f c' : Addr) (A : Around) (outer : List Env) (s' : Shared) (H' : Hp) (E : XK), Room k (A.deeper (lamEnv X (X.env.qual ++ "<lambda>") sc f c' s')) → PE (lamCx X (X.env.qual ++ "<lambda>") sc f c' A outer s' H' E) body (tb E))
    (hbind : ∀ (cl : List (Str × Addr)) (pm ctv : Value) (c' : Addr), bindArgs (PySem.W.kla_fn "<lambda>" (X.env.qual ++ "<lambda>") params body sc cl pm (.ref c') ctv) ⟨[], []⟩ = pure [] := by intros; rfl) (hdef : defaultsOf params X.env = ([], []) := by rfl)
    (hs : starEach [.Lambda params body sc pl] X.env = [(false, eval (.Lambda params body sc pl) X.env)] := by rfl) :
    PE X (.Call (.Name "_law_told" pt) [.Lambda params body sc pl] [] pos) (tTold P (X.env.qual ++ "<lambda>") wd X.K W tb) := by
  intro pins s σ H Q I h
  obtain ⟨hT, h⟩ := h
  have ok := LamOk.of ok
  refine wpAny_Call_Name_kw (ld_glob I hg hm ?_ (by decide))
  refine PySem.W.callWith_K (h₀ := X.base) I.ok.mod.kin hk ?_ hs rfl
  rw [hs]
  refine Calls.spliced_cons (lam_make I hcode hC hT hB hdef (fun p hp e => I.ok.has p.1 (ok.free p hp e)) fun f c' ctv pm H1 s1 I1 hf hf0 hc' gr tb1 => Calls.spliced_nil ⟨I1.kIn, ?_⟩)
  have hD := lam_deed (k := k) I1 ok hf hf0 hc' (hbind _ _ _ _) fun A outer s' E hr' => hb f c' A outer s' H1 E hr'
  refine wpAny_call (codeAny_mono (T.run (k + 1) X.A X.stack s1 H1 f Q _ hkw hr I1.env0 hD ⟨_, _, _, _, hf⟩ hf0 (h H1 gr tb1)) fun r s' hq => ?_)
  cases r with
  | error e => exact hq.elim
  | ok fl =>
    cases fl with
    | ret u => exact I1.after hq
    | next => exact False.elim hq
    | brk => exact False.elim hq
    | cont => exact False.elim hq
end
end L2
end
section
set_option Elab.async false
set_option linter.all false
set_option maxRecDepth 100000
set_option maxHeartbeats 4000000
namespace L2
open PySem PySem.Spec PyProof.Rows
noncomputable def OnlyT (Ps : List Addr) (H : Hp) : Prop := ∀ b, H b = none ∨ (∃ o xs, H b = some (.frz o (.lst xs))) ∨ (b ∈ Ps ∧ H b = some (.tbl #[]))
theorem law_callT {P : Program} {w : World} {K : PySem.W.Frag} {mg mb : Str → Option Value} {CX : CXT} {k : Nat} {fa a : Addr} {fd : FuncData} {x : Str} {sp : Sp} {s₁ : Shared} {vs : List Value} {ns : List Int} (Ps : List Addr)
    (KX : K.In s₁.heap) (hns : s₁.heap.Ns mainGlobals mg) (hb : s₁.heap.Ns builtinsNs mb) (hbb : ∀ x : Str, x ≠ "__name__" → mb x = bootBuiltins x) (hlim : s₁.heap.NoLimit) (hg : s₁.gens = #[]) (hBm : BmAt mg s₁.heap) (hPs' : ∀ P ∈ Ps, ∃ c, PySem.W.CodeHd s₁.heap c P ∧ s₁.heap.get? P = some (PySem.W.tabObj #[])) (hKP : ∀ P ∈ Ps, K.lookup P = none)
    (ha : s₁.heap.get? a = some { cls := .type "list", data := .seq vs.toArray }) (hi : IntsAre vs ns) (hl : ns.length ≤ sizeLine) (hr : Room k callerA)
    (F : ∀ base : Heap, K.In base → base.Ns mainGlobals mg → BmAt mg base → FnOk P w K mg base CX k fa fd [x] sp) (hbind : ∀ (s : Shared) (u : Value), BindsTo s fd ⟨[u], []⟩ [(x, u)])
    (hsp : ∀ H : Hp, (∀ P ∈ Ps, H P = some (.tbl #[])) → SqL K H a (ns.map V.int) → sp [.ref a] H (fun v _ => v = .bl true) fun _ _ _ => False)
    (hCX : ∀ H e s', CX [] H s₁ (fun _ _ _ => False) e s' → False) :
    codeAny (model P w) callerA (.call (.ref fa) ⟨[.ref a], []⟩) (fun r s' => r = .ok (.ret (.bool true)) ∧ OldK s₁.heap s'.heap ∧ s'.os = s₁.os ∧ AllBare s'.gens) s₁ := by
  have hPs : ∀ P ∈ Ps, s₁.heap.get? P = some (PySem.W.tabObj #[]) := fun P hP => let ⟨_, _, e⟩ := hPs' P hP; e
  have rv := vals_ints hi
  have lenV := hi.length
  have core : ∀ H : Hp, OnlyT Ps H → (∀ P ∈ Ps, H P = some (.tbl #[])) → SqL K H a (ns.map V.int) → HOk P w H s₁.heap → (∀ b, H b ≠ none → b = a ∨ b ∈ Ps) → (H a ≠ none → K.lookup a = none) →
      codeAny (model P w) callerA (.call (.ref fa) ⟨[.ref a], []⟩) (fun r s' => r = .ok (.ret (.bool true)) ∧ OldK s₁.heap s'.heap ∧ s'.os = s₁.os ∧ AllBare s'.gens) s₁ := by
    intro H hO hP hS hok hA hK
    have base_of : ∀ {b : Addr} {o : Obj}, s₁.heap.get? b = some o → H b = none → (hidT s₁.heap H).get? b = some o := fun e n => hidT_get e n
    have noA : ∀ {b : Addr} {o : Obj}, s₁.heap.get? b = some o → (∀ us n, o.data ≠ .seq us n) → (∀ us, o.data ≠ .fields us) → H b = none := fun {b o} e d1 d2 => by
      cases q : H b with
      | none => rfl
      | some u =>
        rcases hA b (by rw [q]; simp) with z | z
        · rw [z, ha] at e; cases e; exact absurd rfl (d1 _ _)
        · rw [hPs b z] at e; cases e; exact absurd rfl (d2 _)
    have nsK : ∀ {b : Addr} {m : Str → Option Value}, s₁.heap.Ns b m → (hidT s₁.heap H).Ns b m := fun {b m} ⟨o, es, ep, e, d, r⟩ => ⟨o, es, ep, base_of e (noA e (fun _ _ z => by rw [d] at z; cases z) fun _ z => by rw [d] at z; cases z), d, r⟩
    have hKb : K.In (hidT s₁.heap H) := fun b o e => base_of (KX b o e) (by
      cases q : H b with
      | none => rfl
      | some u =>
        rcases hA b (by rw [q]; simp) with z | z
        · subst z
          rw [hK (by rw [q]; simp)] at e; cases e
        · rw [hKP b z] at e; cases e)
    have hBb : BmAt mg (hidT s₁.heap H) := by
      obtain ⟨bm, ob, b1, b2, b3, b4, b5, b6, b7⟩ := hBm
      exact ⟨bm, ob, b1, b2, b3, base_of b4 (noA b4 (fun _ _ z => by rw [b7] at z; cases z) fun _ z => by rw [b7] at z; cases z), b5, b6, b7⟩
    have hM : Mod K mg (hidT s₁.heap H) := ⟨hKb, nsK hns, ⟨mb, nsK hb, hbb⟩, let ⟨mc, h1, h2⟩ := hlim; ⟨mc, nsK h1, h2⟩⟩
    have e0 : Env0 P w K mg (hidT s₁.heap H) callerA [] s₁ H := ⟨rfl, hM, fun b o e => of_hidT e, Nat.le_of_eq (hidT_size _ _), trivial, fun b hb => absurd (show b ∈ ([] : List Addr) from hb) (by simp), hok, .of_eq hg⟩
    refine codeAny_mono ((F _ hKb (nsK hns) hBb).run callerA [] s₁ H ⟨[.ref a], []⟩ [.ref a] [.ref a] _ _ hr e0 (hbind s₁ (.ref a)) (.cons rfl .nil) (hsp H hP hS)) fun r s' h => ?_
    cases r with
    | error e => exact (hCX H e s' h).elim
    | ok fl =>
      cases fl with
      | next => exact False.elim h
      | brk => exact False.elim h
      | cont => exact False.elim h
      | ret u =>
        obtain ⟨v, H', os, bare, un, hok', r', q⟩ := h
        have q' : v = .bl true := q
        subst q'
        obtain rfl : u = Value.bool true := r'
        refine ⟨rfl, ⟨fun b o e => ?_, fun b o e => un.there b o e (by simp)⟩, os, bare⟩
        cases q : H b with
        | none => exact .inl (un.keep b o e q (fun z => absurd (show b ∈ ([] : List Addr) from z) (by simp)) (by simp))
        | some u =>
          rcases hO b with z | ⟨ob, xs, z⟩ | ⟨hb, z⟩
          · rw [q] at z; cases z
          · have z2 := un.frzs b ob _ z
            obtain ⟨e1, _⟩ := hok b _ z
            obtain ⟨e2, _⟩ := hok' b _ z2
            rw [e] at e1; cases e1
            exact .inl e2
          · obtain ⟨more, z2⟩ := un.tbls b _ z
            have e2 : s'.heap.get? b = some { cls := .none, data := .fields (#[] ++ more) } := hok' b _ z2
            obtain ⟨c, cd, eP⟩ := hPs' b hb
            rw [eP] at e
            cases e
            exact .inr (.inl ⟨(cd.tab eP).isCodeTable, rfl, #[], more, rfl, e2⟩)
  have aP : a ∉ Ps := fun z => by have := hPs a z; rw [ha] at this; cases this
  cases hk : K.lookup a with
  | some o =>
    have e := KX a o hk
    rw [ha] at e
    cases e
    refine core (fun b => if b ∈ Ps then some (.tbl #[]) else none) (fun b => ?_) (fun b hb => if_pos hb) (.inr ⟨_, vs.toArray, _, hk, rfl, rfl, rfl, by rw [List.size_toArray, lenV]; exact hl, by simpa using rv⟩) (fun b u z => ?_) (fun b z => ?_) fun z => absurd (if_neg aP) z
    · by_cases hb : b ∈ Ps
      · exact .inr (.inr ⟨hb, if_pos hb⟩)
      · exact .inl (if_neg hb)
    · by_cases hb : b ∈ Ps
      · have z' := (if_pos hb).symm.trans z
        cases z'
        exact hPs b hb
      · have z' := (if_neg hb).symm.trans z
        cases z'
    · by_cases hb : b ∈ Ps
      · exact .inr hb
      · exact absurd (if_neg hb) z
  | none =>
    refine core (fun b => if b ∈ Ps then some (.tbl #[]) else if b = a then some (.frz { cls := .type "list", data := .seq vs.toArray } (.lst (ns.map V.int))) else none) (fun b => ?_) (fun b hb => if_pos hb)
      (.inl (.inr ⟨{ cls := .type "list", data := .seq vs.toArray }, (if_neg aP).trans (if_pos rfl)⟩)) (fun b u z => ?_) (fun b z => ?_) fun _ => hk
    · by_cases hb : b ∈ Ps
      · exact .inr (.inr ⟨hb, if_pos hb⟩)
      · by_cases hb2 : b = a
        · exact .inr (.inl ⟨_, _, (if_neg hb).trans (if_pos hb2)⟩)
        · exact .inl ((if_neg hb).trans (if_neg hb2))
    · by_cases hb : b ∈ Ps
      · have z' := (if_pos hb).symm.trans z
        cases z'
        exact hPs b hb
      · by_cases hb2 : b = a
        · have z' := ((if_neg hb).trans (if_pos hb2)).symm.trans z
          cases z'
          subst hb2
          exact ⟨ha, by rw [List.length_map]; exact hl, vs, _, rv, ha⟩
        · have z' := ((if_neg hb).trans (if_neg hb2)).symm.trans z
          cases z'
    · by_cases hb : b ∈ Ps
      · exact .inr hb
      · by_cases hb2 : b = a
        · exact .inl hb2
        · exact absurd ((if_neg hb).trans (if_neg hb2)) z
theorem walk_ofT {l : PySem.W.OpenLaw} {n k : Nat} {q : Program} {loose : List Str} {XP : (Str → Option Value) → Heap → Prop} {YP : World → Heap → Prop} {d : DefRec} {K : Params → PySem.W.Frag} {CX : World → CXT} {sp : World → Sp} {x : Str} (Ps : List Addr)
    (hn : l.most = some n) (hn2 : n ≤ sizeLine) (hdf : d.params.defaults = []) (hr : Room k callerA) (hY : ∀ (w : World) (h : Heap), YP w h → (K w.params).In h)
    (hPs : ∀ (w : World) (h : Heap), YP w h → (K w.params).In h → ∀ P ∈ Ps, ∃ c, PySem.W.CodeHd h c P ∧ h.get? P = some (PySem.W.tabObj #[])) (hKP : ∀ (w : World), ∀ P ∈ Ps, (K w.params).lookup P = none)
    (F : ∀ (w : World) (mg : Str → Option Value) (fa : Addr) (h : Heap), (K w.params).In h → h.Ns mainGlobals mg → mg d.name = some (.ref fa) →
      ∃ fd : FuncData, (∀ (s : Shared) (u : Value), BindsTo s fd ⟨[u], []⟩ [(x, u)]) ∧
        ∀ base : Heap, (K w.params).In base → base.Ns mainGlobals mg → BmAt mg base → FnOk l.prog w (K w.params) mg base (CX w) k fa fd [x] (sp w))
    (hsp : ∀ (w : World) (H : Hp) (a : Addr) (ns : List Int), ns.length ≤ n → (∀ P ∈ Ps, H P = some (.tbl #[])) → SqL (K w.params) H a (ns.map V.int) → sp w [.ref a] H (fun v _ => v = .bl true) fun _ _ _ => False)
    (hCX : ∀ (w : World) (H : Hp) (s : Shared) (e : Value) (s' : Shared), CX w [] H s (fun _ _ _ => False) e s' → False) :
    PySem.W.WalkO q loose XP YP l.row.toRowW d [] (fun f vs => PySem.call f vs) := by
  refine Att.attach_call hn hdf fun w s₀ s₁ mg mb fa o pm cd doc a vs ns G Y ho hd hcd hmg hobj hints hlen hg => ?_
  have KX := hY w _ Y
  obtain ⟨fd, hb, hF⟩ := F w mg fa _ KX G.T.g hmg
  have hBm : BmAt mg s₁.heap := by
    obtain ⟨bm, ob, b1, b2, b3, b4, b5, b6⟩ := G.T.bmain
    refine ⟨bm, ob, b1, b2, fun z => ?_, b3, b4, b5, b6⟩
    obtain ⟨o, es, ep, e, d, _⟩ := G.T.g
    rw [z, e] at b3
    cases b3
    rw [d] at b6
    cases b6
  exact law_callT Ps KX G.T.g G.T.b G.T.builtins G.T.nolimit hg hBm (hPs w _ Y KX) (hKP w) hobj hints (Nat.le_trans hlen hn2) hr hF hb (fun H hP hS => hsp w H a ns hlen hP hS) fun H e s' => hCX w H s₁ e s'
section
variable {P : Program} {w : World} {K : PySem.W.Frag} {mg : Str → Option Value} {base : Heap}
theorem Fun.okX {x qual : Str} {st : Stmt} {f : Addr} {fd : FuncData} {N ps : List Str} {k : Nat} {sp : Sp} (F : Fun K x qual st f fd) (S : FnScope N ps (defScope st)) (len : ∀ vs H Q E, sp vs H Q E → vs.length = ps.length)
    (hbody : ∀ (cdv : Value) (A : Around) (outer : List Env) (s : Shared) (H : Hp) (vs : List V) (Q : VK) (E : XK), Room k (A.deeper (envOfC qual (defScope st) s.heap.objs.size f cdv)) → sp vs H Q E →
      ∃ t, PSs (cxOf (CXF P w) P w K mg base N qual (defScope st) f cdv A outer s H E) (defBody st) t ∧ t { nx := fun _ H' => Q .non H', rt := Q } (start N vs) H) : FnOk P w K mg base (CXF P w) (k + 1) f fd ps sp := by
  obtain ⟨oc, od, kV, doc, pm, an, cdv, ct, osl, rfl, lk, hcd⟩ := F.ex
  exact fn_of lk hcd S len fun A outer s H vs Q E hr hsp => hbody cdv A outer s H vs Q E hr hsp
end
structure CalX (P : Program) (w : World) (K : PySem.W.Frag) (mg : Str → Option Value) (base : Heap) (k : Nat) (x : Str) (f : Addr) (fd : FuncData) (ps : List Str) (sp : Sp) : Prop where
  ok : FnOk P w K mg base (CXF P w) k f fd ps sp
  mg : mg x = some (.ref f)
  kp : PySem.W.keepIn K (.ref f) = true
  bd : Binds K fd ps []
theorem pe_fnX {X : Cx} {k : Nat} {x : Str} {f : Addr} {fd : FuncData} {ps : List Str} {sp : Sp} {e : Expr} {es : List Expr} {t : TA} {p pos : Pos} {E : XK} (C : CalX X.prog X.w X.K X.mg X.base k x f fd ps sp) (hr : Room k X.A) (hg : Gl X x) (hF : Flies X E) (ha : PA X (e :: es) t)
    (hx : X.ex = [] := by rfl) (hdb : (x == ("__debug__" : Str)) = false := by decide) (he : starEach (e :: es) X.env = (false, eval e X.env) :: starEach es X.env := by rfl) (hpl : (backTo pos (starEach es X.env)).any (·.1) = false := by rfl) :
    PE X (.Call (.Name x p) (e :: es) [] pos) (tCall sp [] E t) := pe_call C.ok hr hg C.mg C.kp C.bd .nil (passF hF hx) ha hdb he hpl
theorem passX {X : Cx} : Passes (CXF X.prog X.w) X E0 := fun _ _ _ _ _ _ _ ⟨_, _, _, _, _, _, _, _, _, _, _, _, _, _, _, _, _, _, _, h⟩ => h.elim
theorem pe_no {X : Cx} {e : Expr} : PE X e (fun _ _ _ => False) := fun _ _ _ _ _ _ h => h.elim
end L2
end
section
set_option Elab.async false
set_option linter.all false
set_option maxRecDepth 100000
set_option maxHeartbeats 4000000
namespace L2
open PySem PySem.Spec PyProof.Rows
section
variable {X : Cx}
end
end L2
end
section
set_option Elab.async false
set_option linter.all false
set_option maxRecDepth 100000
set_option maxHeartbeats 4000000
namespace L2
open PySem PySem.Spec PyProof.Rows
section
variable {prog : Program} {w : World} {A : Around} {E : Value → Shared → Prop} {s : Shared}
end
section
variable {X : Cx}
end
end L2
end
section
set_option Elab.async false
set_option linter.all false
set_option maxRecDepth 100000
set_option maxHeartbeats 4000000
namespace L2
open PySem PySem.Spec PyProof.Rows PySem.AutoSeq1
theorem noFill_tuple_mul : fillsNumberSlot (.type "tuple") "mul" = pure false :=
  PySem.fillsNumberSlot_seq (id := "tuple.__mul__") (r := some (.builtin "tuple.__rmul__")) PySem.F.slot_tuple_mul.lookup (by decide +kernel) PySem.F.slot_tuple_rmul.lookup (by decide +kernel)
theorem repeat_tuple : seqRepeat? (.type "tuple") = pure (some (.builtin "tuple.__mul__")) := by
  unfold seqRepeat?
  rw [PySem.seqSlot_of (T := "tuple") (name := "__mul__") (id := "tuple.__mul__") PySem.F.slot_tuple_mul.lookup (by decide +kernel), PySem.seqSlot_of (T := "tuple") (name := "__rmul__") (id := "tuple.__rmul__") PySem.F.slot_tuple_rmul.lookup (by decide +kernel)]
  rfl
theorem int_rmul_tup (a : Int) (t : Tok) (l : Addr) (items : Array Value) (n : Nat) (dd : Option Addr) (sl : Array (Option Value)) :
    Meets (Builtin.«int.__rmul__» ⟨[.int a t, .ref l], []⟩) (fun _ R s => s.heap.get? l = some { cls := .type "tuple", dict := dd, data := .seq items n, slots := sl } ∧ R (.ok (.ret Value.notImplemented)) s) :=
  .of_wp fun prog w A R s h => by obtain ⟨hp, g, d, tk, os⟩ := s; obtain ⟨hl, h⟩ := h; wp_walk; exact ⟨_, rfl, h⟩
theorem tuple_mulW (l : Addr) (items : Array Value) (n : Nat) (dd : Option Addr) (sl : Array (Option Value)) (x : Int) (u : Tok) (hc0 : ¬ (decide (x < -(2 ^ 63)) || decide (x ≥ 2 ^ 63)) = true) (hc1 : ¬ (items.isEmpty || x == 1) = true) (hc2 : ¬ (decide (x ≤ 0) || items.isEmpty) = true)
    (hc3 : ¬ (items.size : Int) * x > (2 ^ 63 - 1) / 8) (hc4 : ¬ Builtin.Tuple.tupleTooMany ((items.size : Int) * x) = true) (hz : (List.foldl (fun x1 x2 => x1 ++ x2) #[] (List.replicate x.toNat items)).size ≤ sizeLine) :
    Meets (Builtin.«tuple.__mul__» ⟨[.ref l, .int x u], []⟩) (fun _ R s => s.heap.get? l = some { cls := .type "tuple", dict := dd, data := .seq items n, slots := sl } ∧ R (.ok (.ret (Value.ref s.heap.objs.size))) { s with heap := s.heap.push { cls := Value.type "tuple", data := Data.seq (List.foldl (fun x1 x2 => x1 ++ x2) #[] (List.replicate x.toNat items)) }, toks := s.toks }) :=
  .of_wp fun prog w A R s h => by
    obtain ⟨hp, g, d, tk, os⟩ := s; obtain ⟨hl, h⟩ := h
    have f1 := PySem.AutoSeq1.idx_int; have f2 := PySem.AutoSeq1.sub_tuple_tuple
    wp_walk using wpAny_loadPart' hl
    refine wpAny_ite_false (decide_eq_false hc0) ?_
    wp_walk using wpAny_loadPart' hl
    refine wpAny_ite_false (decide_eq_false hc3) ?_
    wp_walk
    exact ⟨_, rfl, h⟩
noncomputable def rRepT (K : PySem.W.Frag) : R2 := fun x y H Q => ∃ l k xs, x = .ref l ∧ y = .int k ∧ SqT K H l xs ∧ xs ≠ [] ∧ 2 ≤ k ∧ k ≤ 1000 ∧ xs.length ≤ 1000 ∧ ∀ p, H p = none → Q (.ref p) (upd H p (.tup (List.replicate k.toNat xs).flatten))
section
variable {X : Cx}
theorem op_repT : OpR X (binaryOp .Mult) (rRepT X.K) := by
  intro pins s σ H x y v u Q I rx ry h
  obtain ⟨l, k, xs, rfl, rfl, ha, hne, k2, k9, hl9, q⟩ := h
  cases rx
  obtain ⟨t, rfl⟩ := ry
  obtain ⟨its, r, p, _⟩ := I.tuple ha
  obtain ⟨⟨c1, d1, dt1, sl1⟩, ho, hc, n, hd⟩ := id p
  simp only at hc hd
  subst hc hd
  have hni : ¬ its = [] := fun z => hne (r.nil_iff.mp z)
  have hil : its.length ≤ 1000 := by rw [← r.length]; exact hl9
  have hie : its.toArray.isEmpty = false := by
    cases its with
    | nil => exact absurd rfl hni
    | cons a b => rfl
  have hnew : List.foldl (fun x1 x2 => x1 ++ x2) #[] (List.replicate k.toNat its.toArray) = (List.replicate k.toNat its).flatten.toArray := by
    have := foldl_rep its k.toNat []
    rw [List.nil_append] at this
    exact this
  have hk : k.toNat ≤ 1000 := by omega
  have hm : k.toNat * its.length ≤ 1000000 := Nat.mul_le_mul hk hil
  have hmi : (its.toArray.size : Int) * k ≤ 1000000 := by
    rw [List.size_toArray]
    have : ((k.toNat * its.length : Nat) : Int) = (its.length : Int) * k := by rw [Nat.mul_comm, Int.natCast_mul, Int.toNat_of_nonneg (by omega)]
    omega
  have hsl : sizeLine = 16777216 := sizeLine_eq
  refine wpAny_binaryOp_repeat_ref (T := "tuple") (U := "int") (by decide) ⟨_, ho, rfl⟩ (fun s' => typeIs_int s' k t) noFill_tuple_mul PySem.F.fills_int_mul PySem.F.slot_int_rmul repeat_tuple PySem.F.slot_int_index.lookup
    (call_meets PySem.F.slot_int_rmul (typeIs_int s k t) PySem.F.entry_int_rmul (PySem.F.args_int_rmul_2 _ _) (int_rmul_tup k t l its.toArray n d1 sl1)
      ⟨ho, rfl, ⟨_, ho, rfl⟩, call_meets PySem.F.slot_tuple_mul ⟨_, ho, rfl⟩ PySem.F.entry_tuple_mul (PySem.F.args_tuple_mul_2 _ _) (tuple_mulW l its.toArray n d1 sl1 k t ?_ ?_ ?_ (by omega) ?_ ?_) ⟨ho, ?_⟩⟩)
  · have a1 : ¬ k < -(2 ^ 63) := by omega
    have a2 : ¬ k ≥ 2 ^ 63 := by omega
    rw [decide_eq_false a1, decide_eq_false a2]
    decide
  · rw [hie]
    have : ¬ k = 1 := by omega
    simp [this]
  · rw [hie]
    have : ¬ k ≤ 0 := by omega
    simp [this]
  · unfold Builtin.Tuple.tupleTooMany
    have : ¬ (its.toArray.size : Int) * k > (sizeLine : Int) := by omega
    simp only [decide_eq_true_eq]
    exact this
  · rw [hnew, List.size_toArray, len_rep]
    omega
  · rw [hnew]
    exact ⟨.ref _, _, I.laid (t' := s.toks) (o := .tup (List.replicate k.toNat xs).flatten) (fun b ob e => Heap.get?_push_of_some _ e) (Nat.le_refl _) ⟨by rw [len_rep, r.length]; omega, _, r.rep k.toNat, IsTup.new _ _⟩, rfl, q _ I.fresh⟩
end
end L2
end
section
set_option Elab.async false
set_option linter.all false
set_option maxRecDepth 100000
set_option maxHeartbeats 4000000
namespace HT
open PySem PySem.Spec PyProof.Rows
section
variable {prog : Program} {w : World} {A : Around} {E : Value → Shared → Prop} {s : Shared}
theorem getItem_tuple_whole {t sl : Addr} {items : Array Value} {vl vu : Value} {lo hi : Option Int} {Q : Value → Shared → Prop} (ht : IsTup s.heap t items) (hs : s.heap.IsSliceOf sl vl vu .none) (pl : IsPart vl lo) (pu : IsPart vu hi)
    (hw : sIx items.size 0 lo = 0 ∧ sIx items.size items.size hi = items.size)
    (h : Q (.ref t) s) : wpAny (model prog w) A (getItem (.ref t) (.ref sl)) Q E s := by
  obtain ⟨os, hos, hcs, hds⟩ := id hs
  have hTs : s.TypeIs (.ref sl) "slice" := ⟨os, hos, hcs⟩
  unfold getItem
  try with_reducible refine wpAny_holding ?_
  first | refine wpAny_bind (wpAny_pure ?_) | skip
  refine wpAny_bind (wpAny_sequenceKey ht.typeIs (by decide) ?_)
  refine wpAny_bind (wpAny_callSpecial?_slot (name := Str.ofString "__getitem__") ht.typeIs PyProof.Rows.slot_tuple_getitem
    (wpAny_call_entry PyProof.Rows.slot_tuple_getitem ht.typeIs entry_tuple_getitem ?_ (args_tuple_getitem _ _)))
  show wpAny _ _ (Builtin.Tuple.tupleItemsOf (.ref t) >>= _) _ _ s
  refine wpAny_bind (tupleItemsOf_ ht ?_)
  refine wpAny_bind (wpAny_typeOf hTs ?_)
  rw [if_pos (by decide)]
  refine wpAny_bind (sliceApplied_gen hs pl pu ?_)
  have hyes : (((sIx items.size 0 lo : Nat) : Int) == 0 && (1 : Int) == 1 && (sIx items.size items.size hi - sIx items.size 0 lo) == items.size) = true := by
    rw [hw.1, hw.2]
    simp
  show wpAny _ _ (if (((sIx items.size 0 lo : Nat) : Int) == 0 && (1 : Int) == 1 && (sIx items.size items.size hi - sIx items.size 0 lo) == items.size) = true then _ else _) _ _ s
  rw [if_pos hyes]
  unfold Builtin.Tuple.tupleIsExact
  refine wpAny_bind (wpAny_bind (wpAny_typeOf ht.typeIs (wpAny_pure ?_)))
  rw [if_pos (by decide)]
  refine wpAny_bind (wpAny_rule ?_)
  exact wpAny_pure ⟨_, rfl, wpAny_pure h⟩
end
end HT
namespace L2
open PySem PySem.Spec PyProof.Rows
section
variable {X : Cx}
theorem op_isnot_bl : OpR X (compareOp .IsNot) (fun x y H Q => ∃ a b, x = .bl a ∧ y = .bl b ∧ Q (.bl (!(a == b))) H) := by
  intro pins s σ H x y v u Q I rx ry h
  obtain ⟨a, b, rfl, rfl, q⟩ := h
  cases rx
  cases ry
  refine wpAny_isNot_plain rfl ⟨.bl (!(a == b)), H, I, ?_, q⟩
  cases a <;> cases b <;> rfl
theorem sl_str : SlR X (fun x lo hi H Q => ∃ z, x = .str z ∧ z.length ≤ sizeLine ∧ Q (.str (Txt.slice z lo hi)) H) := by
  intro pins s σ H x v vl vu lo hi sl Q I rx hs pl pu h
  obtain ⟨z, rfl, hz, q⟩ := h
  obtain ⟨t, rfl⟩ := rx
  have e1 : ∃ l : Option (Int × Tok), partValue l = vl ∧ l.map (·.1) = lo := by
    cases pl with
    | none => exact ⟨none, rfl, rfl⟩
    | int i t => exact ⟨some (i, t), rfl, rfl⟩
  have e2 : ∃ l : Option (Int × Tok), partValue l = vu ∧ l.map (·.1) = hi := by
    cases pu with
    | none => exact ⟨none, rfl, rfl⟩
    | int i t => exact ⟨some (i, t), rfl, rfl⟩
  obtain ⟨l, rfl, rfl⟩ := e1
  obtain ⟨u, rfl, rfl⟩ := e2
  refine ⟨"str", _, PyProof.Rows.slot_str_getitem.lookup, typeIs_str s z t, wpAny_getItem_str_slice (l := l) (u := u) (st := none) hs rfl ?_⟩
  have hle := Nat.le_trans (Txt.slice_le z (l.map (·.1)) (u.map (·.1))) hz
  unfold Txt.slice at q hle
  show (if ((1 : Int) == 1 && (Builtin.Str.strSliceIndices (l.map (·.1)) (u.map (·.1)) 1 z.length).length == z.length) = true then Made.val (Value.str z t) else Made.str { cps := (List.filterMap (fun x_1 => z.cps[x_1]?) (Builtin.Str.strSliceIndices (l.map (·.1)) (u.map (·.1)) 1 z.length)).toArray }).post _ s
  by_cases hc : ((1 : Int) == 1 && (Builtin.Str.strSliceIndices (l.map (·.1)) (u.map (·.1)) 1 z.length).length == z.length) = true
  · rw [if_pos hc] at q ⊢
    exact ⟨.str z, H, I, ⟨_, rfl⟩, q⟩
  · rw [if_neg hc] at q hle ⊢
    exact ⟨hle, .str _, H, I.tok _, ⟨_, rfl⟩, q⟩
theorem sl_tupA : SlR X (fun x lo hi H Q => ∃ a xs, x = .ref a ∧ SqT X.K H a xs ∧ ((HT.sIx xs.length 0 lo = 0 ∧ HT.sIx xs.length xs.length hi = xs.length) → Q (.ref a) H) ∧
    (¬ (HT.sIx xs.length 0 lo = 0 ∧ HT.sIx xs.length xs.length hi = xs.length) → ∀ p, H p = none → Q (.ref p) (upd H p (.tup (cutV xs lo hi))))) := by
  intro pins s σ H x v vl vu lo hi sl Q I rx hs pl pu h
  obtain ⟨a, xs, rfl, hx, q1, q2⟩ := h
  by_cases hw : HT.sIx xs.length 0 lo = 0 ∧ HT.sIx xs.length xs.length hi = xs.length
  · cases rx
    obtain ⟨its, r, ht, hz⟩ := I.tuple hx
    have hlen : its.toArray.size = xs.length := by rw [List.size_toArray]; exact r.length.symm
    exact ⟨"tuple", _, PyProof.Rows.slot_tuple_getitem.lookup, ht.typeIs, HT.getItem_tuple_whole ht hs pl pu (by rw [hlen]; exact hw) ⟨.ref a, H, I, rfl, q1 hw⟩⟩
  · exact sl_tup pins s σ H _ v vl vu lo hi sl Q I rx hs pl pu ⟨a, xs, rfl, hx, hw, q2 hw⟩
theorem strs_of : ∀ {ys : List Str} {us : List Value}, Vals (ys.map V.str) us → StrsAre us ys
  | [], us, r => by rw [List.map_nil] at r; cases r; exact .nil
  | y :: ys, us, r => by
    rw [List.map_cons] at r
    cases r with
    | cons r1 r2 =>
      obtain ⟨t, rfl⟩ := r1
      exact .cons y t (strs_of r2)
theorem vals_strs : ∀ (l : List (Str × Tok)), Vals ((l.map (·.1)).map V.str) (strValues l)
  | [] => .nil
  | p :: l => .cons ⟨p.2, rfl⟩ (vals_strs l)
theorem mt_join : MtR X "str.join" (fun x vs H Q => ∃ sep a ys, x = .str sep ∧ vs = [.ref a] ∧ SqT X.K H a (ys.map V.str) ∧ (ys.map (fun x => x.length)).sum + ys.length * sep.length ≤ 16777216 ∧ Q (.str (Txt.join sep ys)) H) := by
  intro pins s σ H x vs v us Q I rx rv h
  obtain ⟨sep, a, ys, rfl, rfl, ha, hb, q⟩ := h
  obtain ⟨t, rfl⟩ := rx
  obtain ⟨u, rfl, ru⟩ := rv.one
  cases ru
  obtain ⟨its, r, p, _⟩ := I.tuple ha
  exact PyProof.Rows.join_tuple p (strs_of r) hb fun t' k => ⟨.str _, H, I.tok _, ⟨_, rfl⟩, q⟩
theorem parts_le (x y : Str) (h : (y.length == 0) = false) : (Builtin.Str.partsBetween x (Builtin.Str.occurrences x y 0 x.length (x.length + 1)) y.length).length ≤ x.length + 2 := by
  rw [length_partsBetween]
  have := StrLaws.occ_length_le x y 0 x.length (x.length + 1)
  omega
theorem split_le (x y : Str) (h : (y.length == 0) = false) : (Txt.split x y).length ≤ x.length + 2 := by
  unfold Txt.split
  split
  · simp
  · split
    · simp
    · exact parts_le x y h
noncomputable def tTupSplit (to te : TE) : TE := fun σ H Q => to σ H fun x H1 => ∃ z, x = .str z ∧ te σ H1 fun y H2 => ∃ sep, y = .str sep ∧ (sep.length == 0) = false ∧ z.length ≤ 1000 ∧ ∀ p, H2 p = none → Q (.ref p) (upd H2 p (.tup ((Txt.split z sep).map V.str)))
theorem pe_tupSplit {o e : Expr} {to te : TE} {p apos cpos pos : Pos} (hg : Gl X "tuple") (hm : X.mg "tuple" = none) (ho : PE X o to) (he : PE X e te)
    (hbase : attributeBase o "split" X.env (eval o X.env) = eval o X.env := by rfl)
    (hfew : ((backTo cpos (starEach [e] X.env)).all (fun x => !x.1) && (backToKw cpos (keywordEach [] X.env)).all (fun x => x.1.isSome)
      && decide (([e] : List Expr).length + ([] : List Keyword).length + (if ([] : List Keyword).isEmpty then 0 else 1) < 30)) = true := by rfl)
    (hline : (apos.endLine == cpos.line) = true := by rfl) (hs : starEach [e] X.env = [(false, eval e X.env)] := by rfl)
    (hs2 : starEach [Expr.Call (.Attribute o "split" apos) [e] [] cpos] X.env = [(false, eval (Expr.Call (.Attribute o "split" apos) [e] [] cpos) X.env)] := by rfl) :
    PE X (.Call (.Name "tuple" p) [.Call (.Attribute o "split" apos) [e] [] cpos] [] pos) (tTupSplit to te) := by
  intro pins s σ H Q I h
  refine wpAny_Call_Name_kw (ld_blt I hg hm PyProof.Rows.boot_tuple ?_)
  refine PyProof.Rows.callWith_type1 ?_ hs2 rfl
  rw [hs2]
  show wpAny _ _ (spliced ((false, eval (Expr.Call (.Attribute o "split" apos) [e] [] cpos) X.env) :: [])) _ _ s
  refine Calls.spliced_cons ?_
  refine wpAny_Call_method_late hbase hfew hline rfl (thn (ho pins s σ H _ I h) fun v s1 ⟨x, H1, I1, r1, q1⟩ => ?_)
  obtain ⟨z, rfl, q1⟩ := q1
  obtain ⟨t, rfl⟩ := r1
  refine ⟨"str", "str.split", PySem.F.plainAttrs_str, PySem.F.slot_str_split, PySem.F.type_str_split, typeIs_str _ _ _, (fun _ e => nomatch e), ?_⟩
  rw [hs]
  refine Calls.callWith_builtin rfl (Calls.evalArgs_plain ?_)
  show wpAny _ _ (spliced ((false, eval e X.env) :: [])) _ _ s1
  refine Calls.spliced_cons (thn (he pins s1 σ H1 _ I1 q1) fun u s2 ⟨y, H2, I2, r2, q2⟩ => ?_)
  obtain ⟨sep, rfl, hsep, hz, q⟩ := q2
  obtain ⟨t2, rfl⟩ := r2
  refine Calls.spliced_nil ?_
  have hz' : z.length + 2 ≤ sizeLine := Nat.le_trans (show z.length + 2 ≤ 1002 by omega) (by decide)
  refine PySem.SCG.split1 (Fm := fun s' => Inv X pins σ H2 s') (fun s' ob k J => J.kept (t' := k) fun b o e => Heap.get?_push_of_some _ e) I2 hsep (fun D l s3 hl I3 hD => ?_) (by omega) (Nat.le_trans (parts_le z sep hsep) hz')
  refine Calls.spliced_nil ?_
  have hlen : (strValues l).length = (Txt.split z sep).length := by rw [← hl]; simp [strValues]
  have hzz : (Txt.split z sep).length ≤ sizeLine := Nat.le_trans (split_le z sep hsep) hz'
  refine call_tuple_list hD (fun h' kp => ?_) (by rw [List.size_toArray, hlen]; exact hzz)
  have J1 : Inv X pins σ H2 { s3 with heap := h' } := I3.kept (t' := s3.toks) kp
  have J2 : Inv X pins σ (upd H2 h'.objs.size (.tup ((Txt.split z sep).map V.str))) { s3 with heap := h'.push { cls := .type "tuple", data := .seq (strValues l).toArray } } :=
    J1.laid (t' := s3.toks) (fun b o e => Heap.get?_push_of_some _ e) (Nat.le_refl _) (show ObjOk X.prog X.w _ _ _ (.tup ((Txt.split z sep).map V.str)) from ⟨by rw [List.length_map]; exact hzz, _, by rw [← hl]; exact vals_strs l, IsTup.new _ _⟩)
  exact ⟨.ref h'.objs.size, _, J2, rfl, q _ (J1.hok.fresh (Nat.le_refl _))⟩
end
end L2
end
section
set_option Elab.async false
set_option linter.all false
set_option maxRecDepth 100000
set_option maxHeartbeats 4000000
namespace K10
open PySem L2
noncomputable def top (i : Nat) : Stmt := PySem.Challenge.pw_namewants_k10_whole_names.main.body.getD i (.Pass ⟨0, 0, 0, 0⟩)
noncomputable abbrev sPart : Stmt := top 15
noncomputable abbrev sName : Stmt := top 16
noncomputable abbrev sBeg : Stmt := top 17
noncomputable abbrev sNeedN : Stmt := top 18
noncomputable abbrev sNeedB : Stmt := top 19
noncomputable abbrev sBegins : Stmt := top 20
noncomputable abbrev sText : Stmt := top 21
noncomputable abbrev sRead : Stmt := top 22
noncomputable abbrev sCell : Stmt := top 24
noncomputable abbrev sDrawn : Stmt := top 25
noncomputable abbrev sRoll : Stmt := top 26
noncomputable abbrev sRounds : Stmt := top 27
noncomputable abbrev sWord : Stmt := top 28
noncomputable abbrev sTold : Stmt := top 29
noncomputable abbrev sHead : Stmt := top 30
noncomputable abbrev sAny : Stmt := top 31
noncomputable abbrev sLaw : Stmt := top 32
structure Cal (P : Program) (w : World) (K : PySem.W.Frag) (mg : Str → Option Value) (base : Heap) (k : Nat) (x : Str) (f : Addr) (fd : FuncData) (ps : List Str) (sp : Sp) : Prop where
  ok : FnOk P w K mg base CX0 k f fd ps sp
  mg : mg x = some (.ref f)
  kp : PySem.W.keepIn K (.ref f) = true
  bd : Binds K fd ps []
theorem pe_fn {X : Cx} {k : Nat} {x : Str} {f : Addr} {fd : FuncData} {ps : List Str} {sp : Sp} {e : Expr} {es : List Expr} {t : TA} {p pos : Pos} (C : Cal X.prog X.w X.K X.mg X.base k x f fd ps sp) (hr : Room k X.A) (hg : Gl X x) (ha : PA X (e :: es) t)
    (hdb : (x == ("__debug__" : Str)) = false := by decide) (he : starEach (e :: es) X.env = (false, eval e X.env) :: starEach es X.env := by rfl) (hpl : (backTo pos (starEach es X.env)).any (·.1) = false := by rfl) :
    PE X (.Call (.Name x p) (e :: es) [] pos) (tCall sp [] E0 t) := pe_call C.ok hr hg C.mg C.kp C.bd .nil pass0 ha hdb he hpl
structure Glb (mg : Str → Option Value) : Prop where
  isi : mg "isinstance" = none
  int : mg "int" = none
  bool : mg "bool" = none
  str : mg "str" = none
  tuple : mg "tuple" = none
  list : mg "list" = none
  len : mg "len" = none
  all : mg "all" = none
  range : mg "range" = none
  max : mg "max" = none
  min : mg "min" = none
  signs : ∃ t, mg "SIGNS" = some (.str "abcdefghijklmnopqrstuvwxyz0123456789" t)
  partL : ∃ t, mg "PART_LONGEST" = some (.int 4 t)
  nameL : ∃ t, mg "NAME_LONGEST" = some (.int 5 t)
end K10
end
section
set_option Elab.async false
set_option linter.all false
set_option maxRecDepth 100000
set_option maxHeartbeats 4000000
namespace K10
open PySem L2
noncomputable def signB (c : Nat) : Bool := !(Builtin.Str.occurrences "abcdefghijklmnopqrstuvwxyz0123456789" ⟨#[c]⟩ 0 (Str.length "abcdefghijklmnopqrstuvwxyz0123456789") 1).isEmpty
noncomputable def partB (x : Str) : Bool := (decide ((1 : Int) ≤ x.length) && decide ((x.length : Int) ≤ 4)) && x.cps.toList.all signB
noncomputable def PartV (K : PySem.W.Frag) (H : Hp) (v : V) (b : Bool) : Prop := (∃ x, v = .str x ∧ x.length ≤ sizeLine ∧ b = partB x) ∨ ∃ k, KindV K H v k ∧ isStr k = false ∧ b = false
noncomputable def spPart (K : PySem.W.Frag) : Sp := fun vs H Q _ => ∃ v b, vs = [v] ∧ PartV K H v b ∧ ∀ H', Same H H' → Q (.bl b) H'
theorem same_upd {H : Hp} {a : Addr} {o : HO} (h : H a = none) : Same H (upd H a o) := fun b u e => by rw [upd_ne (ne_of_none e h)]; exact e
section
variable {P : Program} {w : World} {K : PySem.W.Frag} {mg : Str → Option Value} {base : Heap}
theorem scPart : FnScope ["thing"] ["thing"] (defScope sPart) := ⟨rfl, rfl, rfl, by decide +kernel, rfl, by decide +kernel, by decide +kernel⟩
theorem ok_part {f : Addr} {fd : FuncData} (F : Fun K "is_part" "is_part" sPart f fd) (G : Glb mg) : FnOk P w K mg base CX0 1 f fd ["thing"] (spPart K) := by
  refine F.ok scPart (fun vs H Q E h => ?_) (fun cdv A outer s H vs Q E hr h => ?_)
  · obtain ⟨v, b, rfl, _⟩ := h
    rfl
  · obtain ⟨v, b, rfl, hp, q⟩ := h
    obtain ⟨t1, m1⟩ := G.partL
    obtain ⟨t2, m2⟩ := G.signs
    refine ⟨_, pss_cons (ps_if (PW.pt (pw_or (pt_not (pt_val (pe_callB (call_isiK (kit_str _)) (by rfl) G.isi PyProof.Rows.boot_isinstance (pa_cons (pv 0) (pa_cons (pe_bltn (v := .ty "str") (by rfl) G.str PyProof.Rows.boot_str rfl) pa_nil)))))
        (pw_or1 (pt_not (pt_chain op_le op_le pe_int (pe_callB call_len (by rfl) G.len PySem.boot_len (pa_cons (pv 0) pa_nil)) (pe_glob (v := .int 4) (by rfl) m1 ⟨t1, rfl⟩)))))) (pss_one (ps_ret pe_bl)) pss_nil)
      (pss_one (ps_ret (pe_callB (call_allL rfl) (by rfl) G.all PyProof.Rows.boot_all (pa_cons (pe_lc rfl (by rfl) (by show (["sign", "thing"] : List Str).Nodup; decide +kernel) (pi_str (pv 0)) (fun _ _ _ _ => pf_nil)
        (fun _ _ _ _ => pe_cmpR op_in_str (pv 0) (pe_glob (v := .str "abcdefghijklmnopqrstuvwxyz0123456789") (by rfl) m2 ⟨t2, rfl⟩) (by with_unfolding_all rfl))) pa_nil)))), ?_⟩
    rcases hp with ⟨x, rfl, hz, hb⟩ | ⟨k, hk, hs, rfl⟩
    · refine ⟨_, rfl, _, .str, rfl, kn_str x, _, rfl, ?_⟩
      refine iteF ⟨_, rfl, _, x.length, rfl, ⟨hz, rfl⟩, _, _, rfl, rfl, _, rfl, ?_⟩
      have tail : (decide ((1 : Int) ≤ x.length) && decide ((x.length : Int) ≤ 4)) = true → (tCB (rAll K) (tCons (tLc (iStr (tVar 0)) tAlways (tOp (fun x y H Q => ∃ i j, x = V.str i ∧ y = V.str j ∧ Q (V.bl (!(Builtin.Str.occurrences j i 0 j.length 1).isEmpty)) H) (tVar 0) (tC (.str "abcdefghijklmnopqrstuvwxyz0123456789")))) tNil)) (start ["thing"] [.str x]) H Q := fun hl => by
        refine ⟨_, rfl, x, rfl, lc_by x.cps.size (fun i ys H' => H' = H ∧ ys = ((x.cps.toList.take i).map signB).map V.bl) ⟨rfl, by simp⟩ (fun i ys H' hi hp => ?_) hz (fun i ys H' hi _ => hi) (fun i ys H' y H'' hi hp hy => ?_) (fun ys H' hp => ?_)⟩
        · rw [hp.2, List.length_map, List.length_map, List.length_take]
          omega
        · obtain ⟨rfl, rfl⟩ := hp
          obtain ⟨rfl, c, hc, rfl⟩ := hy
          refine alw ⟨_, rfl, _, _, rfl, rfl, ?_⟩
          refine ⟨rfl, ?_⟩
          have e : x.cps.toList[i]? = some c := by simpa using hc
          rw [List.take_add_one, e, List.map_append, List.map_append]
          rfl
        · obtain ⟨rfl, rfl⟩ := hp
          refine ⟨Nat.le_refl _, fun D hD => ⟨D, (x.cps.toList).map signB, rfl, ?_, ?_⟩⟩
          · refine SqL.of ?_
            rw [upd_same, List.take_of_length_le (by simp)]
          · have : b = ((x.cps.toList).map signB).all id := by
              rw [hb, partB, hl, Bool.true_and, List.all_map]
              rfl
            rw [← this]
            exact q _ (same_upd hD)
      refine ite2 (fun h1 => ?_) (fun h1 => ?_)
      · refine ⟨_, _, rfl, rfl, _, rfl, ?_⟩
        by_cases h2 : (x.length : Int) ≤ 4
        · rw [decide_eq_true h2]
          refine iteF ?_
          exact tail (by rw [h1, decide_eq_true h2]; rfl)
        · rw [decide_eq_false h2]
          refine iteT ?_
          have : b = false := by rw [hb, partB, decide_eq_false h2, Bool.and_false, Bool.false_and]
          rw [← this]
          exact q _ (Same.refl _)
      · refine ⟨_, rfl, ?_⟩
        refine iteT ?_
        have : b = false := by
          rw [hb, partB]
          have h1 : decide ((1 : Int) ≤ x.length) = false := Bool.eq_false_iff.mpr h1
          rw [h1, Bool.false_and, Bool.false_and]
        rw [← this]
        exact q _ (Same.refl _)
    · refine ⟨_, rfl, _, k, rfl, hk, _, rfl, ?_⟩
      rw [hs]
      exact iteT (iteT (q _ (Same.refl _)))
end
end K10
end
section
set_option Elab.async false
set_option linter.all false
set_option maxRecDepth 100000
set_option maxHeartbeats 4000000
namespace K10
open PySem L2
theorem tyOf_mono {K : PySem.W.Frag} {H H' : Hp} {v : V} {t : Value} (h : TyOf K H v t) (e : Same H H') : TyOf K H' v t := by
  cases h with
  | non => exact .non
  | bl x => exact .bl x
  | int i => exact .int i
  | str x => exact .str x
  | flt x => exact .flt x
  | lst q => exact .lst (e _ _ q)
  | frz q => exact .frz (e _ _ q)
  | tup q => exact .tup (e _ _ q)
  | dK q => exact .dK (e _ _ q)
  | dT q => exact .dT (e _ _ q)
  | ins q a b c d f => exact .ins (e _ _ q) a b c d f
theorem kindV_mono {K : PySem.W.Frag} {H H' : Hp} {v : V} {k : Kn} (h : KindV K H v k) (e : Same H H') : KindV K H' v k := ⟨tyOf_mono h.ty e, h.sh⟩
theorem partV_mono {K : PySem.W.Frag} {H H' : Hp} {v : V} {b : Bool} (h : PartV K H v b) (e : Same H H') : PartV K H' v b := by
  rcases h with h | ⟨k, h, r⟩
  · exact .inl h
  · exact .inr ⟨k, kindV_mono h e, r⟩
noncomputable def NameV (K : PySem.W.Frag) (H : Hp) (v : V) (b : Bool) : Prop :=
  (∃ (a : Addr) (xs : List V) (bs : List Bool), v = .ref a ∧ H a = some (.tup xs) ∧ xs.length ≤ sizeLine ∧ bs.length = xs.length ∧ (∀ (i : Nat) x b', xs[i]? = some x → bs[i]? = some b' → PartV K H x b') ∧
    b = ((decide ((1 : Int) ≤ xs.length) && decide ((xs.length : Int) ≤ 5)) && bs.all id)) ∨ ∃ k, KindV K H v k ∧ isTup k = false ∧ b = false
noncomputable def spName (K : PySem.W.Frag) : Sp := fun vs H Q _ => ∃ v b, vs = [v] ∧ NameV K H v b ∧ ∀ H', Same H H' → Q (.bl b) H'
section
variable {P : Program} {w : World} {K : PySem.W.Frag} {mg : Str → Option Value} {base : Heap}
theorem scName : FnScope ["thing"] ["thing"] (defScope sName) := ⟨rfl, rfl, rfl, by decide +kernel, rfl, by decide +kernel, by decide +kernel⟩
theorem ok_name {f f1 : Addr} {fd fd1 : FuncData} (F : Fun K "is_name" "is_name" sName f fd) (G : Glb mg) (C1 : Cal P w K mg base 1 "is_part" f1 fd1 ["thing"] (spPart K)) : FnOk P w K mg base CX0 2 f fd ["thing"] (spName K) := by
  refine F.ok scName (fun vs H Q E h => ?_) (fun cdv A outer s H vs Q E hr h => ?_)
  · obtain ⟨v, b, rfl, _⟩ := h
    rfl
  · obtain ⟨v, b, rfl, hp, q⟩ := h
    obtain ⟨t1, m1⟩ := G.nameL
    refine ⟨_, pss_cons (ps_if (PW.pt (pw_or (pt_not (pt_val (pe_callB (call_isiK (kit_tuple _)) (by rfl) G.isi PyProof.Rows.boot_isinstance (pa_cons (pv 0) (pa_cons (pe_bltn (v := .ty "tuple") (by rfl) G.tuple PyProof.Rows.boot_tuple rfl) pa_nil)))))
        (pw_or1 (pt_not (pt_chain op_le op_le pe_int (pe_callB call_len (by rfl) G.len PySem.boot_len (pa_cons (pv 0) pa_nil)) (pe_glob (v := .int 5) (by rfl) m1 ⟨t1, rfl⟩)))))) (pss_one (ps_ret pe_bl)) pss_nil)
      (pss_one (ps_ret (pe_callB (call_allL rfl) (by rfl) G.all PyProof.Rows.boot_all (pa_cons (pe_lc rfl (by rfl) (by show (["part", "thing"] : List Str).Nodup; decide +kernel) (pi_tup (pv 0)) (fun _ _ _ _ => pf_nil)
        (fun _ _ _ _ => pe_fn C1 hr (by rfl) (pa_cons (pv 0) pa_nil))) pa_nil)))), ?_⟩
    rcases hp with ⟨a, xs, bs, rfl, ha, hz, hl, hbs, hb⟩ | ⟨k, hk, hs, rfl⟩
    · refine ⟨_, rfl, _, .tup, rfl, kn_tup ha, _, rfl, ?_⟩
      refine iteF ⟨_, rfl, _, xs.length, rfl, .inr ⟨xs, SqT.of ha, rfl⟩, _, _, rfl, rfl, _, rfl, ?_⟩
      have tail : (decide ((1 : Int) ≤ xs.length) && decide ((xs.length : Int) ≤ 5)) = true → (tCB (rAll K) (tCons (tLc (iTup K (tVar 0)) tAlways (tCall (spPart K) [] E0 (tCons (tVar 0) tNil))) tNil)) (start ["thing"] [.ref a]) H Q := fun hln => by
        refine ⟨_, rfl, a, rfl, ⟨xs, SqT.of ha⟩, lc_by xs.length (fun i ys H' => Same H H' ∧ ys = (bs.take i).map V.bl) ⟨Same.refl _, by simp⟩ (fun i ys H' hi hp => ?_) hz (fun i ys H' hi hp => ?_) (fun i ys H' y H'' hi hp hy => ?_) (fun ys H' hp => ?_)⟩
        · rw [hp.2, List.length_map, List.length_take]
          omega
        · exact ⟨xs, xs[i], SqT.of (hp.1 _ _ ha), by simp [hi]⟩
        · obtain ⟨s1, rfl⟩ := hp
          obtain ⟨rfl, hx⟩ := hy
          have hx := hx xs (SqT.of (s1 _ _ ha))
          have hbi : bs[i]? = some bs[i] := by simp [hl, hi]
          refine alw ⟨_, rfl, y, bs[i], rfl, partV_mono (hbs i y _ hx hbi) s1, fun H3 s3 => ⟨s1.trans s3, ?_⟩⟩
          rw [List.take_add_one, hbi, List.map_append]
          rfl
        · obtain ⟨s1, rfl⟩ := hp
          refine ⟨⟨xs, SqT.of (s1 _ _ ha), Nat.le_refl _⟩, fun D hD => ⟨D, bs, rfl, ?_, ?_⟩⟩
          · refine SqL.of ?_
            rw [upd_same, List.take_of_length_le (by omega)]
          · have : b = bs.all id := by rw [hb, hln, Bool.true_and]
            rw [← this]
            exact q _ (s1.trans (same_upd hD))
      refine ite2 (fun h1 => ?_) (fun h1 => ?_)
      · refine ⟨_, _, rfl, rfl, _, rfl, ?_⟩
        by_cases h2 : (xs.length : Int) ≤ 5
        · rw [decide_eq_true h2]
          refine iteF ?_
          exact tail (by rw [h1, decide_eq_true h2]; rfl)
        · rw [decide_eq_false h2]
          refine iteT ?_
          have : b = false := by rw [hb, decide_eq_false h2, Bool.and_false, Bool.false_and]
          rw [← this]
          exact q _ (Same.refl _)
      · refine ⟨_, rfl, ?_⟩
        refine iteT ?_
        have : b = false := by
          rw [hb]
          have h1 : decide ((1 : Int) ≤ xs.length) = false := Bool.eq_false_iff.mpr h1
          rw [h1, Bool.false_and, Bool.false_and]
        rw [← this]
        exact q _ (Same.refl _)
    · refine ⟨_, rfl, _, k, rfl, hk, _, rfl, ?_⟩
      rw [hs]
      exact iteT (iteT (q _ (Same.refl _)))
end
end K10
end
section
set_option Elab.async false
set_option linter.all false
set_option maxRecDepth 100000
set_option maxHeartbeats 4000000
namespace K10
open PySem L2
noncomputable def Kept (d : Addr) (H H' : Hp) : Prop := ∀ b o, b ≠ d → H b = some o → H' b = some o
theorem Kept.refl (d : Addr) (H : Hp) : Kept d H H := fun _ _ _ h => h
theorem Kept.trans {d : Addr} {H H1 H2 : Hp} (a : Kept d H H1) (b : Kept d H1 H2) : Kept d H H2 := fun c o n h => b c o n (a c o n h)
theorem Kept.of {d : Addr} {H H' : Hp} (h : Same H H') : Kept d H H' := fun b o _ e => h b o e
theorem kept_upd {d : Addr} {H : Hp} {o : HO} : Kept d H (upd H d o) := fun b u n e => by rw [upd_ne n]; exact e
noncomputable def DiceAt (H : Hp) (d : Addr) : Prop := ∃ a b : Int, H d = some (.lst [.int a, .int b])
theorem DiceAt.same {H H' : Hp} {d : Addr} (h : DiceAt H d) (e : Same H H') : DiceAt H' d := let ⟨a, b, q⟩ := h; ⟨a, b, e _ _ q⟩
noncomputable def spCell (K : PySem.W.Frag) : Sp := fun vs H Q _ => ∃ (a : Addr) (ns : List Int) (k : Int), vs = [.ref a, .int k] ∧ SqL K H a (ns.map V.int) ∧ ns.length ≤ 63 ∧ 0 ≤ k ∧ ∀ z H', Same H H' → Q (.int z) H'
noncomputable def spDrawn : Sp := fun vs H Q _ => ∃ c k : Int, vs = [.int c, .int k] ∧ ∀ z : Int, 0 ≤ z → Q (.int z) H
noncomputable def spRoll : Sp := fun vs H Q _ => ∃ (d : Addr) (m : Int), vs = [.ref d, .int m] ∧ DiceAt H d ∧ 0 < m ∧ m < 1073741824 ∧ ∀ (r : Int) (H' : Hp), 0 ≤ r → r < m → DiceAt H' d → Kept d H H' → Q (.int r) H'
section
variable {P : Program} {w : World} {K : PySem.W.Frag} {mg : Str → Option Value} {base : Heap}
theorem scCell : FnScope ["_law_script", "_law_k"] ["_law_script", "_law_k"] (defScope sCell) := ⟨rfl, rfl, rfl, by decide +kernel, rfl, by decide +kernel, by decide +kernel⟩
theorem units_of {A : Around} {k n : Nat} (hr : Room k A) (h : n ≤ 60) : A.units + n < cLine := by have := hr.units; omega
theorem ok_cell {f : Addr} {fd : FuncData} (F : Fun K "_law_cell" "_law_cell" sCell f fd) (G : Glb mg) : FnOk P w K mg base CX0 1 f fd ["_law_script", "_law_k"] (spCell K) := by
  refine F.ok scCell (fun vs H Q E h => ?_) (fun cdv A outer s H vs Q E hr h => ?_)
  · obtain ⟨a, ns, k, rfl, _⟩ := h
    rfl
  · obtain ⟨a, ns, k, rfl, ha, hl, h0, q⟩ := h
    refine ⟨_, pss_cons (ps_if (pt_cmpR (op_eqC (n := 1) (units_of hr (by decide))) (pv 0) (pe_lst pa_nil) (nomark _)) (pss_one (ps_ret (pe_op op_mul (pv 1) pe_int))) pss_nil)
      (pss_one (ps_ret (pe_op op_add (pe_ix ix_list (pv 0) (pe_op op_mod (pv 1) (pe_callB call_len (by rfl) G.len PySem.boot_len (pa_cons (pv 0) pa_nil))) (fun _ _ => rfl))
        (pe_op op_mul (pe_op op_fdiv (pv 1) (pe_callB call_len (by rfl) G.len PySem.boot_len (pa_cons (pv 0) pa_nil))) pe_int)))), ?_⟩
    refine ⟨_, rfl, Nat.zero_le _, fun l hl0 => ?_⟩
    have s1 : Same H (upd H l (.lst [])) := same_upd hl0
    have ha1 := s1.seq ha
    cases ns with
    | nil =>
      refine ⟨true, ?_, _, rfl, iteT ?_⟩
      · exact cmp_same_lists (n := 0) ha1 (SqL.of upd_same) rfl (fun j x y h1 _ => by simp at h1)
      · exact ⟨_, rfl, _, _, rfl, rfl, .inr ⟨by decide, by decide⟩, q _ _ s1⟩
    | cons n0 r =>
      refine ⟨false, ?_, _, rfl, iteF ?_⟩
      · exact cmp_lists_len ha1 (SqL.of upd_same) (by simp)
      · have hn : ((((n0 :: r).map V.int).length : Nat) : Int) = (r.length : Int) + 1 := by simp
        have hr63 : r.length ≤ 62 := by simpa using hl
        refine ⟨_, rfl, _, rfl, _, rfl, _, _, rfl, .inl ⟨_, ha1, rfl⟩, _, _, rfl, rfl, by rw [hn]; omega, ?_⟩
        obtain ⟨j, hj⟩ := Int.eq_ofNat_of_zero_le (Int.emod_nonneg k (show ((((n0 :: r).map V.int).length : Nat) : Int) ≠ 0 by rw [hn]; omega))
        have hjl : j < ((n0 :: r).map V.int).length := by
          have := Int.emod_lt_of_pos k (show (0 : Int) < ((((n0 :: r).map V.int).length : Nat) : Int) by rw [hn]; omega)
          omega
        have hjl2 : j < (n0 :: r).length := by simpa using hjl
        refine ⟨a, _, _, V.int ((n0 :: r)[j]), rfl, rfl, ha1, ?_, ?_⟩
        · rw [hj]
          exact atI_nat (by rw [List.getElem?_map, List.getElem?_eq_getElem hjl2]; rfl)
        · refine ⟨_, rfl, _, rfl, _, _, rfl, .inl ⟨_, ha1, rfl⟩, _, _, rfl, rfl, ⟨by rw [hn]; omega, by rw [hn]; omega⟩, _, _, rfl, rfl, .inr ⟨by decide, by decide⟩, _, _, rfl, rfl, q _ _ s1⟩
theorem scDrawn : FnScope ["_law_cell_here", "_law_k", "_law_more"] ["_law_cell_here", "_law_k"] (defScope sDrawn) := ⟨rfl, rfl, rfl, by decide +kernel, rfl, by decide +kernel, by decide +kernel⟩
theorem bits_of {z : Int} {m : Nat} (h0 : 0 ≤ z) (h1 : z < 2 ^ m) : Builtin.Int.intBits z ≤ m := by
  refine (PySem.intBits_le_iff (x := z) (m := m)).mpr ?_
  have : (z.natAbs : Int) = z := by omega
  have h2 : (z.natAbs : Int) < ((2 ^ m : Nat) : Int) := by rw [this]; simpa using h1
  exact Int.ofNat_lt.mp h2
theorem mulOk {a b : Int} (ha0 : 0 ≤ a) (ha : a < 2 ^ 250) (hb0 : 0 ≤ b) (hb : b < 2 ^ 250) : IntMulOk a b := PySem.IntMulOk.of_bits (Nat.le_trans (bits_of ha0 ha) (by decide)) (Nat.le_trans (bits_of hb0 hb) (by decide))
theorem m1_nn (x : Int) : 0 ≤ x % 340282366920938463463374607431768211507 := Int.emod_nonneg _ (by decide)
theorem m1_lt (x : Int) : x % 340282366920938463463374607431768211507 < 2 ^ 250 := Int.lt_trans (Int.emod_lt_of_pos _ (by decide)) (by decide)
theorem m2_nn (x : Int) : 0 ≤ x % 340282366920938463463374607431768211297 := Int.emod_nonneg _ (by decide)
theorem m2_lt (x : Int) : x % 340282366920938463463374607431768211297 < 2 ^ 250 := Int.lt_trans (Int.emod_lt_of_pos _ (by decide)) (by decide)
theorem a_nn (y : Int) : 0 ≤ y % 18446744073709551557 + 1 := by have := Int.emod_nonneg y (show (18446744073709551557 : Int) ≠ 0 by decide); omega
theorem a_lt (y : Int) : y % 18446744073709551557 + 1 < 2 ^ 66 := by have := Int.emod_lt_of_pos y (show (0 : Int) < 18446744073709551557 by decide); omega
theorem b_nn (x : Int) : 0 ≤ x % 340282366920938463463374607431768211297 / 18446744073709551557 + 1 := by have := Int.ediv_nonneg (m2_nn x) (show (0 : Int) ≤ 18446744073709551557 by decide); omega
theorem b_lt (x : Int) : x % 340282366920938463463374607431768211297 / 18446744073709551557 + 1 < 2 ^ 130 := by
  have h1 := Int.ediv_le_self 18446744073709551557 (m2_nn x)
  have h2 : x % 340282366920938463463374607431768211297 < 340282366920938463463374607431768211297 := Int.emod_lt_of_pos _ (by decide)
  omega
theorem ab_lt (x y : Int) : (y % 18446744073709551557 + 1) * (x % 340282366920938463463374607431768211297 / 18446744073709551557 + 1) < 2 ^ 250 :=
  Int.lt_of_le_of_lt (Int.mul_le_mul (Int.le_of_lt (a_lt y)) (Int.le_of_lt (b_lt x)) (b_nn x) (by decide)) (by decide)
theorem ok_drawn {f : Addr} {fd : FuncData} (F : Fun K "_law_drawn" "_law_drawn" sDrawn f fd) : FnOk P w K mg base CX0 1 f fd ["_law_cell_here", "_law_k"] spDrawn := by
  refine F.ok scDrawn (fun vs H Q E h => ?_) (fun cdv A outer s H vs Q E hr h => ?_)
  · obtain ⟨c, k, rfl, _⟩ := h
    rfl
  · obtain ⟨c, k, rfl, q⟩ := h
    refine ⟨_, pss_cons (ps_set (i := 2) scDrawn.nd rfl (Or.inl rfl) (pe_op op_mod (pe_op op_add (pe_op op_mul (pv 0) pe_int) (pe_op op_mul (pe_op op_add (pv 1) pe_int) pe_int)) pe_int))
      (pss_cons (ps_set (i := 2) scDrawn.nd rfl (Or.inl rfl) (pe_op op_mod (pe_op op_mulX (pv 2) (pv 2)) pe_int))
      (pss_cons (ps_set (i := 2) scDrawn.nd rfl (Or.inl rfl) (pe_op op_mulX (pe_op op_mulX (pe_op op_add (pe_op op_mod (pv 2) pe_int) pe_int) (pe_op op_add (pe_op op_fdivX (pv 2) pe_int) pe_int)) (pv 2)))
      (pss_one (ps_ret (pe_op op_mod (pv 2) pe_int))))), ?_⟩
    refine ⟨_, rfl, _, _, rfl, rfl, .inr ⟨by decide, by decide⟩, _, rfl, _, _, rfl, rfl, _, _, rfl, rfl, .inr ⟨by decide, by decide⟩, _, _, rfl, rfl, _, _, rfl, rfl, (by show (0 : Int) < 340282366920938463463374607431768211507; decide), ?_⟩
    refine ⟨_, rfl, _, rfl, _, _, rfl, rfl, mulOk (m1_nn _) (m1_lt _) (m1_nn _) (m1_lt _), _, _, rfl, rfl, (by show (0 : Int) < 340282366920938463463374607431768211297; decide), ?_⟩
    refine ⟨_, rfl, _, _, rfl, rfl, (by show (0 : Int) < 18446744073709551557; decide), _, _, rfl, rfl, _, rfl, _, _, rfl, rfl, ⟨by decide, by decide +kernel⟩, _, _, rfl, rfl, ?_⟩
    refine ⟨_, _, rfl, rfl, mulOk (a_nn _) (Int.lt_trans (a_lt _) (by decide)) (b_nn _) (Int.lt_trans (b_lt _) (by decide)), _, rfl, _, _, rfl, rfl, mulOk (Int.mul_nonneg (a_nn _) (b_nn _)) (ab_lt _ _) (m2_nn _) (m2_lt _), ?_⟩
    exact ⟨_, rfl, _, _, rfl, rfl, (by show (0 : Int) < 340282366920938463463374607431768211507; decide), q _ (m1_nn _)⟩
end
end K10
end
section
set_option Elab.async false
set_option linter.all false
set_option maxRecDepth 100000
set_option maxHeartbeats 4000000
namespace K10
open PySem L2
noncomputable def parts5 : List Str := ["a", "b", "c", "x9", "long"]
theorem parts5_good : ∀ x ∈ parts5, partB x = true := by decide +kernel
noncomputable def spRounds (K : PySem.W.Frag) : Sp := fun vs H Q _ => ∃ (a : Addr) (ns : List Int) (m : Int), vs = [.ref a, .int m] ∧ SqL K H a (ns.map V.int) ∧ ns.length ≤ 63 ∧ 0 ≤ m ∧ m ≤ 8 ∧
  ∀ (l : Addr) (ds : List Addr) (H' : Hp), Same H H' → H' l = some (.lst (ds.map V.ref)) → (∀ d ∈ ds, DiceAt H' d ∧ H d = none) → H l = none → ds.length ≤ 8 → l ∉ ds → Q (.ref l) H'
noncomputable def Told (d : Addr) (H : Hp) (ok : List Str → Prop) (Q : VK) : Prop := ∀ (p : Addr) (ps : List Str) (H' : Hp), ok ps → H' p = some (.tup (ps.map V.str)) → DiceAt H' d → Kept d H H' → Q (.ref p) H'
noncomputable def HeadOk (ps : List Str) : Prop := ps.length ≤ 4 ∧ ∀ x ∈ ps, x ∈ parts5
noncomputable def NameOk (ps : List Str) : Prop := 1 ≤ ps.length ∧ ps.length ≤ 5 ∧ ∀ x ∈ ps, x ∈ parts5
noncomputable def spHead : Sp := fun vs H Q _ => ∃ d : Addr, vs = [.ref d] ∧ DiceAt H d ∧ Told d H HeadOk Q
section
variable {P : Program} {w : World} {K : PySem.W.Frag} {mg : Str → Option Value} {base : Heap}
theorem scRoll : FnScope ["_law_dice", "_law_many", "_law_told_here"] ["_law_dice", "_law_many"] (defScope sRoll) := ⟨rfl, rfl, rfl, by decide +kernel, rfl, by decide +kernel, by decide +kernel⟩
theorem ok_roll {f f1 : Addr} {fd fd1 : FuncData} (F : Fun K "_law_roll" "_law_roll" sRoll f fd) (C1 : Cal P w K mg base 1 "_law_drawn" f1 fd1 ["_law_cell_here", "_law_k"] spDrawn) : FnOk P w K mg base CX0 2 f fd ["_law_dice", "_law_many"] spRoll := by
  refine F.ok scRoll (fun vs H Q E h => ?_) (fun cdv A outer s H vs Q E hr h => ?_)
  · obtain ⟨d, m, rfl, _⟩ := h
    rfl
  · obtain ⟨d, m, rfl, ⟨a, b, hd⟩, m0, m1, q⟩ := h
    refine ⟨_, pss_cons (ps_if (pt_cmpR op_ge (pe_ix ix_list (pv 0) pe_int (fun _ _ => rfl)) (pe_op op_pow pe_int pe_int) (nomark _))
        (pss_cons (ps_set (i := 2) scRoll.nd rfl (Or.inl rfl) (pe_op op_mod (pe_ix ix_list (pv 0) pe_int (fun _ _ => rfl)) (pv 1)))
        (pss_cons (ps_asg (pe_op op_fdiv (pe_ix ix_list (pv 0) pe_int (fun _ _ => rfl)) (pv 1)) (pg_sub (pv 0) pe_int set_list))
        (pss_one (ps_ret (pv 2))))) pss_nil)
      (pss_cons (ps_asg (pe_op op_add (pe_ix ix_list (pv 0) pe_int (fun _ _ => rfl)) pe_int) (pg_sub (pv 0) pe_int set_list))
      (pss_one (ps_ret (pe_op op_mod (pe_op op_fdiv (pe_fn C1 hr (by rfl) (pa_cons (pe_ix ix_list (pv 0) pe_int (fun _ _ => rfl)) (pa_cons (pe_ix ix_list (pv 0) pe_int (fun _ _ => rfl)) pa_nil))) pe_int) (pv 1))))), ?_⟩
    refine ⟨_, rfl, d, _, 0, .int a, rfl, rfl, SqL.of hd, rfl, _, _, rfl, rfl, ⟨by decide, by decide, by decide⟩, _, _, rfl, rfl, _, rfl, ?_⟩
    refine ite2 (fun _ => ?_) (fun _ => ?_)
    · refine ⟨_, rfl, d, _, 0, .int a, rfl, rfl, SqL.of hd, rfl, _, rfl, _, _, rfl, rfl, m0, ?_⟩
      refine ⟨_, rfl, d, _, 0, .int a, rfl, rfl, SqL.of hd, rfl, _, rfl, _, _, rfl, rfl, ⟨m0, m1⟩, ?_⟩
      refine ⟨_, rfl, d, _, 0, 0, rfl, rfl, hd, rfl, ?_⟩
      exact ⟨_, rfl, q _ _ (Int.emod_nonneg _ (by omega)) (Int.emod_lt_of_pos _ m0) ⟨_, _, upd_same⟩ kept_upd⟩
    · refine ⟨_, rfl, d, _, 1, .int b, rfl, rfl, SqL.of hd, rfl, _, _, rfl, rfl, ?_⟩
      refine ⟨_, rfl, d, _, 1, 1, rfl, rfl, hd, rfl, ?_⟩
      refine ⟨_, rfl, d, _, 0, .int a, rfl, rfl, SqL.of upd_same, rfl, _, rfl, d, _, 1, .int (b + 1), rfl, rfl, SqL.of upd_same, rfl, _, _, rfl, fun z z0 => ?_⟩
      refine ⟨_, _, rfl, rfl, ⟨by decide, by decide⟩, _, rfl, _, _, rfl, rfl, m0, ?_⟩
      exact q _ _ (Int.emod_nonneg _ (by omega)) (Int.emod_lt_of_pos _ m0) ⟨_, _, upd_same⟩ kept_upd
theorem scRounds : FnScope ["_law_script", "_law_most"] ["_law_script", "_law_most"] (defScope sRounds) := ⟨rfl, rfl, rfl, by decide +kernel, rfl, by decide +kernel, by decide +kernel⟩
theorem ok_rounds {f f1 : Addr} {fd fd1 : FuncData} (F : Fun K "_law_rounds" "_law_rounds" sRounds f fd) (G : Glb mg) (C1 : Cal P w K mg base 1 "_law_cell" f1 fd1 ["_law_script", "_law_k"] (spCell K)) : FnOk P w K mg base CX0 2 f fd ["_law_script", "_law_most"] (spRounds K) := by
  refine F.ok scRounds (fun vs H Q E h => ?_) (fun cdv A outer s H vs Q E hr h => ?_)
  · obtain ⟨a, ns, m, rfl, _⟩ := h
    rfl
  · obtain ⟨a, ns, m, rfl, ha, hl, m0, m8, q⟩ := h
    refine ⟨_, pss_one (ps_ret (pe_lc rfl (by rfl) (by show (["_law_k", "_law_script", "_law_most"] : List Str).Nodup; decide +kernel)
      (pi_range1 (by rfl) G.range (pa_cons (pe_callB (call_max2 rfl) (by rfl) G.max PyProof.Rows.boot_max (pa_cons pe_int (pa_cons (pe_callB (call_min2 rfl) (by rfl) G.min PyProof.Rows.boot_min (pa_cons (pv 1) (pa_cons (pe_callB call_len (by rfl) G.len PySem.boot_len (pa_cons (pv 0) pa_nil)) pa_nil))) pa_nil))) pa_nil))
      (fun _ _ _ _ => pf_nil) (fun _ _ _ _ => pe_lst (pa_cons (pe_fn C1 hr (by rfl) (pa_cons (pv 1) (pa_cons (pv 0) pa_nil))) (pa_cons pe_int pa_nil))))), ?_⟩
    refine ⟨_, rfl, _, rfl, _, _, rfl, .inl ⟨_, ha, rfl⟩, _, _, rfl, _, _, rfl, _, rfl, ?_⟩
    generalize hj : (if (if (((ns.map V.int).length : Nat) : Int) < m then (((ns.map V.int).length : Nat) : Int) else m) > 1 then (if (((ns.map V.int).length : Nat) : Int) < m then (((ns.map V.int).length : Nat) : Int) else m) else 1) = j
    have j8 : 0 ≤ j ∧ j ≤ 8 := by rw [← hj]; split <;> split <;> omega
    refine ⟨by omega, by omega, lc_by j.toNat (fun i ys H' => Same H H' ∧ ∃ ds : List Addr, ys = ds.map V.ref ∧ (∀ d ∈ ds, DiceAt H' d ∧ H d = none) ∧ ds.length = i) ⟨Same.refl _, [], rfl, by simp, rfl⟩ (fun i ys H' hi hp => ?_) (Nat.le_trans (show j.toNat ≤ 8 by omega) (by decide)) (fun i ys H' hi hp => hi) (fun i ys H' y H'' hi hp hy => ?_) (fun ys H' hp => ?_)⟩
    · obtain ⟨_, ds, rfl, _, hd⟩ := hp
      rw [List.length_map]
      omega
    · obtain ⟨s1, ds, rfl, hds, hd⟩ := hp
      obtain ⟨rfl, rfl⟩ := hy
      refine alw ⟨_, rfl, _, rfl, a, ns, _, rfl, s1.seq ha, hl, by omega, fun z H3 s3 => ⟨(by show 2 ≤ sizeLine; decide), fun l hl0 => ?_⟩⟩
      have s4 : Same H'' (upd H3 l (.lst [.int z, .int 0])) := s3.trans (same_upd hl0)
      refine ⟨s1.trans s4, ds ++ [l], by simp, fun d hd' => ?_, by simp [hd]⟩
      rcases List.mem_append.mp hd' with h | h
      · exact ⟨(hds d h).1.same s4, (hds d h).2⟩
      · rw [List.mem_singleton.mp h]
        exact ⟨⟨_, _, upd_same⟩, (s1.trans s3).free hl0⟩
    · obtain ⟨s1, ds, rfl, hds, hd⟩ := hp
      refine ⟨Nat.le_refl _, fun D hD => ?_⟩
      refine q D ds _ (s1.trans (same_upd hD)) upd_same (fun d h => ⟨(hds d h).1.same (same_upd hD), (hds d h).2⟩) (s1.free hD) (by omega) fun h => ?_
      obtain ⟨_, _, e⟩ := (hds D h).1
      rw [hD] at e
      cases e
theorem scHead : FnScope ["_law_dice", "_law_parts"] ["_law_dice"] (defScope sHead) := ⟨rfl, rfl, rfl, by decide +kernel, rfl, by decide +kernel, by decide +kernel⟩
theorem parts_at {i : Int} (h0 : 0 ≤ i) (h1 : i < 5) : ∃ x ∈ parts5, atI (parts5.map V.str) i = some (.str x) := by
  obtain ⟨j, rfl⟩ := Int.eq_ofNat_of_zero_le h0
  have hj : j < parts5.length := by show j < 5; omega
  exact ⟨parts5[j], List.getElem_mem hj, atI_nat (by rw [List.getElem?_map, List.getElem?_eq_getElem hj]; rfl)⟩
theorem ok_head {f f1 : Addr} {fd fd1 : FuncData} (F : Fun K "_law_head" "_law_head" sHead f fd) (G : Glb mg) (C1 : Cal P w K mg base 2 "_law_roll" f1 fd1 ["_law_dice", "_law_many"] spRoll) : FnOk P w K mg base CX0 3 f fd ["_law_dice"] spHead := by
  refine F.ok scHead (fun vs H Q E h => ?_) (fun cdv A outer s H vs Q E hr h => ?_)
  · obtain ⟨d, rfl, _⟩ := h
    rfl
  · obtain ⟨d, rfl, hd, q⟩ := h
    refine ⟨_, pss_cons (ps_set (i := 1) scHead.nd rfl (Or.inr rfl) (pe_lst (pa_cons pe_str (pa_cons pe_str (pa_cons pe_str (pa_cons pe_str (pa_cons pe_str pa_nil)))))))
      (pss_one (ps_ret (pe_callTy call_tuple_of (by rfl) G.tuple PyProof.Rows.boot_tuple (pa_cons (pe_lc rfl (by rfl) (by show (["_law_turn", "_law_dice", "_law_parts"] : List Str).Nodup; decide +kernel)
        (pi_range1 (by rfl) G.range (pa_cons (pe_fn C1 hr (by rfl) (pa_cons (pv 0) (pa_cons pe_int pa_nil))) pa_nil))
        (fun _ _ _ _ => pf_nil) (fun _ _ _ _ => pe_ix (r := rIxL K) ix_list (pv 2) (pe_op op_mul (pe_fn C1 hr (by rfl) (pa_cons (pv 1) (pa_cons pe_int pa_nil))) (pe_fn C1 hr (by rfl) (pa_cons (pv 1) (pa_cons pe_int pa_nil)))) (fun _ _ => rfl))) pa_nil)))), ?_⟩
    refine ⟨by decide, fun pl hpl => ?_⟩
    have k0 : Kept d H (upd H pl (.lst (parts5.map V.str))) := .of (same_upd hpl)
    have nd : pl ≠ d := fun e => by obtain ⟨_, _, z⟩ := hd; rw [← e, hpl] at z; cases z
    refine ⟨_, rfl, d, 5, rfl, hd.same (same_upd hpl), by decide, by decide, fun r H1 r0 r5 hd1 k1 => ⟨_, rfl, by omega, by omega, ?_⟩⟩
    have h1 : H1 pl = some (.lst (parts5.map V.str)) := k1 pl _ nd upd_same
    refine lc_by r.toNat (fun i ys H' => Kept d H1 H' ∧ DiceAt H' d ∧ ∃ ps : List Str, ys = ps.map V.str ∧ ps.length = i ∧ ∀ x ∈ ps, x ∈ parts5) ⟨Kept.refl _ _, hd1, [], rfl, rfl, by simp⟩ (fun i ys H' hi hp => ?_) (Nat.le_trans (show r.toNat ≤ 5 by omega) (by decide)) (fun i ys H' hi hp => hi) (fun i ys H' y H'' hi hp hy => ?_) (fun ys H' hp => ?_)
    · obtain ⟨_, _, ps, rfl, e, _⟩ := hp
      rw [List.length_map]
      omega
    · obtain ⟨k2, hd2, ps, rfl, e, hps⟩ := hp
      obtain ⟨rfl, rfl⟩ := hy
      refine alw ⟨_, rfl, _, rfl, d, 5, rfl, hd2, by decide, by decide, fun r1 H3 a0 a5 hd3 k3 => ⟨_, rfl, d, 2, rfl, hd3, by decide, by decide, fun r2 H4 b0 b2 hd4 k4 => ?_⟩⟩
      have hr : r1 * r2 = 0 ∨ r1 * r2 = r1 := by
        have : r2 = 0 ∨ r2 = 1 := by omega
        rcases this with h | h <;> subst h <;> simp
      obtain ⟨x, hx, ex⟩ := parts_at (i := r1 * r2) (by omega) (by omega)
      refine ⟨_, _, rfl, rfl, .inl ⟨by omega, by omega⟩, pl, _, _, _, rfl, rfl, SqL.of (k4 pl _ nd (k3 pl _ nd (k2 pl _ nd h1))), ex, ?_⟩
      refine ⟨(k2.trans k3).trans k4, hd4, ps ++ [x], by simp, by simp [e], fun z hz => ?_⟩
      rcases List.mem_append.mp hz with h | h
      · exact hps z h
      · rw [List.mem_singleton.mp h]; exact hx
    · obtain ⟨k2, hd2, ps, rfl, e, hps⟩ := hp
      refine ⟨Nat.le_refl _, fun D hD => ⟨D, _, rfl, .inl ⟨SqL.of upd_same, fun l hl => ?_⟩⟩⟩
      have s3 : Same H' (upd (upd H' D (.lst (ps.map V.str))) l (.tup (ps.map V.str))) := (same_upd hD).trans (same_upd hl)
      exact q l ps _ ⟨by omega, hps⟩ upd_same (hd2.same s3) ((k0.trans (k1.trans k2)).trans (.of s3))
end
end K10
end
section
set_option Elab.async false
set_option linter.all false
set_option maxRecDepth 100000
set_option maxHeartbeats 4000000
namespace K10
open PySem L2
noncomputable def words9 : List Str := ["BadName", "BadSides", "BadNumber", "BadLetter", "NoHouse", "NoWay", "NoLetter", "Gone", "BadStory"]
noncomputable def flags9 (j : Nat) : List Bool := [decide (0 = j), decide (1 = j), decide (2 = j), decide (3 = j), decide (4 = j), decide (5 = j), decide (6 = j), decide (7 = j), decide (8 = j)]
theorem flags_sum : ∀ j, j < 9 → ((flags9 j).map fun b => if b = true then (1 : Int) else 0).sum = 1 := by decide
theorem flags_at : ∀ j, j < 9 → (flags9 j)[j]? = some true ∧ ∀ m, m < j → (flags9 j)[m]? = some false := by decide
structure Nine (K : PySem.W.Frag) (mg : Str → Option Value) (c0 c1 c2 c3 c4 c5 c6 c7 c8 W : Addr) : Prop where
  m0 : mg "BadName" = some (.ref c0)
  m1 : mg "BadSides" = some (.ref c1)
  m2 : mg "BadNumber" = some (.ref c2)
  m3 : mg "BadLetter" = some (.ref c3)
  m4 : mg "NoHouse" = some (.ref c4)
  m5 : mg "NoWay" = some (.ref c5)
  m6 : mg "NoLetter" = some (.ref c6)
  m7 : mg "Gone" = some (.ref c7)
  m8 : mg "BadStory" = some (.ref c8)
  mW : mg "WantError" = some (.ref W)
  hB : PySem.W.mroIn K W (.type "BaseException") = some true
  ve : mg "ValueError" = none
  sum : mg "sum" = none
structure Flg (K : PySem.W.Frag) (cs : List Addr) (W C : Addr) (j : Nat) : Prop where
  lt : j < 9
  is : ExcIs K C
  up : PySem.W.kitCls K (.ref C) (.ref W) = some true
  fl : ∀ i c, cs[i]? = some c → PySem.W.kitOne K (.ref C) (.ref c) = some (decide (i = j))
  ve : PySem.W.kitOne K (.ref C) (.type "ValueError") = some true
noncomputable def spWord (K : PySem.W.Frag) (cs : List Addr) (W : Addr) : Sp := fun vs H Q _ => ∃ (a : Addr) (o : Obj) (C : Addr) (j : Nat) (wrd : Str), vs = [.ref a] ∧ H a = some (excH o) ∧ ExcObj o C ∧ Flg K cs W C j ∧ words9[j]? = some wrd ∧
  ∀ (t : Addr) (H' : Hp), Same H H' → H' t = some (.tup [.str "refused", .str wrd]) → Q (.ref t) H'
section
variable {P : Program} {w : World} {K : PySem.W.Frag} {mg : Str → Option Value} {base : Heap}
theorem scWord : FnScope ["_law_e", "_law_flags", "_law_words"] ["_law_e"] (defScope sWord) := ⟨rfl, rfl, rfl, by decide +kernel, rfl, by decide +kernel, by decide +kernel⟩
theorem ok_word {f c0 c1 c2 c3 c4 c5 c6 c7 c8 W : Addr} {fd : FuncData} (F : Fun K "_law_word" "_law_word" sWord f fd) (G : Glb mg) (N : Nine K mg c0 c1 c2 c3 c4 c5 c6 c7 c8 W) : FnH P w K mg base 1 f fd ["_law_e"] (spWord K [c0, c1, c2, c3, c4, c5, c6, c7, c8] W) := by
  refine fnh_of F scWord (fun vs H Q E h => ?_) (fun cdv A outer s H vs Q sob hu h => ?_)
  · obtain ⟨a, o, C, j, wrd, rfl, _⟩ := h
    rfl
  · obtain ⟨a, o, C, j, wrd, rfl, ha, eo, fl, hw, k⟩ := h
    refine ⟨_, pss_cons (ps_set (i := 1) scWord.nd rfl (Or.inl rfl) (pe_lst (pa_cons (pe_callB call_isiE (by rfl) G.isi PyProof.Rows.boot_isinstance (pa_cons (pv 0) (pa_cons (pe_glob (v := .ref c0) (by rfl) N.m0 rfl) pa_nil))) (pa_cons (pe_callB call_isiE (by rfl) G.isi PyProof.Rows.boot_isinstance (pa_cons (pv 0) (pa_cons (pe_glob (v := .ref c1) (by rfl) N.m1 rfl) pa_nil))) (pa_cons (pe_callB call_isiE (by rfl) G.isi PyProof.Rows.boot_isinstance (pa_cons (pv 0) (pa_cons (pe_glob (v := .ref c2) (by rfl) N.m2 rfl) pa_nil))) (pa_cons (pe_callB call_isiE (by rfl) G.isi PyProof.Rows.boot_isinstance (pa_cons (pv 0) (pa_cons (pe_glob (v := .ref c3) (by rfl) N.m3 rfl) pa_nil))) pa_nil))))))
      (pss_cons (ps_set (i := 1) scWord.nd rfl (Or.inl rfl) (pe_op op_cat (pv 1) (pe_lst (pa_cons (pe_callB call_isiE (by rfl) G.isi PyProof.Rows.boot_isinstance (pa_cons (pv 0) (pa_cons (pe_glob (v := .ref c4) (by rfl) N.m4 rfl) pa_nil))) (pa_cons (pe_callB call_isiE (by rfl) G.isi PyProof.Rows.boot_isinstance (pa_cons (pv 0) (pa_cons (pe_glob (v := .ref c5) (by rfl) N.m5 rfl) pa_nil))) (pa_cons (pe_callB call_isiE (by rfl) G.isi PyProof.Rows.boot_isinstance (pa_cons (pv 0) (pa_cons (pe_glob (v := .ref c6) (by rfl) N.m6 rfl) pa_nil))) (pa_cons (pe_callB call_isiE (by rfl) G.isi PyProof.Rows.boot_isinstance (pa_cons (pv 0) (pa_cons (pe_glob (v := .ref c7) (by rfl) N.m7 rfl) pa_nil))) pa_nil)))))))
      (pss_cons (ps_expr (pe_bm PySem.F.plainAttrs_list PySem.F.slot_list_append PySem.F.type_list_append mt_append (pv 1) (pa_cons (pe_callB call_isiE (by rfl) G.isi PyProof.Rows.boot_isinstance (pa_cons (pv 0) (pa_cons (pe_glob (v := .ref c8) (by rfl) N.m8 rfl) pa_nil))) pa_nil)))
      (pss_cons (ps_set (i := 2) scWord.nd rfl (Or.inl rfl) (pe_lst (pa_cons pe_str (pa_cons pe_str (pa_cons pe_str (pa_cons pe_str (pa_cons pe_str (pa_cons pe_str (pa_cons pe_str (pa_cons pe_str (pa_cons pe_str pa_nil)))))))))))
      (pss_cons (ps_if (PW.pt (pw_or (pt_cmpR op_ne (pe_callB (call_sumH sob) (by rfl) N.sum PyProof.Rows.boot_sum (pa_cons (pe_lcH sob (by rfl) (by show (["_law_flag", "_law_e", "_law_flags", "_law_words"] : List Str).Nodup; decide +kernel) (pv 1) (fun _ _ _ _ => pf_nil)
          (fun _ _ _ _ => pe_callTy call_int1 (by rfl) G.int PyProof.Rows.boot_int (pa_cons (pv 0) pa_nil))) pa_nil)) pe_int (nomark _))
          (pw_or1 (pt_not (pt_val (pe_callB call_isiE (by rfl) G.isi PyProof.Rows.boot_isinstance (pa_cons (pv 0) (pa_cons (pe_bltn (v := .ty "ValueError") (by rfl) N.ve PyProof.Rows.Boot.«ValueError» rfl) pa_nil)))))))) (pss_one ps_never) pss_nil)
      (pss_one (ps_ret (pe_tup (pa_cons pe_str (pa_cons (pe_ix ix_list (pv 2) (pe_bm PySem.F.plainAttrs_list PySem.F.slot_list_index PySem.F.type_list_index mt_indexT (pv 1) (pa_cons pe_bl pa_nil)) (fun _ _ => rfl)) pa_nil))))))))), ?_⟩
    have HA := ha
    refine ⟨_, rfl, a, o, C, .ref c0, .ref c0, _, rfl, HA, eo, fl.is, fun _ z => z, fl.fl 0 c0 rfl, _, rfl, a, o, C, .ref c1, .ref c1, _, rfl, HA, eo, fl.is, fun _ z => z, fl.fl 1 c1 rfl, _, rfl, a, o, C, .ref c2, .ref c2, _, rfl, HA, eo, fl.is, fun _ z => z, fl.fl 2 c2 rfl, _, rfl, a, o, C, .ref c3, .ref c3, _, rfl, HA, eo, fl.is, fun _ z => z, fl.fl 3 c3 rfl, (by show 4 ≤ sizeLine; decide), fun l1 h1 => ?_⟩
    have s1 := same_upd (o := .lst [.bl (decide (0 = j)), .bl (decide (1 = j)), .bl (decide (2 = j)), .bl (decide (3 = j))]) h1
    have HA := s1 _ _ ha
    refine ⟨_, rfl, _, rfl, a, o, C, .ref c4, .ref c4, _, rfl, HA, eo, fl.is, fun _ z => z, fl.fl 4 c4 rfl, _, rfl, a, o, C, .ref c5, .ref c5, _, rfl, HA, eo, fl.is, fun _ z => z, fl.fl 5 c5 rfl, _, rfl, a, o, C, .ref c6, .ref c6, _, rfl, HA, eo, fl.is, fun _ z => z, fl.fl 6 c6 rfl, _, rfl, a, o, C, .ref c7, .ref c7, _, rfl, HA, eo, fl.is, fun _ z => z, fl.fl 7 c7 rfl, (by show 4 ≤ sizeLine; decide), fun l2 h2 => ?_⟩
    have s2 := same_upd (o := .lst [.bl (decide (4 = j)), .bl (decide (5 = j)), .bl (decide (6 = j)), .bl (decide (7 = j))]) h2
    refine ⟨l1, l2, _, _, rfl, rfl, s2 _ _ upd_same, upd_same, (by show 8 ≤ sizeLine; decide), fun l3 h3 => ?_⟩
    have s3 := same_upd (o := .lst ([.bl (decide (0 = j)), .bl (decide (1 = j)), .bl (decide (2 = j)), .bl (decide (3 = j))] ++ [.bl (decide (4 = j)), .bl (decide (5 = j)), .bl (decide (6 = j)), .bl (decide (7 = j))])) h3
    have s13 := (s1.trans s2).trans s3
    have HA := s13 _ _ ha
    have f3 : H l3 = none := (s1.trans s2).free h3
    refine ⟨_, rfl, .inl ⟨rfl, _, SqL.of upd_same⟩, _, rfl, a, o, C, .ref c8, .ref c8, _, rfl, HA, eo, fl.is, fun _ z => z, fl.fl 8 c8 rfl, l3, _, _, rfl, rfl, upd_same, (by show 8 < sizeLine; decide), ?_⟩
    rw [upd_upd]
    generalize hHH : upd (upd (upd H l1 _) l2 _) l3 _ = H4
    have h4 : H4 l3 = some (.lst ((flags9 j).map V.bl)) := by rw [← hHH]; exact upd_same
    have s4 : Same H H4 := fun b ob e => by rw [← hHH, upd_ne (ne_of_none e f3)]; exact (s1.trans s2) _ _ e
    refine ⟨(by show 9 ≤ sizeLine; decide), fun l4 h4n => ?_⟩
    have s5 := same_upd (o := .lst (words9.map V.str)) h4n
    have HA := (s4.trans s5) _ _ ha
    have h5 := s5 _ _ h4
    have hw5 : upd H4 l4 (.lst (words9.map V.str)) l4 = some (.lst (words9.map V.str)) := upd_same
    have s05 := s4.trans s5
    clear hHH
    refine ⟨_, rfl, l3, rfl, ⟨_, SqL.of h5⟩, lc_by 9 (fun i ys H' => H' = upd H4 l4 (.lst (words9.map V.str)) ∧ ys = ((flags9 j).take i).map fun b => V.int (if b = true then 1 else 0)) ⟨rfl, rfl⟩ (fun i ys H' hi hp => ?_) (by decide) (fun i ys H' hi hp => ?_) (fun i ys H' y H'' hi hp hy => ?_) (fun ys H' hp => ?_)⟩
    · rw [hp.2, List.length_map, List.length_take]
      omega
    · have hi9 : i < (flags9 j).length := hi
      rw [hp.1]
      exact ⟨_, V.bl (flags9 j)[i], SqL.of h5, by rw [List.getElem?_map, List.getElem?_eq_getElem hi9]; rfl⟩
    · obtain ⟨rfl, rfl⟩ := hp
      obtain ⟨rfl, hy⟩ := hy
      have hi9 : i < (flags9 j).length := hi
      have hy := hy _ (SqL.of h5)
      rw [List.getElem?_map, List.getElem?_eq_getElem hi9] at hy
      cases hy
      refine alw ⟨_, rfl, .inr ⟨(flags9 j)[i], rfl, rfl, ?_⟩⟩
      rw [List.take_add_one, List.getElem?_eq_getElem hi9, List.map_append]
      rfl
    · obtain ⟨rfl, rfl⟩ := hp
      refine ⟨⟨_, SqL.of h5, Nat.le_refl _⟩, fun D hD => ?_⟩
      have s6 := same_upd (o := .lst (((flags9 j).take 9).map fun b => V.int (if b = true then 1 else 0))) hD
      refine ⟨D, (flags9 j).map fun b => if b = true then 1 else 0, rfl, SqL.of (by rw [upd_same, List.map_map]; rfl), rfl, _, rfl, ?_⟩
      refine iteNS (congrArg V.int (flags_sum j fl.lt)) ?_
      refine ⟨_, rfl, a, o, C, .ty "ValueError", .type "ValueError", _, rfl, s6 _ _ HA, eo, fl.is, fun _ z => z, fl.ve, _, rfl, ?_⟩
      refine ⟨_, rfl, _, rfl, .inl ⟨rfl, _, SqL.of (s6 _ _ h5)⟩, l3, flags9 j, j, rfl, rfl, s6 _ _ h5, (flags_at j fl.lt).1, (flags_at j fl.lt).2, (by show 9 ≤ 1000; decide), l4, _, _, .str wrd, rfl, rfl, SqL.of (s6 _ _ hw5), atI_nat (by rw [List.getElem?_map, hw]; rfl), (by show 2 ≤ sizeLine; decide), fun t ht => ?_⟩
      exact k t _ ((s05.trans s6).trans (same_upd ht)) upd_same
theorem scTold : FnScope NTold ["_law_deed"] (defScope sTold) := ⟨rfl, rfl, rfl, by decide +kernel, rfl, by decide +kernel, by decide +kernel⟩
noncomputable def wd9 (K : PySem.W.Frag) (cs : List Addr) (W : Addr) : Addr → Str → Prop := fun C wrd => ∃ j, Flg K cs W C j ∧ words9[j]? = some wrd ∧ j ≠ 7
theorem ok_told {ft fW c0 c1 c2 c3 c4 c5 c6 c7 c8 W : Addr} {fdt fdW : FuncData} (F : Fun K "_law_told" "_law_told" sTold ft fdt) (bT : Binds K fdt ["_law_deed"] []) (G : Glb mg) (N : Nine K mg c0 c1 c2 c3 c4 c5 c6 c7 c8 W)
    (FW : FnH P w K mg base 1 fW fdW ["_law_e"] (spWord K [c0, c1, c2, c3, c4, c5, c6, c7, c8] W)) (mW : mg "_law_word" = some (.ref fW)) (kW : PySem.W.keepIn K (.ref fW) = true) (bW : Binds K fdW ["_law_e"] []) :
    ToldOk P w K mg base 1 ft W fdt (wd9 K [c0, c1, c2, c3, c4, c5, c6, c7, c8] W) := by
  refine ⟨fun kd A outer s H f Q pr hkw hr e0 hD hfn hf0 hpr => ?_⟩
  have KX : K.In s.heap := e0.mod.kin.keeps fun b o e => (e0.bs b o e).1
  refine told_run F scTold rfl rfl rfl (fun cd => by rfl) N.mW N.hB hr e0 (bT s [.ref f] KX rfl) hD hfn hf0 hpr ?_
  rintro cd a C o H2 eo ⟨wrd, ⟨j, fl, hw, j7⟩, q⟩ hn
  have hdp : A.depth + 1 + 3 * 1 + 5 < recursionLimit := by have := hr.dp; omega
  have hun : A.units + 3 + 16 * 1 + 200 < cLine := by have := hr.un; omega
  refine ⟨_, pss_one (ps_ret (pe_op op_catA (pe_callH (ex := a) FW rfl eo hdp hun (by rfl) mW kW bW (pa_cons (pv 1) pa_nil))
    (pe_ifExp (pt_val (pe_callB call_isiE (by rfl) G.isi PyProof.Rows.boot_isinstance (pa_cons (pv 1) (pa_cons (pe_glob (v := .ref c7) (by rfl) N.m7 rfl) pa_nil)))) pe_no (pe_tup pa_nil)))), ?_⟩
  refine ⟨_, rfl, upd_same, a, o, C, j, wrd, rfl, upd_same, eo, fl, hw, fun t H' sm ht => ?_⟩
  refine ⟨_, rfl, a, o, C, .ref c7, .ref c7, _, rfl, sm _ _ upd_same, eo, fl.is, fun _ z => z, fl.fl 7 c7 rfl, _, rfl, ?_⟩
  rw [decide_eq_false (Ne.symm j7)]
  refine iteF ⟨Nat.zero_le _, fun t0 ht0 => ?_⟩
  have s0 : Same H2 (upd H2 a (excH o)) := same_upd hn
  have s1 := same_upd (o := .tup []) ht0
  refine ⟨t, t0, _, _, rfl, rfl, SqT.of (s1 _ _ ht), SqT.of upd_same, (by show 2 ≤ sizeLine; decide), (fun z => by cases z), fun _ _ => ?_, fun _ z => absurd rfl z⟩
  exact q t _ ((s0.trans sm).trans s1) (s1 _ _ ht)
end
end K10
end
section
set_option Elab.async false
set_option linter.all false
set_option maxRecDepth 100000
set_option maxHeartbeats 4000000
namespace K10
open PySem L2
structure Rz (K : PySem.W.Frag) (mg : Str → Option Value) (x : Str) (C : Addr) : Prop where
  ec : ExcC K C
  mg : mg x = some (.ref C)
theorem nameV_mono {K : PySem.W.Frag} {H H' : Hp} {v : V} {b : Bool} (h : NameV K H v b) (e : Same H H') : NameV K H' v b := by
  rcases h with ⟨a, xs, bs, rfl, h1, h2, h3, h4, h5⟩ | ⟨k, h1, h2, h3⟩
  · exact .inl ⟨a, xs, bs, rfl, e _ _ h1, h2, h3, fun i x b' q1 q2 => partV_mono (h4 i x b' q1 q2) e, h5⟩
  · exact .inr ⟨k, kindV_mono h1 e, h2, h3⟩
noncomputable def BegV (K : PySem.W.Frag) (H : Hp) (v : V) (b : Bool) : Prop := ∃ b1, NameV K H v b1 ∧ ((b1 = true ∧ b = true) ∨ (b1 = false ∧ ((∃ (a : Addr) (xs : List V), v = .ref a ∧ H a = some (.tup xs) ∧ xs.length ≤ 1000 ∧ b = decide (xs.length = 0)) ∨ ∃ k, KindV K H v k ∧ isTup k = false ∧ b = false)))
theorem begV_mono {K : PySem.W.Frag} {H H' : Hp} {v : V} {b : Bool} (h : BegV K H v b) (e : Same H H') : BegV K H' v b := by
  obtain ⟨b1, h1, h2⟩ := h
  refine ⟨b1, nameV_mono h1 e, ?_⟩
  rcases h2 with h2 | ⟨h2, h3⟩
  · exact .inl h2
  · refine .inr ⟨h2, ?_⟩
    rcases h3 with ⟨a, xs, rfl, q1, q2, q3⟩ | ⟨k, q1, q2, q3⟩
    · exact .inl ⟨a, xs, rfl, e _ _ q1, q2, q3⟩
    · exact .inr ⟨k, kindV_mono q1 e, q2, q3⟩
noncomputable def spBeg (K : PySem.W.Frag) : Sp := fun vs H Q _ => ∃ v b, vs = [v] ∧ BegV K H v b ∧ ∀ H', Same H H' → Q (.bl b) H'
noncomputable def spNeedBX (K : PySem.W.Frag) (Nm : Addr) : Sp := fun vs H Q E => ∃ v b, vs = [v] ∧ BegV K H v b ∧ (b = true → ∀ H', Same H H' → Q .non H') ∧ (b = false → ∀ H', Same H H' → E (.ref Nm) none H')
noncomputable def spNeedNX (K : PySem.W.Frag) (Nm : Addr) : Sp := fun vs H Q E => ∃ v b, vs = [v] ∧ NameV K H v b ∧ (b = true → ∀ H', Same H H' → Q .non H') ∧ (b = false → ∀ H', Same H H' → E (.ref Nm) none H')
noncomputable def spAny : Sp := fun vs H Q _ => ∃ d : Addr, vs = [.ref d] ∧ DiceAt H d ∧ Told d H NameOk Q
section
variable {P : Program} {w : World} {K : PySem.W.Frag} {mg : Str → Option Value} {base : Heap}
theorem scBeg : FnScope ["thing"] ["thing"] (defScope sBeg) := ⟨rfl, rfl, rfl, by decide +kernel, rfl, by decide +kernel, by decide +kernel⟩
theorem ok_beg {f f1 : Addr} {fd fd1 : FuncData} (F : Fun K "is_beginning" "is_beginning" sBeg f fd) (G : Glb mg) (C1 : Cal P w K mg base 2 "is_name" f1 fd1 ["thing"] (spName K)) : FnOk P w K mg base CX0 3 f fd ["thing"] (spBeg K) := by
  refine F.ok scBeg (fun vs H Q E h => ?_) (fun cdv A outer s H vs Q E hr h => ?_)
  · obtain ⟨v, b, rfl, _⟩ := h
    rfl
  · obtain ⟨v, b, rfl, ⟨b1, hn, hb⟩, q⟩ := h
    refine ⟨_, pss_one (ps_ret (pe_or (pe_fn C1 hr (by rfl) (pa_cons (pv 0) pa_nil)) (pe_one (pe_and (pe_callB (call_isiK (kit_tuple _)) (by rfl) G.isi PyProof.Rows.boot_isinstance (pa_cons (pv 0) (pa_cons (pe_bltn (v := .ty "tuple") (by rfl) G.tuple PyProof.Rows.boot_tuple rfl) pa_nil)))
      (pe_one (pe_cmpR op_eq (pe_callB call_len (by rfl) G.len PySem.boot_len (pa_cons (pv 0) pa_nil)) pe_int (nomark _))))))), ?_⟩
    refine ⟨_, rfl, v, b1, rfl, hn, fun H1 s1 => ⟨_, rfl, ?_⟩⟩
    rcases hb with ⟨rfl, rfl⟩ | ⟨rfl, hb⟩
    · exact q H1 s1
    · rcases hb with ⟨a, xs, rfl, ha, hz, rfl⟩ | ⟨k, hk, hs, rfl⟩
      · have ha1 := s1 _ _ ha
        refine ⟨_, rfl, _, .tup, rfl, kn_tup ha1, _, rfl, ⟨_, rfl, _, xs.length, rfl, .inr ⟨xs, SqT.of ha1, rfl⟩, rfl, ?_⟩⟩
        have : decide (V.int ((xs.length : Nat) : Int) = V.int 0) = decide (xs.length = 0) := decide_eq_decide.mpr ⟨fun z => by have := V.int.inj z; omega, fun z => by rw [z]; rfl⟩
        rw [this]
        exact q H1 s1
      · refine ⟨_, rfl, _, k, rfl, kindV_mono hk s1, _, rfl, ?_⟩
        rw [hs]
        exact q H1 s1
theorem scNeedB : FnScope ["thing"] ["thing"] (defScope sNeedB) := ⟨rfl, rfl, rfl, by decide +kernel, rfl, by decide +kernel, by decide +kernel⟩
theorem okx_needB {f f1 Nm : Addr} {fd fd1 : FuncData} (F : Fun K "need_beginning" "need_beginning" sNeedB f fd) (R : Rz K mg "BadName" Nm) (C1 : Cal P w K mg base 3 "is_beginning" f1 fd1 ["thing"] (spBeg K)) : FnOk P w K mg base (CXF P w) 4 f fd ["thing"] (spNeedBX K Nm) := by
  refine F.okX scNeedB (fun vs H Q E h => ?_) (fun cdv A outer s H vs Q E hr h => ?_)
  · obtain ⟨v, b, rfl, _⟩ := h
    rfl
  · obtain ⟨v, b, rfl, hk, q1, q2⟩ := h
    refine ⟨_, pss_one (ps_if (pt_not (pt_val (pe_fn C1 hr (by rfl) (pa_cons (pv 0) pa_nil)))) (pss_one (ps_raise flies_cxOf rfl R.ec (by rfl) R.mg (pa_cons pe_str pa_nil))) pss_nil), ?_⟩
    refine ⟨_, rfl, v, b, rfl, hk, fun H1 s1 => ⟨_, rfl, ?_⟩⟩
    cases b with
    | true => exact q1 rfl H1 s1
    | false =>
      refine ⟨?_, q2 rfl H1 s1⟩
      show 1 ≤ sizeLine
      decide
theorem scNeedN : FnScope ["thing"] ["thing"] (defScope sNeedN) := ⟨rfl, rfl, rfl, by decide +kernel, rfl, by decide +kernel, by decide +kernel⟩
theorem okx_needN {f f1 Nm : Addr} {fd fd1 : FuncData} (F : Fun K "need_name" "need_name" sNeedN f fd) (R : Rz K mg "BadName" Nm) (C1 : Cal P w K mg base 2 "is_name" f1 fd1 ["thing"] (spName K)) : FnOk P w K mg base (CXF P w) 3 f fd ["thing"] (spNeedNX K Nm) := by
  refine F.okX scNeedN (fun vs H Q E h => ?_) (fun cdv A outer s H vs Q E hr h => ?_)
  · obtain ⟨v, b, rfl, _⟩ := h
    rfl
  · obtain ⟨v, b, rfl, hk, q1, q2⟩ := h
    refine ⟨_, pss_one (ps_if (pt_not (pt_val (pe_fn C1 hr (by rfl) (pa_cons (pv 0) pa_nil)))) (pss_one (ps_raise flies_cxOf rfl R.ec (by rfl) R.mg (pa_cons pe_str pa_nil))) pss_nil), ?_⟩
    refine ⟨_, rfl, v, b, rfl, hk, fun H1 s1 => ⟨_, rfl, ?_⟩⟩
    cases b with
    | true => exact q1 rfl H1 s1
    | false =>
      refine ⟨?_, q2 rfl H1 s1⟩
      show 1 ≤ sizeLine
      decide
theorem scAny : FnScope ["_law_dice"] ["_law_dice"] (defScope sAny) := ⟨rfl, rfl, rfl, by decide +kernel, rfl, by decide +kernel, by decide +kernel⟩
theorem ok_any {f f1 f2 : Addr} {fd fd1 fd2 : FuncData} (F : Fun K "_law_any_name" "_law_any_name" sAny f fd) (C1 : Cal P w K mg base 2 "_law_roll" f1 fd1 ["_law_dice", "_law_many"] spRoll) (C2 : Cal P w K mg base 3 "_law_head" f2 fd2 ["_law_dice"] spHead) :
    FnOk P w K mg base CX0 4 f fd ["_law_dice"] spAny := by
  refine F.ok scAny (fun vs H Q E h => ?_) (fun cdv A outer s H vs Q E hr h => ?_)
  · obtain ⟨d, rfl, _⟩ := h
    rfl
  · obtain ⟨d, rfl, hd, q⟩ := h
    refine ⟨_, pss_one (ps_ret (pe_ifExp (pt_cmpR op_eq (pe_fn C1 (hr.mono (by decide)) (by rfl) (pa_cons (pv 0) (pa_cons pe_int pa_nil))) pe_int (nomark _)) (pe_tup (pa_cons pe_str pa_nil))
      (pe_op op_catA (pe_fn C2 hr (by rfl) (pa_cons (pv 0) pa_nil)) (pe_tup (pa_cons (pe_ix ix_list (pe_lst (pa_cons pe_str (pa_cons pe_str pa_nil))) (pe_fn C1 (hr.mono (by decide)) (by rfl) (pa_cons (pv 0) (pa_cons pe_int pa_nil))) (fun _ _ => rfl)) pa_nil))))), ?_⟩
    refine ⟨_, rfl, d, 3, rfl, hd, by decide, by decide, fun r H1 r0 r3 hd1 k1 => ⟨rfl, _, rfl, ?_⟩⟩
    refine ite2 (fun _ => ?_) (fun _ => ?_)
    · refine ⟨by decide, fun p hp => ?_⟩
      exact q p ["a"] _ ⟨by decide, by decide, by decide +kernel⟩ upd_same (hd1.same (same_upd hp)) (k1.trans (.of (same_upd hp)))
    · refine ⟨_, rfl, d, rfl, hd1, fun p ps H2 ho hp hd2 k2 => ⟨by decide, fun l hl => ⟨_, rfl, d, 2, rfl, hd2.same (same_upd hl), by decide, by decide, fun r2 H3 a0 a2 hd3 k3 => ?_⟩⟩⟩
      have nl : l ≠ d := fun e => by obtain ⟨_, _, z⟩ := hd2; rw [← e, hl] at z; cases z
      have np : p ≠ d := fun e => by obtain ⟨_, _, z⟩ := hd2; rw [← e, hp] at z; cases z
      have hl3 : H3 l = some (.lst [.str "a", .str "b"]) := k3 l _ nl upd_same
      have hp3 : H3 p = some (.tup (ps.map V.str)) := k3 p _ np ((same_upd hl) _ _ hp)
      have kk : Kept d H H3 := (k1.trans k2).trans ((Kept.of (same_upd hl)).trans k3)
      obtain ⟨x, hx, ex⟩ : ∃ x ∈ parts5, atI ([.str "a", .str "b"] : List V) r2 = some (.str x) := by
        have : r2 = 0 ∨ r2 = 1 := by omega
        rcases this with h | h
        · subst h; exact ⟨"a", by decide +kernel, rfl⟩
        · subst h; exact ⟨"b", by decide +kernel, rfl⟩
      refine ⟨l, _, r2, .str x, rfl, rfl, SqL.of hl3, ex, (by show 1 ≤ sizeLine; decide), fun t ht => ?_⟩
      have s4 : Same H3 (upd H3 t (.tup [.str x])) := same_upd ht
      have hlen : ps.length ≤ 4 := ho.1
      refine ⟨p, t, ps.map V.str, [.str x], rfl, rfl, SqT.of (s4 _ _ hp3), SqT.of upd_same, ?_, fun h0 => ?_, fun _ h => (by cases h), fun _ _ t2 ht2 => ?_⟩
      · rw [List.length_map]
        exact Nat.le_trans (show ps.length + 1 ≤ 5 by omega) (by decide)
      · exact q t [x] _ ⟨by simp, by simp, by simpa using hx⟩ upd_same (hd3.same s4) (kk.trans (.of s4))
      · refine q t2 (ps ++ [x]) _ ⟨by simp, by simp; omega, fun z hz => ?_⟩ (by rw [upd_same, List.map_append]; rfl) (hd3.same (s4.trans (same_upd ht2))) (kk.trans (.of (s4.trans (same_upd ht2))))
        rcases List.mem_append.mp hz with h | h
        · exact ho.2 z h
        · rw [List.mem_singleton.mp h]; exact hx
end
end K10
end
section
set_option Elab.async false
set_option linter.all false
set_option maxRecDepth 100000
set_option maxHeartbeats 400000
namespace K10
open PySem L2
noncomputable abbrev Ref (Nm : Addr) (H : Hp) (E : XK) : Prop := ∀ H', Same H H' → E (.ref Nm) none H'
noncomputable def spBegins (K : PySem.W.Frag) (Nm : Addr) : Sp := fun vs H Q E => ∃ v u bn, vs = [v, u] ∧ NameV K H v bn ∧ (bn = false → Ref Nm H E) ∧ (bn = true → ∃ bb, BegV K H u bb ∧ (bb = false → Ref Nm H E) ∧
  (bb = true → ∃ (p q : Addr) (ps qs : List Str), v = .ref p ∧ u = .ref q ∧ H p = some (.tup (ps.map V.str)) ∧ H q = some (.tup (qs.map V.str)) ∧ ∀ H', Same H H' → Q (.bl (decide (ps.take qs.length = qs))) H'))
noncomputable def textOf (qs : List Str) : Str := "/" ++ Txt.join "/" qs
noncomputable def spText (K : PySem.W.Frag) (Nm : Addr) : Sp := fun vs H Q E => ∃ v bb, vs = [v] ∧ BegV K H v bb ∧ (bb = false → Ref Nm H E) ∧
  (bb = true → ∃ (q : Addr) (qs : List Str), v = .ref q ∧ H q = some (.tup (qs.map V.str)) ∧ (qs.map (fun x => x.length)).sum + qs.length * ("/" : Str).length ≤ 16777216 ∧ ("/" : Str).length + (Txt.join "/" qs).length ≤ sizeLine ∧ ∀ H', Same H H' → Q (.str (textOf qs)) H')
noncomputable def nameB (ps : List Str) : Bool := (decide ((1 : Int) ≤ ps.length) && decide ((ps.length : Int) ≤ 5)) && ps.all partB
noncomputable def readB (x : Str) : Option (List Str) := if Txt.slice x none (some 1) = "/" then (if x = "/" then some [] else if nameB (Txt.split (Txt.slice x (some 1) none) "/") = true then some (Txt.split (Txt.slice x (some 1) none) "/") else none) else none
noncomputable def spRead (K : PySem.W.Frag) (Nm : Addr) : Sp := fun vs H Q E => ∃ v, vs = [v] ∧ ((∃ x, v = .str x ∧ x.length ≤ 1000 ∧ (readB x = none → Ref Nm H E) ∧ (∀ ps, readB x = some ps → ∀ (p : Addr) (H' : Hp), Same H H' → H' p = some (.tup (ps.map V.str)) → Q (.ref p) H')) ∨
  ∃ k, KindV K H v k ∧ isStr k = false ∧ Ref Nm H E)
theorem cut_take (ps : List Str) (m : Nat) : cutV (ps.map V.str) none (some (m : Int)) = (ps.take m).map V.str := by
  unfold cutV
  have h0 : HT.sIx (ps.map V.str).length 0 none = 0 := rfl
  have h1 : HT.sIx (ps.map V.str).length (ps.map V.str).length (some (m : Int)) = min m (ps.map V.str).length := by
    show (if (m : Int) < 0 then ((m : Int) + ((ps.map V.str).length : Int)).toNat else min (m : Int).toNat (ps.map V.str).length) = _
    rw [if_neg (by omega)]
    rfl
  rw [h0, h1, List.drop_zero, Nat.sub_zero, List.map_take, List.length_map]
  by_cases h : m ≤ ps.length
  · rw [Nat.min_eq_left h]
  · rw [Nat.min_eq_right (by omega), List.take_of_length_le (by simp), List.take_of_length_le (by simp; omega)]
theorem whole_take (ps : List Str) (m : Nat) (h : HT.sIx (ps.map V.str).length (ps.map V.str).length (some (m : Int)) = (ps.map V.str).length) : ps.take m = ps := by
  have h1 : HT.sIx (ps.map V.str).length (ps.map V.str).length (some (m : Int)) = min m (ps.map V.str).length := by
    show (if (m : Int) < 0 then ((m : Int) + ((ps.map V.str).length : Int)).toNat else min (m : Int).toNat (ps.map V.str).length) = _
    rw [if_neg (by omega)]
    rfl
  rw [h1, List.length_map] at h
  exact List.take_of_length_le (by omega)
section
variable {P : Program} {w : World} {K : PySem.W.Frag} {mg : Str → Option Value} {base : Heap}
theorem scBegins : FnScope ["name", "beginning"] ["name", "beginning"] (defScope sBegins) := ⟨rfl, rfl, rfl, by decide +kernel, rfl, by decide +kernel, by decide +kernel⟩
theorem okx_begins {f f1 f2 Nm : Addr} {fd fd1 fd2 : FuncData} (F : Fun K "begins" "begins" sBegins f fd) (G : Glb mg) (C1 : CalX P w K mg base 3 "need_name" f1 fd1 ["thing"] (spNeedNX K Nm)) (C2 : CalX P w K mg base 4 "need_beginning" f2 fd2 ["thing"] (spNeedBX K Nm)) :
    FnOk P w K mg base (CXF P w) 5 f fd ["name", "beginning"] (spBegins K Nm) := by
  refine F.okX scBegins (fun vs H Q E h => ?_) (fun cdv A outer s H vs Q E hr h => ?_)
  · obtain ⟨v, u, bn, rfl, _⟩ := h
    rfl
  · obtain ⟨v, u, bn, rfl, hn, q1, q2⟩ := h
    refine ⟨_, pss_cons (ps_expr (pe_fnX C1 (hr.mono (by decide)) (by rfl) flies_cxOf (pa_cons (pv 0) pa_nil))) (pss_cons (ps_expr (pe_fnX C2 hr (by rfl) flies_cxOf (pa_cons (pv 1) pa_nil)))
      (pss_one (ps_ret (pe_cmpR (op_eqC (n := 1) (units_of hr (by decide))) (pe_slice sl_tupA (pv 0) po_none (po_some (pe_callB call_len (by rfl) G.len PySem.boot_len (pa_cons (pv 1) pa_nil)))) (pv 1) (nomark _))))), ?_⟩
    refine ⟨_, rfl, v, bn, rfl, hn, fun hb H1 s1 => ?_, fun hb => q1 hb⟩
    obtain ⟨bb, hbb, q3, q4⟩ := q2 hb
    refine ⟨_, rfl, u, bb, rfl, begV_mono hbb s1, fun hb2 H2 s2 => ?_, fun hb2 H2 s2 => q3 hb2 H2 (s1.trans s2)⟩
    obtain ⟨p, q, ps, qs, rfl, rfl, hp, hq, q5⟩ := q4 hb2
    have s12 := s1.trans s2
    have hp2 := s12 _ _ hp
    have hq2 := s12 _ _ hq
    refine ⟨_, rfl, _, rfl, _, (qs.map V.str).length, rfl, .inr ⟨_, SqT.of hq2, rfl⟩, _, rfl, p, _, rfl, SqT.of hp2, fun hw => ?_, fun hw a ha => ?_⟩
    · refine ⟨_, rfl, decide (ps.take qs.length = qs), ?_, q5 _ s12⟩
      simp only [List.length_map] at hw
      have := whole_take ps qs.length (by rw [List.length_map]; exact hw.2)
      rw [this]
      exact cmp_strs (SqT.of hp2) (SqT.of hq2)
    · have s3 := same_upd (o := .tup (cutV (ps.map V.str) none (some (((qs.map V.str).length : Nat) : Int)))) ha
      refine ⟨_, rfl, decide (ps.take qs.length = qs), cmp_strs (SqT.of ?_) (SqT.of (s3 _ _ hq2)), q5 _ (s12.trans s3)⟩
      rw [upd_same, List.length_map, cut_take]
theorem scText : FnScope ["beginning"] ["beginning"] (defScope sText) := ⟨rfl, rfl, rfl, by decide +kernel, rfl, by decide +kernel, by decide +kernel⟩
theorem okx_text {f f2 Nm : Addr} {fd fd2 : FuncData} (F : Fun K "name_text" "name_text" sText f fd) (C2 : CalX P w K mg base 4 "need_beginning" f2 fd2 ["thing"] (spNeedBX K Nm)) :
    FnOk P w K mg base (CXF P w) 5 f fd ["beginning"] (spText K Nm) := by
  refine F.okX scText (fun vs H Q E h => ?_) (fun cdv A outer s H vs Q E hr h => ?_)
  · obtain ⟨v, bb, rfl, _⟩ := h
    rfl
  · obtain ⟨v, bb, rfl, hn, q1, q2⟩ := h
    refine ⟨_, pss_cons (ps_expr (pe_fnX C2 hr (by rfl) flies_cxOf (pa_cons (pv 0) pa_nil)))
      (pss_one (ps_ret (pe_op op_add_str pe_str (pe_bm PySem.F.plainAttrs_str PySem.F.slot_str_join PySem.F.type_str_join mt_join pe_str (pa_cons (pv 0) pa_nil))))), ?_⟩
    refine ⟨_, rfl, v, bb, rfl, hn, fun hb H1 s1 => ?_, fun hb => q1 hb⟩
    obtain ⟨q, qs, rfl, hq, b1, b2, k⟩ := q2 hb
    exact ⟨rfl, _, rfl, "/", q, qs, rfl, rfl, SqT.of (s1 _ _ hq), b1, _, _, rfl, rfl, b2, k H1 s1⟩
theorem len_app (a b : Str) : (a ++ b).length = a.length + b.length := PySem.Str.length_append a b
theorem part_join (y : Str) : ∀ (l : List Str) (p : Str), p ∈ l → p.length ≤ (y.join l).length
  | [], p, h => by cases h
  | [x], p, h => by rw [List.mem_singleton.mp h]; exact Nat.le_refl _
  | x :: z :: r, p, h => by
    have e : y.join (x :: z :: r) = x ++ y ++ y.join (z :: r) := rfl
    rw [e, len_app, len_app]
    rcases List.mem_cons.mp h with h | h
    · rw [h]; omega
    · have := part_join y (z :: r) p h
      omega
theorem split_part {x y p : Str} (h : p ∈ Txt.split x y) : p.length ≤ x.length := by
  have := part_join y _ p h
  rwa [PySem.StrLaws.join_split] at this
theorem nameV_strs {H : Hp} {p : Addr} {ps : List Str} (h : H p = some (.tup (ps.map V.str))) (hl : ps.length ≤ sizeLine) (hp : ∀ x ∈ ps, x.length ≤ sizeLine) : NameV K H (.ref p) (nameB ps) := by
  refine .inl ⟨p, ps.map V.str, ps.map partB, rfl, h, by rw [List.length_map]; exact hl, by simp, fun i x b' e1 e2 => ?_, ?_⟩
  · rw [List.getElem?_map] at e1 e2
    obtain ⟨x', e, rfl⟩ := Option.map_eq_some_iff.mp e1
    rw [e] at e2
    cases e2
    exact .inl ⟨x', rfl, hp x' (List.mem_of_getElem? e), rfl⟩
  · rw [List.length_map, List.all_map]
    rfl
theorem scRead : FnScope ["text", "name"] ["text"] (defScope sRead) := ⟨rfl, rfl, rfl, by decide +kernel, rfl, by decide +kernel, by decide +kernel⟩
theorem okx_read {f f1 Nm : Addr} {fd fd1 : FuncData} (F : Fun K "read_name" "read_name" sRead f fd) (G : Glb mg) (R : Rz K mg "BadName" Nm) (C1 : Cal P w K mg base 2 "is_name" f1 fd1 ["thing"] (spName K)) :
    FnOk P w K mg base (CXF P w) 3 f fd ["text"] (spRead K Nm) := by
  refine F.okX scRead (fun vs H Q E h => ?_) (fun cdv A outer s H vs Q E hr h => ?_)
  · obtain ⟨v, rfl, _⟩ := h
    rfl
  · obtain ⟨v, rfl, h⟩ := h
    refine ⟨_, pss_cons (ps_if (PW.pt (pw_or (pt_not (pt_val (pe_callB (call_isiK (kit_str _)) (by rfl) G.isi PyProof.Rows.boot_isinstance (pa_cons (pv 0) (pa_cons (pe_bltn (v := .ty "str") (by rfl) G.str PyProof.Rows.boot_str rfl) pa_nil)))))
        (pw_or1 (pt_cmpR op_ne (pe_slice sl_str (pv 0) po_none (po_some pe_int)) pe_str (nomark _))))) (pss_one (ps_raise flies_cxOf rfl R.ec (by rfl) R.mg (pa_cons pe_str pa_nil))) pss_nil)
      (pss_cons (ps_if (pt_cmpR op_eq (pv 0) pe_str (nomark _)) (pss_one (ps_ret (pe_tup pa_nil))) pss_nil)
      (pss_cons (ps_set (i := 1) scRead.nd rfl (Or.inl rfl) (pe_tupSplit (by rfl) G.tuple (pe_slice sl_str (pv 0) (po_some pe_int) po_none) pe_str))
      (pss_cons (ps_if (pt_not (pt_val (pe_fn C1 hr (by rfl) (pa_cons (pv 1) pa_nil)))) (pss_one (ps_raise flies_cxOf rfl R.ec (by rfl) R.mg (pa_cons pe_str pa_nil))) pss_nil)
      (pss_one (ps_ret (pv 1)))))), ?_⟩
    have one : 1 ≤ sizeLine := by decide
    rcases h with ⟨x, rfl, hx, q1, q2⟩ | ⟨k, hk, hs, q⟩
    · have hz : x.length ≤ sizeLine := Nat.le_trans hx (by decide)
      refine ⟨_, rfl, _, .str, rfl, kn_str x, _, rfl, ?_⟩
      refine iteF ⟨_, rfl, 1, rfl, x, rfl, hz, rfl, _, rfl, ?_⟩
      unfold readB at q1 q2
      by_cases c1 : Txt.slice x none (some 1) = "/"
      · rw [if_pos c1] at q1 q2
        rw [decide_eq_true (show V.str (Txt.slice x none (some 1)) = V.str "/" from congrArg V.str c1)]
        refine iteF ⟨_, rfl, rfl, _, rfl, ?_⟩
        by_cases c2 : x = "/"
        · rw [if_pos c2] at q1 q2
          rw [decide_eq_true (show V.str x = V.str "/" from congrArg V.str c2)]
          refine iteT ⟨Nat.zero_le _, fun p hp => ?_⟩
          exact q2 [] rfl p _ (same_upd hp) upd_same
        · rw [if_neg c2] at q1 q2
          rw [decide_eq_false (show ¬ V.str x = V.str "/" from fun z => c2 (V.str.inj z))]
          refine iteF ⟨_, rfl, 1, rfl, x, rfl, hz, _, rfl, "/", rfl, by decide, Nat.le_trans (Txt.slice_le x _ _) hx, fun p hp => ?_⟩
          have s1 := same_upd (o := .tup ((Txt.split (Txt.slice x (some 1) none) "/").map V.str)) hp
          have hsl : ∀ y ∈ Txt.split (Txt.slice x (some 1) none) "/", y.length ≤ sizeLine := fun y hy => Nat.le_trans (split_part hy) (Nat.le_trans (Txt.slice_le x _ _) hz)
          have hsn : (Txt.split (Txt.slice x (some 1) none) "/").length ≤ sizeLine := Nat.le_trans (split_le _ "/" (by decide)) (Nat.le_trans (Nat.add_le_add_right (Nat.le_trans (Txt.slice_le x _ _) hx) 2) (by decide))
          refine ⟨_, rfl, _, _, rfl, nameV_strs upd_same hsn hsl, fun H2 s2 => ⟨_, rfl, ?_⟩⟩
          by_cases c3 : nameB (Txt.split (Txt.slice x (some 1) none) "/") = true
          · rw [if_pos c3] at q1 q2
            rw [c3]
            refine iteF ⟨_, rfl, ?_⟩
            exact q2 _ rfl p _ (s1.trans s2) (s2 _ _ upd_same)
          · rw [if_neg c3] at q1 q2
            rw [Bool.eq_false_iff.mpr c3]
            exact iteT ⟨one, q1 rfl _ (s1.trans s2)⟩
      · rw [if_neg c1] at q1 q2
        rw [decide_eq_false (show ¬ V.str (Txt.slice x none (some 1)) = V.str "/" from fun z => c1 (V.str.inj z))]
        exact iteT ⟨one, q1 rfl _ (Same.refl _)⟩
    · refine ⟨_, rfl, _, k, rfl, hk, _, rfl, ?_⟩
      rw [hs]
      exact iteT (iteT ⟨one, q _ (Same.refl _)⟩)
end
end K10
end
section
set_option Elab.async false
set_option linter.all false
set_option maxRecDepth 100000
set_option maxHeartbeats 1000000
namespace K10
open PySem L2
noncomputable def Tups (H H' : Hp) : Prop := ∀ b xs, H b = some (.tup xs) → H' b = some (.tup xs)
theorem tups_upd {H : Hp} {d : Addr} {o u : HO} (h : H d = some o) (n : ∀ xs, o ≠ .tup xs) : Tups H (upd H d u) := fun b xs e => by rw [upd_ne (ne_of e h (fun z => n xs z.symm))]; exact e
theorem dice_ne {H : Hp} {d b : Addr} {o : HO} (h : DiceAt H d) (e : H b = some o) (n : ∀ a c : Int, o ≠ .lst [.int a, .int c]) : b ≠ d := fun z => by
  obtain ⟨a, c, q⟩ := h
  rw [z, q] at e
  exact n a c (Option.some.inj e).symm
structure Out (H : Hp) (lds : Addr) (ds : List Addr) : Prop where
  ll : H lds = some (.lst (ds.map V.ref))
  dice : ∀ d ∈ ds, DiceAt H d
theorem list_ne_dice {H : Hp} {lds d : Addr} {ds : List Addr} (h : H lds = some (.lst (ds.map V.ref))) (hd : DiceAt H d) : lds ≠ d := dice_ne hd h fun a c z => by
  have z := HO.lst.inj z
  cases ds with
  | nil => cases z
  | cons x r => cases z
theorem Out.roll {H H' : Hp} {lds d : Addr} {ds : List Addr} (h : Out H lds ds) (hm : d ∈ ds) (k : Kept d H H') (hd : DiceAt H' d) : Out H' lds ds := by
  refine ⟨k _ _ (list_ne_dice h.ll (h.dice d hm)) h.ll, fun e he => ?_⟩
  by_cases q : e = d
  · rw [q]; exact hd
  · obtain ⟨a, b, z⟩ := h.dice e he
    exact ⟨a, b, k _ _ q z⟩
theorem Out.same {H H' : Hp} {lds : Addr} {ds : List Addr} (h : Out H lds ds) (e : Same H H') : Out H' lds ds := ⟨e _ _ h.ll, fun d hd => (h.dice d hd).same e⟩
theorem nameV_of {K : PySem.W.Frag} {H : Hp} {q : Addr} {ps : List Str} (h : H q = some (.tup (ps.map V.str))) (h1 : 1 ≤ ps.length) (h2 : ps.length ≤ 5) (h3 : ∀ x ∈ ps, partB x = true) : NameV K H (.ref q) true := by
  refine .inl ⟨q, ps.map V.str, ps.map fun _ => true, rfl, h, ?_, by simp, fun i x b' e1 e2 => ?_, ?_⟩
  · rw [List.length_map]
    exact Nat.le_trans h2 (by decide)
  · rw [List.getElem?_map] at e1 e2
    obtain ⟨x', e, rfl⟩ := Option.map_eq_some_iff.mp e1
    rw [e] at e2
    cases e2
    have hx := h3 x' (List.mem_of_getElem? e)
    refine .inl ⟨x', rfl, ?_, hx.symm⟩
    unfold partB at hx
    simp only [Bool.and_eq_true, decide_eq_true_eq] at hx
    exact Nat.le_trans (show x'.length ≤ 4 by omega) (by decide)
  · rw [List.length_map, decide_eq_true (show (1 : Int) ≤ (ps.length : Int) by omega), decide_eq_true (show (ps.length : Int) ≤ 5 by omega)]
    simp
theorem name_no0 {K : PySem.W.Frag} {H : Hp} {q : Addr} (h : H q = some (.tup [])) : NameV K H (.ref q) false := .inl ⟨q, [], [], rfl, h, by decide, rfl, fun i x b' e _ => by simp at e, by decide⟩
theorem begV_head {K : PySem.W.Frag} {H : Hp} {q : Addr} {ps : List Str} (h : H q = some (.tup (ps.map V.str))) (ok : HeadOk ps) : BegV K H (.ref q) true := by
  cases ps with
  | nil => exact ⟨false, name_no0 h, .inr ⟨rfl, .inl ⟨q, [], rfl, h, by decide, rfl⟩⟩⟩
  | cons x r => exact ⟨true, nameV_of h (by simp) (Nat.le_trans ok.1 (by decide)) (fun y hy => parts5_good y (ok.2 y hy)), .inl ⟨rfl, rfl⟩⟩
theorem bad_name {K : PySem.W.Frag} {H : Hp} {v : V} (h : NameV K H v false) (k : (∃ (a : Addr) (xs : List V), v = .ref a ∧ H a = some (.tup xs) ∧ xs.length ≤ 1000 ∧ xs ≠ []) ∨ ∃ k, KindV K H v k ∧ isTup k = false) : BegV K H v false := by
  refine ⟨false, h, .inr ⟨rfl, ?_⟩⟩
  rcases k with ⟨a, xs, e, h1, h2, h3⟩ | ⟨k, h1, h2⟩
  · refine .inl ⟨a, xs, e, h1, h2, ?_⟩
    cases xs with
    | nil => exact absurd rfl h3
    | cons x r => exact (decide_eq_false (by simp)).symm
  · exact .inr ⟨k, h1, h2, rfl⟩
theorem tup1_no {K : PySem.W.Frag} {H : Hp} {q : Addr} {x : V} (h : H q = some (.tup [x])) (p : PartV K H x false) : NameV K H (.ref q) false ∧ BegV K H (.ref q) false := by
  have n : NameV K H (.ref q) false := .inl ⟨q, [x], [false], rfl, h, (by show 1 ≤ sizeLine; decide), rfl, fun i y b' e1 e2 => by
    cases i with
    | zero => cases e1; cases e2; exact p
    | succ i => simp at e1, (by simp)⟩
  exact ⟨n, bad_name n (.inl ⟨q, _, rfl, h, by simp, by simp⟩)⟩
theorem kind_no {K : PySem.W.Frag} {H : Hp} {v : V} {k : Kn} (h : KindV K H v k) (z : isTup k = false) : NameV K H v false ∧ BegV K H v false :=
  have n : NameV K H v false := .inr ⟨k, h, z, rfl⟩
  ⟨n, bad_name n (.inr ⟨k, h, z⟩)⟩
noncomputable def six : List V := (List.replicate (6 : Int).toNat [V.str "a"]).flatten
theorem six_no {K : PySem.W.Frag} {H : Hp} {q : Addr} (h : H q = some (.tup six)) : NameV K H (.ref q) false ∧ BegV K H (.ref q) false := by
  have n : NameV K H (.ref q) false := by
    refine .inl ⟨q, six, List.replicate 6 true, rfl, h, by decide, rfl, fun i y b' e1 e2 => ?_, by decide⟩
    have hy : y = .str "a" := by
      have := List.mem_of_getElem? e1
      simpa [six] using this
    have hb : b' = true := by
      have := List.mem_of_getElem? e2
      simpa using this
    subst hy hb
    exact .inl ⟨"a", rfl, by decide, by decide +kernel⟩
  exact ⟨n, bad_name n (.inl ⟨q, _, rfl, h, by decide, by decide⟩)⟩
noncomputable def NoPart (H : Hp) (y : V) : Prop := (∃ z, y = .str z ∧ z.length ≤ sizeLine ∧ partB z = false) ∨ (∃ i, y = .int i) ∨ y = .non ∨ ∃ b zs, y = .ref b ∧ H b = some (.tup zs)
noncomputable def BadT (H : Hp) (x : V) : Prop := x = .non ∨ (∃ i, x = .int i) ∨ (∃ b, x = .bl b) ∨ (∃ z, x = .str z) ∨ (∃ a ys, x = .ref a ∧ H a = some (.lst ys)) ∨ (∃ a y, x = .ref a ∧ H a = some (.tup [y]) ∧ NoPart H y) ∨ ∃ a, x = .ref a ∧ H a = some (.tup six)
noncomputable def CaseT (H : Hp) (x : V) : Prop := x = .non ∨ (∃ i, x = .int i) ∨ (∃ z, x = .str z ∧ z.length ≤ 1000 ∧ readB z = none) ∨ ∃ a ys, x = .ref a ∧ H a = some (.tup ys)
noncomputable abbrev qLam : Str := "law" ++ ".<locals>." ++ "<lambda>"
noncomputable def Lits (H H' : Hp) : Prop := (∀ b xs, H b = some (.tup xs) → H' b = some (.tup xs)) ∧ ∀ b xs, H b = some (.lst xs) → H' b = some (.lst xs)
theorem Lits.trans {H H1 H2 : Hp} (a : Lits H H1) (b : Lits H1 H2) : Lits H H2 := ⟨fun c xs e => b.1 c xs (a.1 c xs e), fun c xs e => b.2 c xs (a.2 c xs e)⟩
theorem Lits.of {H H' : Hp} (h : Same H H') : Lits H H' := ⟨fun b xs e => h b _ e, fun b xs e => h b _ e⟩
theorem grown_lits {Pt : Addr} {H H' : Hp} (t : Tbl H Pt qLam) (g : Grown Pt H H') : Lits H H' := by
  obtain ⟨ps, h, _⟩ := t
  exact ⟨fun b xs e => g b _ (fun z => by rw [z, h] at e; cases e) e, fun b xs e => g b _ (fun z => by rw [z, h] at e; cases e) e⟩
theorem NoPart.lits {H H' : Hp} {y : V} (h : NoPart H y) (l : Lits H H') : NoPart H' y := by
  rcases h with h | h | h | ⟨b, zs, e, h⟩
  · exact .inl h
  · exact .inr (.inl h)
  · exact .inr (.inr (.inl h))
  · exact .inr (.inr (.inr ⟨b, zs, e, l.1 _ _ h⟩))
theorem BadT.lits {H H' : Hp} {x : V} (h : BadT H x) (l : Lits H H') : BadT H' x := by
  rcases h with h | h | h | h | ⟨a, ys, e, h⟩ | ⟨a, y, e, h, n⟩ | ⟨a, e, h⟩
  · exact .inl h
  · exact .inr (.inl h)
  · exact .inr (.inr (.inl h))
  · exact .inr (.inr (.inr (.inl h)))
  · exact .inr (.inr (.inr (.inr (.inl ⟨a, ys, e, l.2 _ _ h⟩))))
  · exact .inr (.inr (.inr (.inr (.inr (.inl ⟨a, y, e, l.1 _ _ h, n.lits l⟩)))))
  · exact .inr (.inr (.inr (.inr (.inr (.inr ⟨a, e, l.1 _ _ h⟩)))))
theorem NoPart.no {K : PySem.W.Frag} {H : Hp} {y : V} (h : NoPart H y) : PartV K H y false := by
  rcases h with ⟨z, rfl, h1, h2⟩ | ⟨i, rfl⟩ | rfl | ⟨b, zs, rfl, h⟩
  · exact .inl ⟨z, rfl, h1, h2.symm⟩
  · exact .inr ⟨_, kn_int _, rfl, rfl⟩
  · exact .inr ⟨_, kn_non, rfl, rfl⟩
  · exact .inr ⟨_, kn_tup h, rfl, rfl⟩
theorem BadT.no {K : PySem.W.Frag} {H : Hp} {x : V} (h : BadT H x) : NameV K H x false ∧ BegV K H x false := by
  rcases h with rfl | ⟨i, rfl⟩ | ⟨b, rfl⟩ | ⟨z, rfl⟩ | ⟨a, ys, rfl, h⟩ | ⟨a, y, rfl, h, n⟩ | ⟨a, rfl, h⟩
  · exact kind_no kn_non rfl
  · exact kind_no (kn_int _) rfl
  · exact kind_no (kn_bl _) rfl
  · exact kind_no (kn_str _) rfl
  · exact kind_no (kn_lst h) rfl
  · exact tup1_no h n.no
  · exact six_no h
theorem CaseT.lits {H H' : Hp} {x : V} (h : CaseT H x) (l : Lits H H') : CaseT H' x := by
  rcases h with h | h | h | ⟨a, ys, e, h⟩
  · exact .inl h
  · exact .inr (.inl h)
  · exact .inr (.inr (.inl h))
  · exact .inr (.inr (.inr ⟨a, ys, e, l.1 _ _ h⟩))
end K10
end
section
set_option Elab.async false
set_option linter.all false
set_option maxRecDepth 100000
set_option maxHeartbeats 400000
namespace K10
open PySem L2
theorem cat_list (a b : Str) : (a ++ b).cps.toList = a.cps.toList ++ b.cps.toList := by
  show (a.cps ++ b.cps).toList = _
  rw [Array.toList_append]
theorem cut_at {c : Nat} : ∀ {p q x y : List Nat}, c ∉ p → c ∉ q → p ++ c :: x = q ++ c :: y → p = q ∧ x = y
  | [], [], x, y, _, _, h => ⟨rfl, (List.cons.inj h).2⟩
  | [], b :: q, x, y, _, h2, h => absurd (List.mem_cons.mpr (.inl (List.cons.inj h).1)) h2
  | a :: p, [], x, y, h1, _, h => absurd (List.mem_cons.mpr (.inl (List.cons.inj h).1.symm)) h1
  | a :: p, b :: q, x, y, h1, h2, h => by
    obtain ⟨e1, e2⟩ := List.cons.inj h
    obtain ⟨r1, r2⟩ := cut_at (fun z => h1 (List.mem_cons_of_mem _ z)) (fun z => h2 (List.mem_cons_of_mem _ z)) e2
    exact ⟨by rw [e1, r1], r2⟩
theorem join_inj (c : Nat) : ∀ (l1 l2 : List Str), l1 ≠ [] → l2 ≠ [] → (∀ p ∈ l1, c ∉ p.cps.toList) → (∀ p ∈ l2, c ∉ p.cps.toList) → (⟨#[c]⟩ : Str).join l1 = (⟨#[c]⟩ : Str).join l2 → l1 = l2
  | [], _, h, _, _, _, _ => absurd rfl h
  | _ :: _, [], _, h, _, _, _ => absurd rfl h
  | [p], [q], _, _, _, _, e => by
    have e : p = q := e
    rw [e]
  | [p], q :: q2 :: r, _, _, h1, _, e => by
    have e : p = q ++ ⟨#[c]⟩ ++ (⟨#[c]⟩ : Str).join (q2 :: r) := e
    refine absurd ?_ (h1 p (List.mem_singleton.mpr rfl))
    rw [e, cat_list, cat_list]
    simp
  | p :: p2 :: r, [q], _, _, _, h2, e => by
    have e : p ++ ⟨#[c]⟩ ++ (⟨#[c]⟩ : Str).join (p2 :: r) = q := e
    refine absurd ?_ (h2 q (List.mem_singleton.mpr rfl))
    rw [← e, cat_list, cat_list]
    simp
  | p :: p2 :: r, q :: q2 :: r', _, _, h1, h2, e => by
    have e : p ++ ⟨#[c]⟩ ++ (⟨#[c]⟩ : Str).join (p2 :: r) = q ++ ⟨#[c]⟩ ++ (⟨#[c]⟩ : Str).join (q2 :: r') := e
    have e := congrArg (fun s => s.cps.toList) e
    simp only [cat_list, List.append_assoc] at e
    obtain ⟨e1, e2⟩ := cut_at (c := c) (h1 p (by simp)) (h2 q (by simp)) e
    have := join_inj c (p2 :: r) (q2 :: r') (by simp) (by simp) (fun x hx => h1 x (List.mem_cons_of_mem _ hx)) (fun x hx => h2 x (List.mem_cons_of_mem _ hx)) (PyProof.Rows.ext_toList e2)
    rw [PyProof.Rows.ext_toList e1, this]
theorem split_ne (x y : Str) : Txt.split x y ≠ [] := by
  unfold Txt.split
  split
  · simp
  · split
    · simp
    · intro h
      have := congrArg List.length h
      rw [length_partsBetween] at this
      simp at this
theorem split_join {c : Nat} {l : List Str} (h0 : l ≠ []) (h : ∀ p ∈ l, c ∉ p.cps.toList) : Txt.split ((⟨#[c]⟩ : Str).join l) ⟨#[c]⟩ = l :=
  join_inj c _ _ (split_ne _ _) h0 (fun p hp => StrLaws.split_free _ _ p hp) h (StrLaws.join_split _ _)
theorem slice_tail (c : Nat) (j : Str) : Txt.slice (⟨#[c]⟩ ++ j) (some 1) none = j := by
  have hl : ((⟨#[c]⟩ : Str) ++ j).length = 1 + j.length := Str.length_append _ _
  rw [PyProof.Rows.slice_from_eq (b := ((⟨#[c]⟩ : Str) ++ j).length) (by decide) (by omega) rfl, hl]
  refine PyProof.Rows.ext_toList ?_
  show List.take _ (List.drop (1 : Int).toNat ((⟨#[c]⟩ : Str) ++ j).cps.toList) = _
  rw [cat_list]
  show List.take _ (List.drop 1 (c :: j.cps.toList)) = _
  rw [List.drop_succ_cons, List.drop_zero, List.take_of_length_le]
  show j.cps.toList.length ≤ _
  have : j.cps.toList.length = j.length := by simp [Str.length]
  omega
theorem slice_head (c : Nat) (j : Str) : Txt.slice (⟨#[c]⟩ ++ j) none (some 1) = ⟨#[c]⟩ := by
  have hl : ((⟨#[c]⟩ : Str) ++ j).length = 1 + j.length := Str.length_append _ _
  have := eq_of_beq (PyProof.Rows.slice_closes_toL (x := (⟨#[c]⟩ : Str) ++ j) (j := 1) (by decide) (by omega))
  rw [this]
  refine PyProof.Rows.ext_toList ?_
  show List.take _ (List.drop (0 : Int).toNat ((⟨#[c]⟩ : Str) ++ j).cps.toList) = _
  rw [cat_list]
  rfl
structure HeadFacts (ps : List Str) : Prop where
  t : (textOf ps).length ≤ 100
  j : ("/" : Str).length + (Txt.join "/" ps).length ≤ sizeLine
  s : (ps.map (fun x => x.length)).sum + ps.length * ("/" : Str).length ≤ 16777216
  r : readB (textOf ps) = some ps
theorem parts5_free : ∀ x ∈ parts5, 47 ∉ x.cps.toList := by decide +kernel
theorem parts5_len : ∀ x ∈ parts5, 1 ≤ x.length ∧ x.length ≤ 4 := by decide +kernel
theorem sum_le : ∀ {ps : List Str}, (∀ x ∈ ps, x ∈ parts5) → (ps.map (fun x => x.length)).sum ≤ 4 * ps.length
  | [], _ => by simp
  | x :: r, h => by
    have h1 := (parts5_len x (h x List.mem_cons_self)).2
    have h2 := sum_le (ps := r) fun y hy => h y (List.mem_cons_of_mem _ hy)
    rw [List.map_cons, List.sum_cons, List.length_cons]
    omega
theorem slash : ("/" : Str) = ⟨#[47]⟩ := by decide +kernel
theorem head_name {ps : List Str} (h : HeadOk ps) (h0 : ps ≠ []) : nameB ps = true := by
  have l := h.1
  have l1 : 1 ≤ ps.length := Nat.one_le_iff_ne_zero.mpr fun z => h0 (List.eq_nil_of_length_eq_zero z)
  unfold nameB
  rw [decide_eq_true (show (1 : Int) ≤ (ps.length : Int) by omega), decide_eq_true (show (ps.length : Int) ≤ 5 by omega), Bool.true_and, Bool.true_and, List.all_eq_true]
  exact fun x hx => parts5_good x (h.2 x hx)
theorem head_facts {ps : List Str} (h : HeadOk ps) : HeadFacts ps := by
  have l := h.1
  have s := sum_le h.2
  have jl := StrLaws.join_length_le "/" ps
  have ej : Txt.join "/" ps = ("/" : Str).join ps := StrLaws.glued_eq_join "/" ps
  have e1 : ("/" : Str).length = 1 := by rw [slash]; rfl
  rw [e1, Nat.mul_one] at jl
  have jl : (Txt.join "/" ps).length ≤ 20 := by rw [ej]; omega
  have tl : (textOf ps).length = 1 + (Txt.join "/" ps).length := by unfold textOf; rw [Str.length_append, e1]
  refine ⟨by omega, by rw [e1]; exact Nat.le_trans (show 1 + (Txt.join "/" ps).length ≤ 21 by omega) (by decide), by rw [e1]; omega, ?_⟩
  unfold readB
  have c1 : Txt.slice (textOf ps) none (some 1) = "/" := by unfold textOf; rw [slash]; exact slice_head 47 _
  have c2 : Txt.slice (textOf ps) (some 1) none = Txt.join "/" ps := by unfold textOf; rw [slash]; exact slice_tail 47 _
  rw [if_pos c1, c2]
  by_cases h0 : ps = []
  · subst h0
    rw [if_pos (by decide +kernel)]
  · have c3 : ¬ textOf ps = "/" := fun z => by
      have := congrArg Str.length z
      rw [tl, e1] at this
      obtain ⟨x, hx⟩ := List.exists_mem_of_ne_nil ps h0
      have h1 := (parts5_len x (h.2 x hx)).1
      have h2 := part_join "/" ps x hx
      rw [ej] at this
      omega
    have c4 : Txt.split (Txt.join "/" ps) "/" = ps := by
      rw [ej, slash]
      exact split_join h0 fun p hp => parts5_free p (h.2 p hp)
    rw [if_neg c3, c4, if_pos (head_name h h0)]
end K10
end
section
set_option Elab.async false
set_option linter.all false
set_option maxRecDepth 100000
set_option maxHeartbeats 1000000
namespace K10
open PySem L2
noncomputable def forBodyX (s : Stmt) : List Stmt := match s with | .For _ _ b _ _ => b | _ => []
noncomputable abbrev outerB : List Stmt := forBodyX ((defBody sLaw).getD 0 (.Pass ⟨0, 0, 0, 0⟩))
noncomputable abbrev NLaw : List Str := ["_law_script", "_law_dice", "_law_one", "_law_name", "_law_text", "_law_answer", "_law_bad", "_law_thing", "_law_found", "_law_cases"]
theorem scLaw : FnScope NLaw ["_law_script"] (defScope sLaw) := ⟨rfl, rfl, rfl, by decide +kernel, rfl, by decide +kernel, by decide +kernel⟩
noncomputable abbrev XL (P : Program) (w : World) (K : PySem.W.Frag) (mg : Str → Option Value) (base : Heap) (f c : Addr) (A : Around) (outer : List Env) (s : Shared) (H : Hp) (E : XK) : Cx := (cxOf CX0 P w K mg base NLaw "law" (defScope sLaw) f (.ref c) A outer s H E).nox
structure All (Pt : Addr) (H : Hp) (lds : Addr) (ds : List Addr) (o n : Addr) (ps ns : List Str) : Prop where
  out : Out H lds ds
  one : H o = some (.tup (ps.map V.str))
  name : H n = some (.tup (ns.map V.str))
  tb : Tbl H Pt qLam
  hd : HeadOk ps
  nm : NameOk ns
theorem All.same {Pt : Addr} {H H' : Hp} {lds : Addr} {ds : List Addr} {o n : Addr} {ps ns : List Str} (h : All Pt H lds ds o n ps ns) (e : Same H H') : All Pt H' lds ds o n ps ns := ⟨h.out.same e, e _ _ h.one, e _ _ h.name, h.tb.same e, h.hd, h.nm⟩
theorem All.grown {Pt : Addr} {H H' : Hp} {lds : Addr} {ds : List Addr} {o n : Addr} {ps ns : List Str} (h : All Pt H lds ds o n ps ns) (g : Grown Pt H H') (tb : Tbl H' Pt qLam) : All Pt H' lds ds o n ps ns := by
  have l := grown_lits h.tb g
  exact ⟨⟨l.2 _ _ h.out.ll, fun d hd => let ⟨a, b, e⟩ := h.out.dice d hd; ⟨a, b, l.2 _ _ e⟩⟩, l.1 _ _ h.one, l.1 _ _ h.name, tb, h.hd, h.nm⟩
theorem grown_tups {Pt : Addr} {H H' : Hp} (t : Tbl H Pt qLam) (g : Grown Pt H H') : Tups H H' := (grown_lits t g).1
structure EnvT (P : Program) (w : World) (K : PySem.W.Frag) (mg : Str → Option Value) (base : Heap) (c Pt ft W : Addr) (fdt : FuncData) (wd : Addr → Str → Prop) : Prop where
  told : ToldOk P w K mg base 1 ft W fdt wd
  mt : mg "_law_told" = some (.ref ft)
  kt : PySem.W.keepIn K (.ref ft) = true
  hC : PySem.W.codeHdIn K c Pt = true
  hB : BmAt mg base
structure Say (K : PySem.W.Frag) (W : Addr) (wd : Addr → Str → Prop) (C : Addr) (wrd : Str) : Prop where
  up : PySem.W.kitCls K (.ref C) (.ref W) = some true
  wd : wd C wrd
theorem fin_told {K : PySem.W.Frag} {Pt W C : Addr} {wd : Addr → Str → Prop} {wrd : Str} {H H1 H2 : Hp} {Q : VK} (Z : Say K W wd C wrd) (gr : Grown Pt H H1) (tb : Tbl H1 Pt qLam) (s12 : Same H1 H2)
    (k : ∀ (t : Addr) (H' : Hp), Grown Pt H H' → Tbl H' Pt qLam → H' t = some (.tup [.str "refused", .str wrd]) → Q (.ref t) H') : xWant K W (told wd Q) (.ref C) none H2 :=
  ⟨C, rfl, rfl, Z.up, wrd, Z.wd, fun t H' sm ht => k t H' (fun b o n e => sm _ _ (s12 _ _ (gr b o n e))) ((tb.same s12).same sm) ht⟩
theorem cmp_ref {K : PySem.W.Frag} {H : Hp} {t t0 : Addr} {wrd : Str} (h : H t = some (.tup [.str "refused", .str wrd])) (h0 : H t0 = some (.tup [.str "refused", .str wrd])) : Cmp K H 1 (.ref t) (.ref t0) true := by
  have := cmp_strs (K := K) (H := H) (ps := ["refused", wrd]) (qs := ["refused", wrd]) (SqT.of h) (SqT.of h0)
  rwa [decide_eq_true rfl] at this
theorem cmp_refs {K : PySem.W.Frag} {H : Hp} {l l' : Addr} {ts us : List Addr} {wrd : Str} (h : H l = some (.lst (ts.map V.ref))) (h' : H l' = some (.lst (us.map V.ref))) (e : ts.length = us.length) (k : ∀ t ∈ ts, H t = some (.tup [.str "refused", .str wrd])) (k' : ∀ t ∈ us, H t = some (.tup [.str "refused", .str wrd])) :
    Cmp K H 2 (.ref l) (.ref l') true := by
  refine cmp_same_lists (n := 1) (SqL.of h) (SqL.of h') (by rw [List.length_map, List.length_map, e]) fun j x y e1 e2 => ?_
  rw [List.getElem?_map] at e1 e2
  obtain ⟨t, q1, rfl⟩ := Option.map_eq_some_iff.mp e1
  obtain ⟨u, q2, rfl⟩ := Option.map_eq_some_iff.mp e2
  exact cmp_ref (k t (List.mem_of_getElem? q1)) (k' u (List.mem_of_getElem? q2))
structure Run (Pt : Addr) (wrd : Str) (H H' : Hp) (lf : Addr) (ts : List Addr) : Prop where
  g : Grown Pt H H'
  b : Tbl H' Pt qLam
  l : H' lf = some (.lst (ts.map V.ref))
  k : ∀ t ∈ ts, H' t = some (.tup [.str "refused", .str wrd])
  f : H lf = none
theorem Run.first {Pt : Addr} {wrd : Str} {H H' : Hp} {lf t : Addr} (g : Grown Pt H H') (b : Tbl H' Pt qLam) (h : H' t = some (.tup [.str "refused", .str wrd])) (hf : H' lf = none) : Run Pt wrd H (upd H' lf (.lst [.ref t])) lf [t] := by
  have s := same_upd (o := .lst [.ref t]) hf
  refine ⟨fun c o n e => s _ _ (g c o n e), b.same s, upd_same, fun u hu => by rw [List.mem_singleton.mp hu]; exact s _ _ h, ?_⟩
  cases e : H lf with
  | none => rfl
  | some o =>
    by_cases z : lf = Pt
    · obtain ⟨ps, q, _⟩ := b
      rw [z, q] at hf
      cases hf
    · rw [g lf o z e] at hf
      cases hf
theorem Run.ne {Pt : Addr} {wrd : Str} {H H' : Hp} {lf : Addr} {ts : List Addr} (R : Run Pt wrd H H' lf ts) : lf ≠ Pt := fun z => by
  obtain ⟨ps, q, _⟩ := R.b
  have := R.l
  rw [z, q] at this
  cases this
theorem Run.at {Pt : Addr} {wrd : Str} {H H' H6 : Hp} {lf : Addr} {ts : List Addr} (R : Run Pt wrd H H' lf ts) (g : Grown Pt H' H6) : H6 lf = some (.lst (ts.map V.ref)) := g _ _ R.ne R.l
theorem Run.told {Pt : Addr} {wrd : Str} {H H' H6 : Hp} {lf t : Addr} {ts : List Addr} (R : Run Pt wrd H H' lf ts) (g : Grown Pt H' H6) (b : Tbl H6 Pt qLam) (h : H6 t = some (.tup [.str "refused", .str wrd])) : Run Pt wrd H (upd H6 lf (.lst (ts.map V.ref ++ [.ref t]))) lf (ts ++ [t]) := by
  have l6 := R.at g
  have tu : Tups H6 (upd H6 lf (.lst (ts.map V.ref ++ [.ref t]))) := tups_upd l6 (fun _ z => nomatch z)
  refine ⟨fun c o n e => ?_, b.grown (d := lf) (fun c o n e => by rw [upd_ne n]; exact e) l6 (fun _ z => nomatch z) (fun _ z => nomatch z), by rw [upd_same, List.map_append]; rfl, fun u hu => ?_, R.f⟩
  · rw [upd_ne (ne_of_none e R.f)]
    exact g _ _ n (R.g c o n e)
  · rcases List.mem_append.mp hu with hu | hu
    · exact tu _ _ (grown_tups R.b g _ _ (R.k u hu))
    · rw [List.mem_singleton.mp hu]
      exact tu _ _ h
noncomputable def plE : Expr → Bool
  | .Starred _ _ => false
  | _ => true
theorem st_pl {e : Expr} {es : List Expr} {env : Env} (h : plE e = true) : starEach (e :: es) env = (false, eval e env) :: starEach es env := by
  cases e <;> first | rfl | (simp [plE] at h)
structure QA (X : Cx) (es : List Expr) (t : TA) : Prop where
  ok : PA X es t
structure QE (X : Cx) (e : Expr) (t : TE) : Prop where
  ok : PE X e t
theorem qnil {X : Cx} : QA X [] tNil := ⟨pa_nil⟩
theorem qc {X : Cx} {e : Expr} {es : List Expr} {te : TE} {t : TA} (ha : QE X e te) (hr : QA X es t) (hp : plE e = true := by rfl) : QA X (e :: es) (tCons te t) := ⟨pa_cons ha.ok hr.ok (st_pl hp)⟩
theorem ql {X : Cx} {es : List Expr} {t : TA} {pos : Pos} (h : QA X es t) : QE X (.List es pos) (tLst t) := ⟨pe_lst h.ok⟩
theorem qt {X : Cx} {es : List Expr} {t : TA} {pos : Pos} (h : QA X es t) : QE X (.Tuple es 0 pos) (tTup t) := ⟨pe_tup h.ok⟩
theorem qi {X : Cx} {i : Int} {pos : Pos} : QE X (.Constant (.int i) 0 pos) (tC (.int i)) := ⟨pe_int⟩
theorem qs {X : Cx} {x : Str} {pos : Pos} : QE X (.Constant (.str x) 0 pos) (tC (.str x)) := ⟨pe_str⟩
theorem qb {X : Cx} {b : Bool} {pos : Pos} : QE X (.Constant (.bool b) 0 pos) (tC (.bl b)) := ⟨pe_bl⟩
theorem qn {X : Cx} {pos : Pos} : QE X (.Constant .none 0 pos) (tC .non) := ⟨pe_non⟩
theorem qr {X : Cx} {a b : Expr} {ta tb : TE} {pos : Pos} (h : QE X a ta) (h2 : QE X b tb) : QE X (.BinOp a .Mult b pos) (tOp (rRepT X.K) ta tb) := ⟨pe_op op_repT h.ok h2.ok⟩
structure QS (X : Cx) (st : Stmt) (t : TS) : Prop where
  ok : PS X st t
structure QSs (X : Cx) (b : List Stmt) (t : TS) : Prop where
  ok : PSs X b t
theorem qss {X : Cx} {st : Stmt} {rest : List Stmt} {t u : TS} (h1 : QS X st t) (h2 : QSs X rest u) : QSs X (st :: rest) (tSeq t u) := ⟨pss_cons h1.ok h2.ok⟩
theorem tbl0 {H : Hp} {Pt : Addr} (h : H Pt = some (.tbl #[])) : Tbl H Pt qLam := ⟨#[], h, trivial, fun pos cv z => by cases z⟩
theorem tbl_dice {H H' : Hp} {Pt d : Addr} (t : Tbl H Pt qLam) (k : Kept d H H') (hd : DiceAt H d) : Tbl H' Pt qLam := by
  obtain ⟨a, b, e⟩ := hd
  exact t.grown k e (fun _ z => nomatch z) (fun _ z => nomatch z)
structure QG (X : Cx) (tg : Expr) (g : TG) : Prop where
  ok : PG X tg g
theorem q_for {X : Cx} {tg iter : Expr} {body : List Stmt} {te : TE} {g : TG} {tb : TS} {pos : Pos} (hp : PassesOwn (model X.prog X.w) X.A X.env X.xe) (hc : X.calm = true) (hi : QE X iter te) (hg : QG X tg g) (hb : QSs X body tb) (hs : ∀ x, foldedSetIterable iter X.env x = pure x) :
    QS X (.For tg iter body [] pos) (tFor (iList X.K te) g tb) := ⟨ps_for hp hc (pi_list hi.ok) hg.ok hb.ok hs⟩
theorem qone {X : Cx} {st : Stmt} {t : TS} (h : QS X st t) : QSs X [st] t := ⟨pss_one h.ok⟩
theorem pe_fnY {X : Cx} {k : Nat} {x : Str} {f : Addr} {fd : FuncData} {ps : List Str} {sp : Sp} {e : Expr} {es : List Expr} {t : TA} {p pos : Pos} (C : CalX X.prog X.w X.K X.mg X.base k x f fd ps sp) (hr : Room k X.A) (hg : Gl X x) (ha : PA X (e :: es) t)
    (hdb : (x == ("__debug__" : Str)) = false := by decide) (he : starEach (e :: es) X.env = (false, eval e X.env) :: starEach es X.env := by rfl) (hpl : (backTo pos (starEach es X.env)).any (·.1) = false := by rfl) :
    PE X (.Call (.Name x p) (e :: es) [] pos) (tCall sp [] E0 t) := pe_call C.ok hr hg C.mg C.kp C.bd .nil passX ha hdb he hpl
end K10
end
section
set_option Elab.async false
set_option linter.all false
set_option maxRecDepth 100000
set_option maxHeartbeats 400000
namespace K10
open PySem L2
theorem name_head {K : PySem.W.Frag} {H : Hp} {q : Addr} {ps : List Str} (h : H q = some (.tup (ps.map V.str))) (ok : HeadOk ps) : NameV K H (.ref q) (!decide (ps = [])) := by
  cases ps with
  | nil => exact name_no0 h
  | cons x r => exact nameV_of h (by simp) (Nat.le_trans ok.1 (by decide)) (fun y hy => parts5_good y (ok.2 y hy))
theorem name_ok {K : PySem.W.Frag} {H : Hp} {q : Addr} {ps : List Str} (h : H q = some (.tup (ps.map V.str))) (ok : NameOk ps) : NameV K H (.ref q) true := nameV_of h ok.1 ok.2.1 (fun y hy => parts5_good y (ok.2.2 y hy))
theorem cmp_nil {K : PySem.W.Frag} {H : Hp} {a b : Addr} {ps : List Str} (ha : H a = some (.tup (ps.map V.str))) (hb : H b = some (.tup [])) : Cmp K H 1 (.ref a) (.ref b) (decide (ps = [])) := cmp_strs (qs := []) (SqT.of ha) (SqT.of hb)
theorem cmp_self {K : PySem.W.Frag} {H : Hp} {a b : Addr} {ps : List Str} (ha : H a = some (.tup (ps.map V.str))) (hb : H b = some (.tup (ps.map V.str))) : Cmp K H 1 (.ref a) (.ref b) true := by
  have := cmp_strs (K := K) (SqT.of ha) (SqT.of hb)
  rwa [decide_eq_true rfl] at this
noncomputable abbrev stA (a d : Addr) (x2 x3 x4 x5 x6 x7 x8 x9 : Option V) : L2.St := [some (.ref a), some (.ref d), x2, x3, x4, x5, x6, x7, x8, x9]
section
variable {P : Program} {w : World} {K : PySem.W.Frag} {mg : Str → Option Value} {base : Heap} {f : Addr} {c Pt Nm : Addr} {A : Around} {outer : List Env} {s : Shared} {H₀ : Hp} {E : XK}
theorem st0 {f3 f4 : Addr} {fd3 fd4 : FuncData} (hr : Room 8 (A.deeper (PyProof.Rows.envOfC "law" (defScope sLaw) s.heap.objs.size f (.ref c)))) (C3 : Cal P w K mg base 3 "_law_head" f3 fd3 ["_law_dice"] spHead) (C4 : Cal P w K mg base 4 "_law_any_name" f4 fd4 ["_law_dice"] spAny) :
    ∃ t, QS (XL P w K mg base f c A outer s H₀ E) (outerB.getD 0 (.Pass ⟨0, 0, 0, 0⟩)) t ∧ ∀ (D : Ends) (H : Hp) (lds : Addr) (ds : List Addr) (a d : Addr) (x2 x3 x4 x5 x6 x7 x8 x9 : Option V), d ∈ ds → Out H lds ds → Tbl H Pt qLam →
      (∀ H' o n ps ns, All Pt H' lds ds o n ps ns → D.nx (stA a d (some (.ref o)) (some (.ref n)) x4 x5 x6 x7 x8 x9) H') →
      t D (stA a d x2 x3 x4 x5 x6 x7 x8 x9) H := by
  refine ⟨_, ⟨ps_asg (pe_tup (pa_cons (pe_fn C3 (hr.mono (by decide)) (by rfl) (pa_cons (pv 1) pa_nil)) (pa_cons (pe_fn C4 (hr.mono (by decide)) (by rfl) (pa_cons (pv 1) pa_nil)) pa_nil))) (pg_tup rfl (pgs_cons (pg_name (i := 2) scLaw.nd rfl (Or.inl rfl)) (pgs_cons (pg_name (i := 3) scLaw.nd rfl (Or.inr rfl)) pgs_nil)))⟩, ?_⟩
  intro D H lds ds a d x2 x3 x4 x5 x6 x7 x8 x9 hd O tb k
  refine ⟨_, rfl, d, rfl, O.dice d hd, fun q ps H6 ok hq hd6 k6 => ?_⟩
  have O6 := O.roll hd k6 hd6
  have tb6 := tbl_dice tb k6 (O.dice d hd)
  refine ⟨_, rfl, d, rfl, hd6, fun n ns H7 okn hn hd7 k7 => ⟨(by show 2 ≤ sizeLine; decide), fun tt htt => ?_⟩⟩
  have O7 := O6.roll hd k7 hd7
  have tb7 := tbl_dice tb6 k7 hd6
  have hq7 : H7 q = some (.tup (ps.map V.str)) := k7 _ _ (dice_ne hd6 hq fun _ _ z => nomatch z) hq
  have st := same_upd (o := .tup [.ref q, .ref n]) htt
  refine ⟨tt, _, rfl, SqT.of upd_same, rfl, _, _, rfl, _, _, rfl, rfl, ?_⟩
  exact k _ q n ps ns ⟨O7.same st, st _ _ hq7, st _ _ hn, tb7.same st, ok, okn⟩
theorem st1 {fN fB : Addr} {fdN fdB : FuncData} (hr : Room 8 (A.deeper (PyProof.Rows.envOfC "law" (defScope sLaw) s.heap.objs.size f (.ref c)))) (CN : Cal P w K mg base 2 "is_name" fN fdN ["thing"] (spName K)) (CB : Cal P w K mg base 3 "is_beginning" fB fdB ["thing"] (spBeg K)) :
    ∃ t, QS (XL P w K mg base f c A outer s H₀ E) (outerB.getD 1 (.Pass ⟨0, 0, 0, 0⟩)) t ∧ ∀ (D : Ends) (H : Hp) (lds : Addr) (ds : List Addr) (a d o n : Addr) (ps ns : List Str) (x4 x5 x6 x7 x8 x9 : Option V), All Pt H lds ds o n ps ns →
      (∀ H', All Pt H' lds ds o n ps ns → D.nx (stA a d (some (.ref o)) (some (.ref n)) x4 x5 x6 x7 x8 x9) H') →
      t D (stA a d (some (.ref o)) (some (.ref n)) x4 x5 x6 x7 x8 x9) H := by
  refine ⟨_, ⟨ps_if (PW.pt (pw_or (pt_cmpR op_isnot_bl (pe_fn CB (hr.mono (by decide)) (by rfl) (pa_cons (pv 2) pa_nil)) pe_bl (nomark _)) (pw_or (pt_cmpR op_ne (pe_fn CN (hr.mono (by decide)) (by rfl) (pa_cons (pv 2) pa_nil)) (pe_cmpR (op_neC (n := 1) (units_of hr (by decide))) (pv 2) (pe_tup pa_nil) (nomark _)) (nomark _)) (pw_or1 (pt_cmpR op_isnot_bl (pe_fn CN (hr.mono (by decide)) (by rfl) (pa_cons (pv 3) pa_nil)) pe_bl (nomark _)))))) (pss_one (ps_ret pe_bl)) pss_nil⟩, ?_⟩
  intro D H lds ds a d o n ps ns x4 x5 x6 x7 x8 x9 al k
  refine ⟨_, rfl, _, true, rfl, begV_head al.one al.hd, fun H1 s1 => ⟨true, true, rfl, rfl, _, rfl, ?_⟩⟩
  have a1 := al.same s1
  refine iteF ⟨_, rfl, _, _, rfl, name_head a1.one a1.hd, fun H2 s2 => ⟨_, rfl, Nat.zero_le _, fun t0 ht0 => ?_⟩⟩
  have s3 := same_upd (o := .tup []) ht0
  have a3 := (a1.same s2).same s3
  refine ⟨_, cmp_nil a3.one upd_same, rfl, _, rfl, ?_⟩
  rw [decide_eq_true rfl]
  refine iteF ⟨_, rfl, _, true, rfl, name_ok a3.name a3.nm, fun H4 s4 => ⟨true, true, rfl, rfl, _, rfl, ?_⟩⟩
  exact iteF (k _ (a3.same s4))
theorem st2 : ∃ t, QS (XL P w K mg base f c A outer s H₀ E) (outerB.getD 2 (.Pass ⟨0, 0, 0, 0⟩)) t ∧ ∀ (D : Ends) (H : Hp) (lds : Addr) (ds : List Addr) (a d o n : Addr) (ps ns : List Str) (x4 x5 x6 x7 x8 x9 : Option V), All Pt H lds ds o n ps ns →
      D.nx (stA a d (some (.ref o)) (some (.ref n)) (some (.str (textOf ps))) x5 x6 x7 x8 x9) H →
      t D (stA a d (some (.ref o)) (some (.ref n)) x4 x5 x6 x7 x8 x9) H := by
  refine ⟨_, ⟨ps_set (i := 4) scLaw.nd rfl (Or.inl rfl) (pe_op op_add_str pe_str (pe_bm PySem.F.plainAttrs_str PySem.F.slot_str_join PySem.F.type_str_join mt_join pe_str (pa_cons (pv 2) pa_nil)))⟩, ?_⟩
  intro D H lds ds a d o n ps ns x4 x5 x6 x7 x8 x9 al k
  have hf := head_facts al.hd
  exact ⟨rfl, _, rfl, "/", o, ps, rfl, rfl, SqT.of al.one, hf.s, _, _, rfl, rfl, hf.j, k⟩
end
end K10
end
section
set_option Elab.async false
set_option linter.all false
set_option maxRecDepth 100000
set_option maxHeartbeats 400000
namespace K10
open PySem L2
theorem read_slash : readB "/" = some [] := by decide +kernel
theorem text_nil : textOf [] = "/" := by decide +kernel
theorem beg_nil {K : PySem.W.Frag} {H : Hp} {q : Addr} (h : H q = some (.tup [])) : BegV K H (.ref q) true := begV_head (ps := []) h ⟨Nat.zero_le _, fun x z => by cases z⟩
theorem beg_name {K : PySem.W.Frag} {H : Hp} {v : V} (h : NameV K H v true) : BegV K H v true := ⟨true, h, .inl ⟨rfl, rfl⟩⟩
theorem iteX {b : Bool} {p q : Prop} (h : b = false) (z : q) : if b = true then p else q := by rw [h, if_neg (by decide)]; exact z
section
variable {P : Program} {w : World} {K : PySem.W.Frag} {mg : Str → Option Value} {base : Heap} {f : Addr} {c Pt Nm : Addr} {A : Around} {outer : List Env} {s : Shared} {H₀ : Hp} {E : XK}
theorem st3 {fT fR : Addr} {fdT fdR : FuncData} (hr : Room 8 (A.deeper (PyProof.Rows.envOfC "law" (defScope sLaw) s.heap.objs.size f (.ref c)))) (CT : CalX P w K mg base 5 "name_text" fT fdT ["beginning"] (spText K Nm)) (CR : CalX P w K mg base 3 "read_name" fR fdR ["text"] (spRead K Nm)) :
    ∃ t, QS (XL P w K mg base f c A outer s H₀ E) (outerB.getD 3 (.Pass ⟨0, 0, 0, 0⟩)) t ∧ ∀ (D : Ends) (H : Hp) (lds : Addr) (ds : List Addr) (a d o n : Addr) (ps ns : List Str) (x5 x6 x7 x8 x9 : Option V), All Pt H lds ds o n ps ns →
      (∀ H', All Pt H' lds ds o n ps ns → D.nx (stA a d (some (.ref o)) (some (.ref n)) (some (.str (textOf ps))) x5 x6 x7 x8 x9) H') →
      t D (stA a d (some (.ref o)) (some (.ref n)) (some (.str (textOf ps))) x5 x6 x7 x8 x9) H := by
  refine ⟨_, ⟨ps_if (PW.pt (pw_or (pt_cmpR op_ne (pe_fnY CT (hr.mono (by decide)) (by rfl) (pa_cons (pv 2) pa_nil)) (pv 4) (nomark _)) (pw_or (pt_cmpR (op_neC (n := 1) (units_of hr (by decide))) (pe_fnY CR (hr.mono (by decide)) (by rfl) (pa_cons (pv 4) pa_nil)) (pv 2) (nomark _))
    (pw_or1 (pt_cmpR op_ne (pe_fnY CT (hr.mono (by decide)) (by rfl) (pa_cons (pe_tup pa_nil) pa_nil)) pe_str (nomark _)))))) (pss_one (ps_ret pe_bl)) pss_nil⟩, ?_⟩
  intro D H lds ds a d o n ps ns x5 x6 x7 x8 x9 al k
  have hf := head_facts al.hd
  refine ⟨_, rfl, _, true, rfl, begV_head al.one al.hd, (fun z => by cases z), fun _ => ⟨o, ps, rfl, al.one, hf.s, hf.j, fun H1 s1 => ⟨_, rfl, rfl, _, rfl, ?_⟩⟩⟩
  rw [decide_eq_true rfl]
  have a1 := al.same s1
  refine iteF ⟨_, rfl, _, rfl, .inl ⟨textOf ps, rfl, Nat.le_trans hf.t (by decide), (fun z => by rw [hf.r] at z; cases z), fun qs hqs q H2 s2 hq => ?_⟩⟩
  rw [hf.r] at hqs
  cases hqs
  have a2 := a1.same s2
  refine ⟨_, rfl, true, cmp_self hq a2.one, _, rfl, iteF ⟨Nat.zero_le _, fun t0 ht0 => ?_⟩⟩
  have s3 := same_upd (o := .tup []) ht0
  refine ⟨_, true, rfl, beg_nil upd_same, (fun z => by cases z), fun _ => ⟨t0, [], rfl, upd_same, by decide, by decide +kernel, fun H4 s4 => ⟨rfl, _, rfl, ?_⟩⟩⟩
  rw [decide_eq_true (show V.str (textOf []) = V.str "/" by rw [text_nil])]
  exact iteF (k _ ((a2.same s3).same s4))
theorem st4 {fR : Addr} {fdR : FuncData} (hr : Room 8 (A.deeper (PyProof.Rows.envOfC "law" (defScope sLaw) s.heap.objs.size f (.ref c)))) (CR : CalX P w K mg base 3 "read_name" fR fdR ["text"] (spRead K Nm)) :
    ∃ t, QS (XL P w K mg base f c A outer s H₀ E) (outerB.getD 4 (.Pass ⟨0, 0, 0, 0⟩)) t ∧ ∀ (D : Ends) (H : Hp) (lds : Addr) (ds : List Addr) (a d o n : Addr) (ps ns : List Str) (x4 x5 x6 x7 x8 x9 : Option V), All Pt H lds ds o n ps ns →
      (∀ H', All Pt H' lds ds o n ps ns → D.nx (stA a d (some (.ref o)) (some (.ref n)) x4 x5 x6 x7 x8 x9) H') →
      t D (stA a d (some (.ref o)) (some (.ref n)) x4 x5 x6 x7 x8 x9) H := by
  refine ⟨_, ⟨ps_if (pt_cmpR (op_neC (n := 1) (units_of hr (by decide))) (pe_fnY CR (hr.mono (by decide)) (by rfl) (pa_cons pe_str pa_nil)) (pe_tup pa_nil) (nomark _)) (pss_one (ps_ret pe_bl)) pss_nil⟩, ?_⟩
  intro D H lds ds a d o n ps ns x4 x5 x6 x7 x8 x9 al k
  refine ⟨_, rfl, .inl ⟨"/", rfl, by decide, (fun z => by rw [read_slash] at z; cases z), fun qs hqs q H2 s2 hq => ?_⟩⟩
  rw [read_slash] at hqs
  cases hqs
  refine ⟨Nat.zero_le _, fun t0 ht0 => ?_⟩
  have s3 := same_upd (o := .tup []) ht0
  exact ⟨true, cmp_self (ps := []) (s3 _ _ hq) upd_same, _, rfl, iteF (k _ ((al.same s2).same s3))⟩
theorem st5 {fS : Addr} {fdS : FuncData} (hr : Room 8 (A.deeper (PyProof.Rows.envOfC "law" (defScope sLaw) s.heap.objs.size f (.ref c)))) (CS : CalX P w K mg base 5 "begins" fS fdS ["name", "beginning"] (spBegins K Nm)) :
    ∃ t, QS (XL P w K mg base f c A outer s H₀ E) (outerB.getD 5 (.Pass ⟨0, 0, 0, 0⟩)) t ∧ ∀ (D : Ends) (H : Hp) (lds : Addr) (ds : List Addr) (a d o n : Addr) (ps ns : List Str) (x4 x5 x6 x7 x8 x9 : Option V), All Pt H lds ds o n ps ns →
      (∀ H', All Pt H' lds ds o n ps ns → D.nx (stA a d (some (.ref o)) (some (.ref n)) x4 (some (.bl (decide (ns.take ps.length = ps)))) x6 x7 x8 x9) H') →
      t D (stA a d (some (.ref o)) (some (.ref n)) x4 x5 x6 x7 x8 x9) H := by
  refine ⟨_, ⟨ps_set (i := 5) scLaw.nd rfl (Or.inl rfl) (pe_fnY CS (hr.mono (by decide)) (by rfl) (pa_cons (pv 3) (pa_cons (pv 2) pa_nil)))⟩, ?_⟩
  intro D H lds ds a d o n ps ns x4 x5 x6 x7 x8 x9 al k
  exact ⟨_, rfl, _, rfl, _, _, true, rfl, name_ok al.name al.nm, (fun z => by cases z), fun _ => ⟨true, begV_head al.one al.hd, (fun z => by cases z), fun _ => ⟨n, o, ns, ps, rfl, rfl, al.name, al.one, fun H' s' => k H' (al.same s')⟩⟩⟩
theorem st6 (hr : Room 8 (A.deeper (PyProof.Rows.envOfC "law" (defScope sLaw) s.heap.objs.size f (.ref c)))) (G : Glb mg) :
    ∃ t, QS (XL P w K mg base f c A outer s H₀ E) (outerB.getD 6 (.Pass ⟨0, 0, 0, 0⟩)) t ∧ ∀ (D : Ends) (H : Hp) (lds : Addr) (ds : List Addr) (a d o n : Addr) (ps ns : List Str) (x4 x6 x7 x8 x9 : Option V), All Pt H lds ds o n ps ns →
      (∀ H', All Pt H' lds ds o n ps ns → D.nx (stA a d (some (.ref o)) (some (.ref n)) x4 (some (.bl (decide (ns.take ps.length = ps)))) x6 x7 x8 x9) H') →
      t D (stA a d (some (.ref o)) (some (.ref n)) x4 (some (.bl (decide (ns.take ps.length = ps)))) x6 x7 x8 x9) H := by
  refine ⟨_, ⟨ps_if (PW.pt (pw_or (pt_not (pt_val (pe_callB (call_isiK (kit_bool _)) (by rfl) G.isi PyProof.Rows.boot_isinstance (pa_cons (pv 5) (pa_cons (pe_bltn (v := .ty "bool") (by rfl) G.bool PyProof.Rows.boot_bool rfl) pa_nil)))))
    (pw_or1 (pt_cmpR op_ne (pv 5) (pe_cmpR (op_eqC (n := 1) (units_of hr (by decide))) (pe_slice sl_tupA (pv 3) po_none (po_some (pe_callB call_len (by rfl) G.len PySem.boot_len (pa_cons (pv 2) pa_nil)))) (pv 2) (nomark _)) (nomark _))))) (pss_one (ps_ret pe_bl)) pss_nil⟩, ?_⟩
  intro D H lds ds a d o n ps ns x4 x6 x7 x8 x9 al k
  refine ⟨_, rfl, _, .bl, rfl, kn_bl _, _, rfl, ?_⟩
  refine iteF ⟨_, rfl, _, rfl, _, rfl, _, (ps.map V.str).length, rfl, .inr ⟨_, SqT.of al.one, rfl⟩, _, rfl, n, _, rfl, SqT.of al.name, fun hw => ?_, fun hw q hq => ?_⟩
  · have e : ns.take ps.length = ns := whole_take ns ps.length (by simpa only [List.length_map] using hw.2)
    refine ⟨_, rfl, decide (ns.take ps.length = ps), ?_, rfl, _, rfl, ?_⟩
    · rw [e]
      exact cmp_strs (SqT.of al.name) (SqT.of al.one)
    · rw [decide_eq_true rfl]
      exact iteF (k _ al)
  · have s3 := same_upd (o := .tup (cutV (ns.map V.str) none (some (((ps.map V.str).length : Nat) : Int)))) hq
    refine ⟨_, rfl, decide (ns.take ps.length = ps), cmp_strs (SqT.of ?_) (SqT.of (s3 _ _ al.one)), rfl, _, rfl, ?_⟩
    · rw [upd_same, List.length_map, cut_take]
    · rw [decide_eq_true rfl]
      exact iteF (k _ (al.same s3))
theorem st7 {fS : Addr} {fdS : FuncData} (hr : Room 8 (A.deeper (PyProof.Rows.envOfC "law" (defScope sLaw) s.heap.objs.size f (.ref c)))) (CS : CalX P w K mg base 5 "begins" fS fdS ["name", "beginning"] (spBegins K Nm)) :
    ∃ t, QS (XL P w K mg base f c A outer s H₀ E) (outerB.getD 7 (.Pass ⟨0, 0, 0, 0⟩)) t ∧ ∀ (D : Ends) (H : Hp) (lds : Addr) (ds : List Addr) (a d o n : Addr) (ps ns : List Str) (x4 x5 x6 x7 x8 x9 : Option V), All Pt H lds ds o n ps ns →
      (∀ H', All Pt H' lds ds o n ps ns → D.nx (stA a d (some (.ref o)) (some (.ref n)) x4 x5 x6 x7 x8 x9) H') →
      t D (stA a d (some (.ref o)) (some (.ref n)) x4 x5 x6 x7 x8 x9) H := by
  refine ⟨_, ⟨ps_if (PW.pt (pw_or (pt_cmpR op_isnot_bl (pe_fnY CS (hr.mono (by decide)) (by rfl) (pa_cons (pv 3) (pa_cons (pe_tup pa_nil) pa_nil))) pe_bl (nomark _)) (pw_or1 (pt_cmpR op_isnot_bl (pe_fnY CS (hr.mono (by decide)) (by rfl) (pa_cons (pv 3) (pa_cons (pv 3) pa_nil))) pe_bl (nomark _))))) (pss_one (ps_ret pe_bl)) pss_nil⟩, ?_⟩
  intro D H lds ds a d o n ps ns x4 x5 x6 x7 x8 x9 al k
  refine ⟨_, rfl, Nat.zero_le _, fun t0 ht0 => ?_⟩
  have s0 := same_upd (o := .tup []) ht0
  have a0 := al.same s0
  refine ⟨_, _, true, rfl, name_ok a0.name a0.nm, (fun z => by cases z), fun _ => ⟨true, beg_nil upd_same, (fun z => by cases z), fun _ => ⟨n, t0, ns, [], rfl, rfl, a0.name, upd_same, fun H1 s1 => ⟨_, _, rfl, rfl, _, rfl, iteF ?_⟩⟩⟩⟩
  have a1 := a0.same s1
  refine ⟨_, rfl, _, rfl, _, _, true, rfl, name_ok a1.name a1.nm, (fun z => by cases z), fun _ => ⟨true, beg_name (name_ok a1.name a1.nm), (fun z => by cases z), fun _ => ⟨n, n, ns, ns, rfl, rfl, a1.name, a1.name, fun H2 s2 => ⟨_, _, rfl, rfl, _, rfl, ?_⟩⟩⟩⟩
  rw [decide_eq_true (show ns.take ns.length = ns from List.take_length)]
  exact iteF (k _ (a1.same s2))
theorem st8 {fS : Addr} {fdS : FuncData} (hr : Room 8 (A.deeper (PyProof.Rows.envOfC "law" (defScope sLaw) s.heap.objs.size f (.ref c)))) (CS : CalX P w K mg base 5 "begins" fS fdS ["name", "beginning"] (spBegins K Nm)) :
    ∃ t, QS (XL P w K mg base f c A outer s H₀ E) (outerB.getD 8 (.Pass ⟨0, 0, 0, 0⟩)) t ∧ ∀ (D : Ends) (H : Hp) (lds : Addr) (ds : List Addr) (a d o n : Addr) (ps ns : List Str) (x4 x5 x6 x7 x8 x9 : Option V), All Pt H lds ds o n ps ns →
      (∀ H', All Pt H' lds ds o n ps ns → D.nx (stA a d (some (.ref o)) (some (.ref n)) x4 x5 x6 x7 x8 x9) H') →
      t D (stA a d (some (.ref o)) (some (.ref n)) x4 x5 x6 x7 x8 x9) H := by
  refine ⟨_, ⟨ps_if (pt_cmpR op_isnot_bl (pe_fnY CS (hr.mono (by decide)) (by rfl) (pa_cons (pe_tup (pa_cons pe_str pa_nil)) (pa_cons (pe_tup (pa_cons pe_str (pa_cons pe_str pa_nil))) pa_nil))) pe_bl (nomark _)) (pss_one (ps_ret pe_bl)) pss_nil⟩, ?_⟩
  intro D H lds ds a d o n ps ns x4 x5 x6 x7 x8 x9 al k
  refine ⟨(by show 1 ≤ sizeLine; decide), fun t1 ht1 => ⟨(by show 2 ≤ sizeLine; decide), fun t2 ht2 => ?_⟩⟩
  have s1 := same_upd (o := .tup [.str "a"]) ht1
  have s2 := same_upd (o := .tup [.str "a", .str "a"]) ht2
  have h1 : upd (upd H t1 (.tup [.str "a"])) t2 (.tup [.str "a", .str "a"]) t1 = some (.tup ((["a"] : List Str).map V.str)) := s2 _ _ upd_same
  have h2 : upd (upd H t1 (.tup [.str "a"])) t2 (.tup [.str "a", .str "a"]) t2 = some (.tup ((["a", "a"] : List Str).map V.str)) := upd_same
  have ok1 : NameOk ["a"] := ⟨by decide, by decide, by decide +kernel⟩
  have ok2 : NameOk ["a", "a"] := ⟨by decide, by decide, by decide +kernel⟩
  have e : decide (List.take (["a", "a"] : List Str).length (["a"] : List Str) = (["a", "a"] : List Str)) = false := by decide +kernel
  refine ⟨_, _, true, rfl, name_ok h1 ok1, (fun z => by cases z), fun _ => ⟨true, beg_name (name_ok h2 ok2), (fun z => by cases z), fun _ => ⟨t1, t2, ["a"], ["a", "a"], rfl, rfl, h1, h2, fun H1 s3 => ⟨_, _, rfl, rfl, _, rfl, ?_⟩⟩⟩⟩
  rw [e]
  exact iteF (k _ (al.same ((s1.trans s2).trans s3)))
end
end K10
end
section
set_option Elab.async false
set_option linter.all false
set_option maxRecDepth 100000
set_option maxHeartbeats 1000000
namespace K10
open PySem L2
noncomputable abbrev asgE (s : Stmt) : Expr := match s with | .Assign _ e _ => e | _ => .Constant .none 0 ⟨0, 0, 0, 0⟩
noncomputable abbrev catE (e : Expr) : Expr := match e with | .BinOp _ _ b _ => b | _ => .Constant .none 0 ⟨0, 0, 0, 0⟩
theorem lit9g {X : Cx} {q1 q2 q3 q4 q5 q6 q7 q8 q9 q10 q11 q12 q13 q14 q15 q16 q17 q18 q19 q20 : Pos} : ∃ t, QE X (Expr.List [Expr.Constant Const.none 0 q1, Expr.Constant (Const.int 5) 0 q2, Expr.Constant (Const.bool true) 0 q3, Expr.Constant (Const.str "a") 0 q4, Expr.Constant (Const.str "/a") 0 q5, Expr.List [Expr.Constant (Const.str "a") 0 q6] q7, Expr.Tuple [Expr.Constant (Const.str "") 0 q8] 0 q9, Expr.Tuple [Expr.Constant (Const.str "A") 0 q10] 0 q11, Expr.Tuple [Expr.Constant (Const.str "abcde") 0 q12] 0 q13, Expr.Tuple [Expr.Constant (Const.str "a/b") 0 q14] 0 q15, Expr.Tuple [Expr.Constant (Const.str "a b") 0 q16] 0 q17, Expr.Tuple [Expr.Constant (Const.int 5) 0 q18] 0 q19] q20) t ∧ ∀ (σ : L2.St) (H : Hp) (Q : VK), (∀ (H' : Hp) (lb : Addr) (xs : List V), Same H H' → H' lb = some (.lst xs) → xs.length ≤ 50 → (∀ x ∈ xs, BadT H' x) → Q (.ref lb) H') → t σ H Q := by
  have a11 := qc (qt (pos := q19) (qc (qi (X := X) (i := 5) (pos := q18)) qnil)) qnil
  have a10 := qc (qt (pos := q17) (qc (qs (X := X) (x := "a b") (pos := q16)) qnil)) a11
  have a9 := qc (qt (pos := q15) (qc (qs (X := X) (x := "a/b") (pos := q14)) qnil)) a10
  have a8 := qc (qt (pos := q13) (qc (qs (X := X) (x := "abcde") (pos := q12)) qnil)) a9
  have a7 := qc (qt (pos := q11) (qc (qs (X := X) (x := "A") (pos := q10)) qnil)) a8
  have a6 := qc (qt (pos := q9) (qc (qs (X := X) (x := "") (pos := q8)) qnil)) a7
  have a5 := qc (ql (pos := q7) (qc (qs (X := X) (x := "a") (pos := q6)) qnil)) a6
  have a4 := qc (qs (X := X) (x := "/a") (pos := q5)) a5
  have a3 := qc (qs (X := X) (x := "a") (pos := q4)) a4
  have a2 := qc (qb (X := X) (b := true) (pos := q3)) a3
  have a1 := qc (qi (X := X) (i := 5) (pos := q2)) a2
  have a0 := qc (qn (X := X) (pos := q1)) a1
  refine ⟨_, ql (pos := q20) a0, ?_⟩
  clear a0 a1 a2 a3 a4 a5 a6 a7 a8 a9 a10 a11
  intro σ H Q q
  refine ⟨(by show 1 ≤ sizeLine; decide), fun b1 nb1 => ⟨(by show 1 ≤ sizeLine; decide), fun b2 nb2 => ⟨(by show 1 ≤ sizeLine; decide), fun b3 nb3 => ⟨(by show 1 ≤ sizeLine; decide), fun b4 nb4 => ⟨(by show 1 ≤ sizeLine; decide), fun b5 nb5 => ⟨(by show 1 ≤ sizeLine; decide), fun b6 nb6 => ⟨(by show 1 ≤ sizeLine; decide), fun b7 nb7 => ⟨(by show 12 ≤ sizeLine; decide), fun lb nlb => ?_⟩⟩⟩⟩⟩⟩⟩⟩
  have sb1 := same_upd (o := .lst [.str "a"]) nb1
  have sb2 := same_upd (o := .tup [.str ""]) nb2
  have sb3 := same_upd (o := .tup [.str "A"]) nb3
  have sb4 := same_upd (o := .tup [.str "abcde"]) nb4
  have sb5 := same_upd (o := .tup [.str "a/b"]) nb5
  have sb6 := same_upd (o := .tup [.str "a b"]) nb6
  have sb7 := same_upd (o := .tup [.int 5]) nb7
  have slb := same_upd (o := .lst [.non, .int 5, .bl true, .str "a", .str "/a", .ref b1, .ref b2, .ref b3, .ref b4, .ref b5, .ref b6, .ref b7]) nlb
  have hb7 := slb _ _ (upd_same (a := b7) (o := .tup [.int 5]))
  have rb7 := sb7.trans slb
  have hb6 := rb7 _ _ (upd_same (a := b6) (o := .tup [.str "a b"]))
  have rb6 := sb6.trans rb7
  have hb5 := rb6 _ _ (upd_same (a := b5) (o := .tup [.str "a/b"]))
  have rb5 := sb5.trans rb6
  have hb4 := rb5 _ _ (upd_same (a := b4) (o := .tup [.str "abcde"]))
  have rb4 := sb4.trans rb5
  have hb3 := rb4 _ _ (upd_same (a := b3) (o := .tup [.str "A"]))
  have rb3 := sb3.trans rb4
  have hb2 := rb3 _ _ (upd_same (a := b2) (o := .tup [.str ""]))
  have rb2 := sb2.trans rb3
  have hb1 := rb2 _ _ (upd_same (a := b1) (o := .lst [.str "a"]))
  have rb1 := sb1.trans rb2
  refine q _ lb _ rb1 upd_same (by show 12 ≤ 50; decide) fun x hx => ?_
  simp only [List.mem_cons, List.not_mem_nil, or_false] at hx
  rcases hx with rfl | rfl | rfl | rfl | rfl | rfl | rfl | rfl | rfl | rfl | rfl | rfl
  · exact .inl rfl
  · exact .inr (.inl ⟨_, rfl⟩)
  · exact .inr (.inr (.inl ⟨_, rfl⟩))
  · exact .inr (.inr (.inr (.inl ⟨_, rfl⟩)))
  · exact .inr (.inr (.inr (.inl ⟨_, rfl⟩)))
  · exact .inr (.inr (.inr (.inr (.inl ⟨_, _, rfl, hb1⟩))))
  · exact .inr (.inr (.inr (.inr (.inr (.inl ⟨_, _, rfl, hb2, .inl ⟨_, rfl, by decide, by decide +kernel⟩⟩)))))
  · exact .inr (.inr (.inr (.inr (.inr (.inl ⟨_, _, rfl, hb3, .inl ⟨_, rfl, by decide, by decide +kernel⟩⟩)))))
  · exact .inr (.inr (.inr (.inr (.inr (.inl ⟨_, _, rfl, hb4, .inl ⟨_, rfl, by decide, by decide +kernel⟩⟩)))))
  · exact .inr (.inr (.inr (.inr (.inr (.inl ⟨_, _, rfl, hb5, .inl ⟨_, rfl, by decide, by decide +kernel⟩⟩)))))
  · exact .inr (.inr (.inr (.inr (.inr (.inl ⟨_, _, rfl, hb6, .inl ⟨_, rfl, by decide, by decide +kernel⟩⟩)))))
  · exact .inr (.inr (.inr (.inr (.inr (.inl ⟨_, _, rfl, hb7, .inr (.inl ⟨_, rfl⟩)⟩)))))
noncomputable abbrev lit9E : Expr := asgE (outerB.getD 9 (.Pass ⟨0, 0, 0, 0⟩))
theorem lit9 {X : Cx} : ∃ t, QE X lit9E t ∧ ∀ (σ : L2.St) (H : Hp) (Q : VK), (∀ (H' : Hp) (lb : Addr) (xs : List V), Same H H' → H' lb = some (.lst xs) → xs.length ≤ 50 → (∀ x ∈ xs, BadT H' x) → Q (.ref lb) H') → t σ H Q := lit9g
theorem lit10g {X : Cx} {q1 q2 q3 q4 q5 q6 q7 q8 q9 q10 : Pos} : ∃ t, QE X (Expr.List [Expr.Tuple [Expr.Constant Const.none 0 q1] 0 q2, Expr.Tuple [Expr.Tuple [Expr.Constant (Const.str "a") 0 q3] 0 q4] 0 q5, Expr.BinOp (Expr.Tuple [Expr.Constant (Const.str "a") 0 q6] 0 q7) Operator.Mult (Expr.Constant (Const.int 6) 0 q8) q9] q10) t ∧ ∀ (σ : L2.St) (H : Hp) (Q : VK), (∀ (H' : Hp) (lb : Addr) (xs : List V), Same H H' → H' lb = some (.lst xs) → xs.length ≤ 50 → (∀ x ∈ xs, BadT H' x) → Q (.ref lb) H') → t σ H Q := by
  have a2 := qc (qr (pos := q9) (qt (pos := q7) (qc (qs (X := X) (x := "a") (pos := q6)) qnil)) (qi (X := X) (i := 6) (pos := q8))) qnil
  have a1 := qc (qt (pos := q5) (qc (qt (pos := q4) (qc (qs (X := X) (x := "a") (pos := q3)) qnil)) qnil)) a2
  have a0 := qc (qt (pos := q2) (qc (qn (X := X) (pos := q1)) qnil)) a1
  refine ⟨_, ql (pos := q10) a0, ?_⟩
  clear a0 a1 a2
  intro σ H Q q
  refine ⟨(by show 1 ≤ sizeLine; decide), fun b1 nb1 => ⟨(by show 1 ≤ sizeLine; decide), fun b2 nb2 => ⟨(by show 1 ≤ sizeLine; decide), fun b3 nb3 => ⟨(by show 1 ≤ sizeLine; decide), fun b4 nb4 => ⟨b4, 6, _, rfl, rfl, SqT.of upd_same, (fun z => nomatch z), by decide, by decide, (by show 1 ≤ 1000; decide), fun b5 nb5 => ⟨(by show 3 ≤ sizeLine; decide), fun lb nlb => ?_⟩⟩⟩⟩⟩⟩
  have sb1 := same_upd (o := .tup [.non]) nb1
  have sb2 := same_upd (o := .tup [.str "a"]) nb2
  have sb3 := same_upd (o := .tup [.ref b2]) nb3
  have sb4 := same_upd (o := .tup [.str "a"]) nb4
  have sb5 := same_upd (o := .tup six) nb5
  have slb := same_upd (o := .lst [.ref b1, .ref b3, .ref b5]) nlb
  have hb5 := slb _ _ (upd_same (a := b5) (o := .tup six))
  have rb5 := sb5.trans slb
  have hb4 := rb5 _ _ (upd_same (a := b4) (o := .tup [.str "a"]))
  have rb4 := sb4.trans rb5
  have hb3 := rb4 _ _ (upd_same (a := b3) (o := .tup [.ref b2]))
  have rb3 := sb3.trans rb4
  have hb2 := rb3 _ _ (upd_same (a := b2) (o := .tup [.str "a"]))
  have rb2 := sb2.trans rb3
  have hb1 := rb2 _ _ (upd_same (a := b1) (o := .tup [.non]))
  have rb1 := sb1.trans rb2
  refine q _ lb _ rb1 upd_same (by show 3 ≤ 50; decide) fun x hx => ?_
  simp only [List.mem_cons, List.not_mem_nil, or_false] at hx
  rcases hx with rfl | rfl | rfl
  · exact .inr (.inr (.inr (.inr (.inr (.inl ⟨_, _, rfl, hb1, .inr (.inr (.inl rfl))⟩)))))
  · exact .inr (.inr (.inr (.inr (.inr (.inl ⟨_, _, rfl, hb3, .inr (.inr (.inr (⟨_, _, rfl, hb2⟩)))⟩)))))
  · exact .inr (.inr (.inr (.inr (.inr (.inr (⟨_, rfl, hb5⟩))))))
noncomputable abbrev lit10E : Expr := catE (asgE (outerB.getD 10 (.Pass ⟨0, 0, 0, 0⟩)))
theorem lit10 {X : Cx} : ∃ t, QE X lit10E t ∧ ∀ (σ : L2.St) (H : Hp) (Q : VK), (∀ (H' : Hp) (lb : Addr) (xs : List V), Same H H' → H' lb = some (.lst xs) → xs.length ≤ 50 → (∀ x ∈ xs, BadT H' x) → Q (.ref lb) H') → t σ H Q := lit10g
theorem lit12g {X : Cx} {q1 q2 q3 q4 q5 q6 q7 q8 q9 q10 q11 q12 : Pos} : ∃ t, QE X (Expr.List [Expr.Constant Const.none 0 q1, Expr.Constant (Const.int 5) 0 q2, Expr.Constant (Const.str "") 0 q3, Expr.Constant (Const.str "a") 0 q4, Expr.Constant (Const.str "//") 0 q5, Expr.Constant (Const.str "/a/") 0 q6, Expr.Constant (Const.str "/A") 0 q7, Expr.Constant (Const.str "/abcde") 0 q8, Expr.Constant (Const.str "a/b") 0 q9, Expr.Constant (Const.str "/a/b/c/d/e/f") 0 q10, Expr.Constant (Const.str "/a b") 0 q11] q12) t ∧ ∀ (σ : L2.St) (H : Hp) (Q : VK), (∀ (H' : Hp) (lb : Addr) (xs : List V), Same H H' → H' lb = some (.lst xs) → xs.length ≤ 50 → (∀ x ∈ xs, CaseT H' x) → Q (.ref lb) H') → t σ H Q := by
  have a10 := qc (qs (X := X) (x := "/a b") (pos := q11)) qnil
  have a9 := qc (qs (X := X) (x := "/a/b/c/d/e/f") (pos := q10)) a10
  have a8 := qc (qs (X := X) (x := "a/b") (pos := q9)) a9
  have a7 := qc (qs (X := X) (x := "/abcde") (pos := q8)) a8
  have a6 := qc (qs (X := X) (x := "/A") (pos := q7)) a7
  have a5 := qc (qs (X := X) (x := "/a/") (pos := q6)) a6
  have a4 := qc (qs (X := X) (x := "//") (pos := q5)) a5
  have a3 := qc (qs (X := X) (x := "a") (pos := q4)) a4
  have a2 := qc (qs (X := X) (x := "") (pos := q3)) a3
  have a1 := qc (qi (X := X) (i := 5) (pos := q2)) a2
  have a0 := qc (qn (X := X) (pos := q1)) a1
  refine ⟨_, ql (pos := q12) a0, ?_⟩
  clear a0 a1 a2 a3 a4 a5 a6 a7 a8 a9 a10
  intro σ H Q q
  refine ⟨(by show 11 ≤ sizeLine; decide), fun lb nlb => ?_⟩
  have slb := same_upd (o := .lst [.non, .int 5, .str "", .str "a", .str "//", .str "/a/", .str "/A", .str "/abcde", .str "a/b", .str "/a/b/c/d/e/f", .str "/a b"]) nlb
  refine q _ lb _ slb upd_same (by show 11 ≤ 50; decide) fun x hx => ?_
  simp only [List.mem_cons, List.not_mem_nil, or_false] at hx
  rcases hx with rfl | rfl | rfl | rfl | rfl | rfl | rfl | rfl | rfl | rfl | rfl
  · exact .inl rfl
  · exact .inr (.inl ⟨_, rfl⟩)
  · exact .inr (.inr (.inl ⟨_, rfl, by decide, by decide +kernel⟩))
  · exact .inr (.inr (.inl ⟨_, rfl, by decide, by decide +kernel⟩))
  · exact .inr (.inr (.inl ⟨_, rfl, by decide, by decide +kernel⟩))
  · exact .inr (.inr (.inl ⟨_, rfl, by decide, by decide +kernel⟩))
  · exact .inr (.inr (.inl ⟨_, rfl, by decide, by decide +kernel⟩))
  · exact .inr (.inr (.inl ⟨_, rfl, by decide, by decide +kernel⟩))
  · exact .inr (.inr (.inl ⟨_, rfl, by decide, by decide +kernel⟩))
  · exact .inr (.inr (.inl ⟨_, rfl, by decide, by decide +kernel⟩))
  · exact .inr (.inr (.inl ⟨_, rfl, by decide, by decide +kernel⟩))
noncomputable abbrev lit12E : Expr := asgE (outerB.getD 12 (.Pass ⟨0, 0, 0, 0⟩))
theorem lit12 {X : Cx} : ∃ t, QE X lit12E t ∧ ∀ (σ : L2.St) (H : Hp) (Q : VK), (∀ (H' : Hp) (lb : Addr) (xs : List V), Same H H' → H' lb = some (.lst xs) → xs.length ≤ 50 → (∀ x ∈ xs, CaseT H' x) → Q (.ref lb) H') → t σ H Q := lit12g
theorem lit13g {X : Cx} {q1 q2 q3 q4 q5 : Pos} : ∃ t, QE X (Expr.List [Expr.Tuple [Expr.Constant (Const.str "a") 0 q1] 0 q2, Expr.Constant (Const.str "/a//b") 0 q3, Expr.Constant (Const.str "/-") 0 q4] q5) t ∧ ∀ (σ : L2.St) (H : Hp) (Q : VK), (∀ (H' : Hp) (lb : Addr) (xs : List V), Same H H' → H' lb = some (.lst xs) → xs.length ≤ 50 → (∀ x ∈ xs, CaseT H' x) → Q (.ref lb) H') → t σ H Q := by
  have a2 := qc (qs (X := X) (x := "/-") (pos := q4)) qnil
  have a1 := qc (qs (X := X) (x := "/a//b") (pos := q3)) a2
  have a0 := qc (qt (pos := q2) (qc (qs (X := X) (x := "a") (pos := q1)) qnil)) a1
  refine ⟨_, ql (pos := q5) a0, ?_⟩
  clear a0 a1 a2
  intro σ H Q q
  refine ⟨(by show 1 ≤ sizeLine; decide), fun b1 nb1 => ⟨(by show 3 ≤ sizeLine; decide), fun lb nlb => ?_⟩⟩
  have sb1 := same_upd (o := .tup [.str "a"]) nb1
  have slb := same_upd (o := .lst [.ref b1, .str "/a//b", .str "/-"]) nlb
  have hb1 := slb _ _ (upd_same (a := b1) (o := .tup [.str "a"]))
  have rb1 := sb1.trans slb
  refine q _ lb _ rb1 upd_same (by show 3 ≤ 50; decide) fun x hx => ?_
  simp only [List.mem_cons, List.not_mem_nil, or_false] at hx
  rcases hx with rfl | rfl | rfl
  · exact .inr (.inr (.inr (⟨_, _, rfl, hb1⟩)))
  · exact .inr (.inr (.inl ⟨_, rfl, by decide, by decide +kernel⟩))
  · exact .inr (.inr (.inl ⟨_, rfl, by decide, by decide +kernel⟩))
noncomputable abbrev lit13E : Expr := catE (asgE (outerB.getD 13 (.Pass ⟨0, 0, 0, 0⟩)))
theorem lit13 {X : Cx} : ∃ t, QE X lit13E t ∧ ∀ (σ : L2.St) (H : Hp) (Q : VK), (∀ (H' : Hp) (lb : Addr) (xs : List V), Same H H' → H' lb = some (.lst xs) → xs.length ≤ 50 → (∀ x ∈ xs, CaseT H' x) → Q (.ref lb) H') → t σ H Q := lit13g
end K10
end
section
set_option Elab.async false
set_option linter.all false
set_option maxRecDepth 100000
set_option maxHeartbeats 400000
namespace K10
open PySem L2
noncomputable abbrev inB : List Stmt := forBodyX (outerB.getD 11 (.Pass ⟨0, 0, 0, 0⟩))
noncomputable abbrev inC : List Stmt := forBodyX (outerB.getD 14 (.Pass ⟨0, 0, 0, 0⟩))
noncomputable def Bad (K : PySem.W.Frag) (H : Hp) (v : V) : Prop := ∀ H', Lits H H' → NameV K H' v false ∧ BegV K H' v false
section
variable {P : Program} {w : World} {K : PySem.W.Frag} {mg : Str → Option Value} {base : Heap} {f : Addr} {c Pt Nm ft W : Addr} {fdt : FuncData} {wd : Addr → Str → Prop} {A : Around} {outer : List Env} {s : Shared} {H₀ : Hp} {E : XK}
theorem in0 {fN fB : Addr} {fdN fdB : FuncData} (hr : Room 8 (A.deeper (PyProof.Rows.envOfC "law" (defScope sLaw) s.heap.objs.size f (.ref c)))) (CN : Cal P w K mg base 2 "is_name" fN fdN ["thing"] (spName K)) (CB : Cal P w K mg base 3 "is_beginning" fB fdB ["thing"] (spBeg K)) :
    ∃ t, QS (XL P w K mg base f c A outer s H₀ E) (inB.getD 0 (.Pass ⟨0, 0, 0, 0⟩)) t ∧ ∀ (D : Ends) (H : Hp) (a d : Addr) (x2 x3 x4 x5 x6 x8 x9 : Option V) (v : V), Bad K H v →
      (∀ H', Same H H' → D.nx (stA a d x2 x3 x4 x5 x6 (some v) x8 x9) H') → t D (stA a d x2 x3 x4 x5 x6 (some v) x8 x9) H := by
  refine ⟨_, ⟨ps_if (PW.pt (pw_or (pt_cmpR op_isnot_bl (pe_fn CB (hr.mono (by decide)) (by rfl) (pa_cons (pv 7) pa_nil)) pe_bl (nomark _)) (pw_or1 (pt_cmpR op_isnot_bl (pe_fn CN (hr.mono (by decide)) (by rfl) (pa_cons (pv 7) pa_nil)) pe_bl (nomark _))))) (pss_one (ps_ret pe_bl)) pss_nil⟩, ?_⟩
  intro D H a d x2 x3 x4 x5 x6 x8 x9 v hb k
  refine ⟨_, rfl, _, false, rfl, (hb H (Lits.of (Same.refl _))).2, fun H1 s1 => ⟨_, _, rfl, rfl, _, rfl, iteF ?_⟩⟩
  exact ⟨_, rfl, _, false, rfl, (hb H1 (Lits.of s1)).1, fun H2 s2 => ⟨_, _, rfl, rfl, _, rfl, iteF (k H2 (s1.trans s2))⟩⟩
theorem in1 {fT : Addr} {fdT : FuncData} (hr : Room 8 (A.deeper (PyProof.Rows.envOfC "law" (defScope sLaw) s.heap.objs.size f (.ref c)))) (EV : EnvT P w K mg base c Pt ft W fdt wd) (Z : Say K W wd Nm "BadName") (CT : CalX P w K mg base 5 "name_text" fT fdT ["beginning"] (spText K Nm)) :
    ∃ t, QS (XL P w K mg base f c A outer s H₀ E) (inB.getD 1 (.Pass ⟨0, 0, 0, 0⟩)) t ∧ ∀ (D : Ends) (H : Hp) (a d : Addr) (x2 x3 x4 x5 x6 x8 x9 : Option V) (v : V), Bad K H v → Tbl H Pt qLam →
      (∀ H' lf t1, Run Pt "BadName" H H' lf [t1] → D.nx (stA a d x2 x3 x4 x5 x6 (some v) (some (.ref lf)) x9) H') → t D (stA a d x2 x3 x4 x5 x6 (some v) x8 x9) H := by
  refine ⟨_, ⟨ps_set (i := 8) scLaw.nd rfl (Or.inl rfl) (pe_lst (pa_cons (pe_told (k := 6) EV.told (by rfl) EV.mt EV.kt rfl EV.hC EV.hB hr (by decide) (by rfl) (fun f c' A outer s' H' E hr' => pe_fnX CT (hr'.mono (by decide)) (by rfl) flies_lam (pa_cons (pv 7) pa_nil))) pa_nil))⟩, ?_⟩
  intro D H a d x2 x3 x4 x5 x6 x8 x9 v hb tb k
  refine ⟨tb, fun H1 g1 b1 => ⟨_, rfl, v, false, rfl, (hb H1 (grown_lits tb g1)).2, (fun _ H2 s2 => fin_told Z g1 b1 s2 fun t1 H3 g3 b3 ht1 => ?_), (fun z => by cases z)⟩⟩
  exact ⟨(by show 1 ≤ sizeLine; decide), fun lf hlf => k _ lf t1 (Run.first g3 b3 ht1 hlf)⟩
theorem in2 {fS : Addr} {fdS : FuncData} (hr : Room 8 (A.deeper (PyProof.Rows.envOfC "law" (defScope sLaw) s.heap.objs.size f (.ref c)))) (EV : EnvT P w K mg base c Pt ft W fdt wd) (Z : Say K W wd Nm "BadName") (CS : CalX P w K mg base 5 "begins" fS fdS ["name", "beginning"] (spBegins K Nm)) :
    ∃ t, QS (XL P w K mg base f c A outer s H₀ E) (inB.getD 2 (.Pass ⟨0, 0, 0, 0⟩)) t ∧ ∀ (D : Ends) (H Hc : Hp) (a d lf t1 : Addr) (x2 x3 x4 x5 x6 x9 : Option V) (v : V), Bad K H v → Tbl H Pt qLam → Run Pt "BadName" H Hc lf [t1] →
      (∀ H' t2, Run Pt "BadName" H H' lf [t1, t2] → D.nx (stA a d x2 x3 x4 x5 x6 (some v) (some (.ref lf)) x9) H') → t D (stA a d x2 x3 x4 x5 x6 (some v) (some (.ref lf)) x9) Hc := by
  refine ⟨_, ⟨ps_expr (pe_bm PySem.F.plainAttrs_list PySem.F.slot_list_append PySem.F.type_list_append mt_append (pv 8) (pa_cons (pe_told (k := 6) EV.told (by rfl) EV.mt EV.kt rfl EV.hC EV.hB hr (by decide) (by rfl) (fun f c' A outer s' H' E hr' => pe_fnX CS (hr'.mono (by decide)) (by rfl) flies_lam (pa_cons (pv 7) (pa_cons (pe_tup pa_nil) pa_nil)))) pa_nil))⟩, ?_⟩
  intro D H Hc a d lf t1 x2 x3 x4 x5 x6 x9 v hb tb R k
  refine ⟨_, rfl, .inl ⟨rfl, _, SqL.of R.l⟩, R.b, fun H1 g1 b1 => ?_⟩
  refine ⟨_, rfl, Nat.zero_le _, fun t0 ht0 => ?_⟩
  have s0 := same_upd (o := .tup []) ht0
  have l := ((grown_lits tb R.g).trans (grown_lits R.b g1)).trans (Lits.of s0)
  refine ⟨v, _, false, rfl, (hb _ l).1, (fun _ H2 s2 => fin_told Z g1 b1 (s0.trans s2) fun t2 H3 g3 b3 ht2 => ?_), (fun z => by cases z)⟩
  exact ⟨lf, _, _, rfl, rfl, R.at g3, (by show 1 < sizeLine; decide), k _ t2 (R.told g3 b3 ht2)⟩
theorem in3 {fS : Addr} {fdS : FuncData} (hr : Room 8 (A.deeper (PyProof.Rows.envOfC "law" (defScope sLaw) s.heap.objs.size f (.ref c)))) (EV : EnvT P w K mg base c Pt ft W fdt wd) (Z : Say K W wd Nm "BadName") (CS : CalX P w K mg base 5 "begins" fS fdS ["name", "beginning"] (spBegins K Nm)) :
    ∃ t, QS (XL P w K mg base f c A outer s H₀ E) (inB.getD 3 (.Pass ⟨0, 0, 0, 0⟩)) t ∧ ∀ (D : Ends) (H Hc : Hp) (a d n lf t1 t2 : Addr) (ns : List Str) (x2 x4 x5 x6 x9 : Option V) (v : V), Bad K H v → Tbl H Pt qLam → H n = some (.tup (ns.map V.str)) → NameOk ns → Run Pt "BadName" H Hc lf [t1, t2] →
      (∀ H' t3, Run Pt "BadName" H H' lf [t1, t2, t3] → D.nx (stA a d x2 (some (.ref n)) x4 x5 x6 (some v) (some (.ref lf)) x9) H') → t D (stA a d x2 (some (.ref n)) x4 x5 x6 (some v) (some (.ref lf)) x9) Hc := by
  refine ⟨_, ⟨ps_expr (pe_bm PySem.F.plainAttrs_list PySem.F.slot_list_append PySem.F.type_list_append mt_append (pv 8) (pa_cons (pe_told (k := 6) EV.told (by rfl) EV.mt EV.kt rfl EV.hC EV.hB hr (by decide) (by rfl) (fun f c' A outer s' H' E hr' => pe_fnX CS (hr'.mono (by decide)) (by rfl) flies_lam (pa_cons (pv 3) (pa_cons (pv 7) pa_nil)))) pa_nil))⟩, ?_⟩
  intro D H Hc a d n lf t1 t2 ns x2 x4 x5 x6 x9 v hb tb hn ok R k
  refine ⟨_, rfl, .inl ⟨rfl, _, SqL.of R.l⟩, R.b, fun H1 g1 b1 => ?_⟩
  have l := (grown_lits tb R.g).trans (grown_lits R.b g1)
  refine ⟨_, rfl, _, rfl, _, v, true, rfl, name_ok (l.1 _ _ hn) ok, (fun z => by cases z), fun _ => ⟨false, (hb _ l).2, (fun _ H2 s2 => fin_told Z g1 b1 s2 fun t3 H3 g3 b3 ht3 => ?_), (fun z => by cases z)⟩⟩
  exact ⟨lf, _, _, rfl, rfl, R.at g3, (by show 2 < sizeLine; decide), k _ t3 (R.told g3 b3 ht3)⟩
theorem in4 (hr : Room 8 (A.deeper (PyProof.Rows.envOfC "law" (defScope sLaw) s.heap.objs.size f (.ref c)))) :
    ∃ t, QS (XL P w K mg base f c A outer s H₀ E) (inB.getD 4 (.Pass ⟨0, 0, 0, 0⟩)) t ∧ ∀ (D : Ends) (H Hc : Hp) (a d lf t1 t2 t3 : Addr) (x2 x3 x4 x5 x6 x7 x9 : Option V), Run Pt "BadName" H Hc lf [t1, t2, t3] →
      (∀ H', Same Hc H' → D.nx (stA a d x2 x3 x4 x5 x6 x7 (some (.ref lf)) x9) H') → t D (stA a d x2 x3 x4 x5 x6 x7 (some (.ref lf)) x9) Hc := by
  refine ⟨_, ⟨ps_if (pt_cmpR (op_neC (n := 2) (units_of hr (by decide))) (pv 8) (pe_op op_rep (pe_lst (pa_cons (pe_tup (pa_cons pe_str (pa_cons pe_str pa_nil))) pa_nil)) pe_int) (nomark _)) (pss_one (ps_ret pe_bl)) pss_nil⟩, ?_⟩
  intro D H Hc a d lf t1 t2 t3 x2 x3 x4 x5 x6 x7 x9 R k
  refine ⟨_, rfl, (by show 2 ≤ sizeLine; decide), fun t0 ht0 => ⟨(by show 1 ≤ sizeLine; decide), fun l0 hl0 => ⟨l0, 3, _, rfl, rfl, upd_same, by decide, by decide, (by show 1 * 3 ≤ sizeLine; decide), fun l9 hl9 => ?_⟩⟩⟩
  have s1 := same_upd (o := .tup [.str "refused", .str "BadName"]) ht0
  have s2 := same_upd (o := .lst [.ref t0]) hl0
  have s3 := same_upd (o := .lst (List.replicate (3 : Int).toNat [V.ref t0]).flatten) hl9
  have s13 := (s1.trans s2).trans s3
  refine ⟨true, cmp_refs (ts := [t1, t2, t3]) (us := [t0, t0, t0]) (wrd := "BadName") (s13 _ _ R.l) upd_same rfl (fun u hu => s13 _ _ (R.k u hu)) (fun u hu => ?_), _, rfl, iteF (k _ s13)⟩
  have : u = t0 := by simpa using hu
  rw [this]
  exact s3 _ _ (s2 _ _ upd_same)
theorem inc {fR : Addr} {fdR : FuncData} (hr : Room 8 (A.deeper (PyProof.Rows.envOfC "law" (defScope sLaw) s.heap.objs.size f (.ref c)))) (EV : EnvT P w K mg base c Pt ft W fdt wd) (Z : Say K W wd Nm "BadName") (CR : CalX P w K mg base 3 "read_name" fR fdR ["text"] (spRead K Nm)) :
    ∃ t, QS (XL P w K mg base f c A outer s H₀ E) (inC.getD 0 (.Pass ⟨0, 0, 0, 0⟩)) t ∧ ∀ (D : Ends) (H : Hp) (a d : Addr) (x2 x3 x4 x5 x6 x8 x9 : Option V) (v : V), CaseT H v → Tbl H Pt qLam →
      (∀ H', Grown Pt H H' → Tbl H' Pt qLam → D.nx (stA a d x2 x3 x4 x5 x6 (some v) x8 x9) H') → t D (stA a d x2 x3 x4 x5 x6 (some v) x8 x9) H := by
  refine ⟨_, ⟨ps_if (pt_cmpR (op_neC (n := 1) (units_of hr (by decide))) (pe_told (k := 6) EV.told (by rfl) EV.mt EV.kt rfl EV.hC EV.hB hr (by decide) (by rfl) (fun f c' A outer s' H' E hr' => pe_fnX CR (hr'.mono (by decide)) (by rfl) flies_lam (pa_cons (pv 7) pa_nil))) (pe_tup (pa_cons pe_str (pa_cons pe_str pa_nil))) (nomark _)) (pss_one (ps_ret pe_bl)) pss_nil⟩, ?_⟩
  intro D H a d x2 x3 x4 x5 x6 x8 x9 v hc tb k
  refine ⟨tb, fun H1 g1 b1 => ?_⟩
  have fin : ∀ {Q : VK}, (∀ (t : Addr) (H3 : Hp), Grown Pt H H3 → Tbl H3 Pt qLam → H3 t = some (.tup [.str "refused", .str "BadName"]) → Q (.ref t) H3) → Ref Nm H1 (xWant K W (told wd Q)) := fun {Q} kk H2 s2 => fin_told Z g1 b1 s2 fun t1 H3 g3 b3 ht1 => kk t1 H3 g3 b3 ht1
  have c1 := hc.lits (grown_lits tb g1)
  refine ⟨_, rfl, v, rfl, ?_⟩
  have last : ∀ (t : Addr) (H3 : Hp), Grown Pt H H3 → Tbl H3 Pt qLam → H3 t = some (.tup [.str "refused", .str "BadName"]) → (2 ≤ sizeLine ∧ ∀ p, H3 p = none → ∃ b, Cmp K (upd H3 p (.tup [.str "refused", .str "BadName"])) 1 (.ref t) (.ref p) b ∧ ∃ k', V.bl (!b) = V.bl k' ∧ k' = false ∧ D.nx (stA a d x2 x3 x4 x5 x6 (some v) x8 x9) (upd H3 p (.tup [.str "refused", .str "BadName"]))) := fun t H3 g3 b3 ht => by
    refine ⟨by decide, fun p hp => ?_⟩
    have s4 := same_upd (o := .tup [.str "refused", .str "BadName"]) hp
    exact ⟨true, cmp_ref (s4 _ _ ht) upd_same, _, rfl, rfl, k _ (fun b o n e => s4 _ _ (g3 b o n e)) (b3.same s4)⟩
  have fin2 := fin (Q := fun x H1 => (tTup (tCons (tC (.str "refused")) (tCons (tC (.str "BadName")) tNil))) (stA a d x2 x3 x4 x5 x6 (some v) x8 x9) H1 fun y H2 => rNeC K 1 x y H2 fun x H' => ∃ k, x = .bl k ∧ if k = true then D.rt (.bl false) H' else D.nx (stA a d x2 x3 x4 x5 x6 (some v) x8 x9) H') fun t H3 g3 b3 ht => by
    obtain ⟨e1, e2⟩ := last t H3 g3 b3 ht
    refine ⟨e1, fun p hp => ?_⟩
    obtain ⟨b, e3, k', e4, e5, e6⟩ := e2 p hp
    exact ⟨b, e3, k', e4, iteX e5 e6⟩
  rcases c1 with rfl | ⟨i, rfl⟩ | ⟨z, rfl, hz, hn⟩ | ⟨q, ys, rfl, hq⟩
  · exact .inr ⟨_, kn_non, rfl, fin2⟩
  · exact .inr ⟨_, kn_int _, rfl, fin2⟩
  · exact .inl ⟨z, rfl, hz, fun _ => fin2, fun ps e => by rw [hn] at e; cases e⟩
  · exact .inr ⟨_, kn_tup hq, rfl, fin2⟩
end
end K10
end
section
set_option Elab.async false
set_option linter.all false
set_option maxRecDepth 100000
set_option maxHeartbeats 400000
namespace K10
open PySem L2
noncomputable def spLaw (K : PySem.W.Frag) (Pt : Addr) : Sp := fun vs H Q _ => ∃ (a : Addr) (ns : List Int), vs = [.ref a] ∧ SqL K H a (ns.map V.int) ∧ ns.length ≤ 63 ∧ H Pt = some (.tbl #[]) ∧ ∀ H', Q (.bl true) H'
noncomputable abbrev forIter (s : Stmt) : Expr := match s with | .For _ i _ _ _ => i | _ => .Constant .none 0 ⟨0, 0, 0, 0⟩
theorem run_al {Pt : Addr} {H H' : Hp} {lds : Addr} {ds : List Addr} {o n lf : Addr} {ps ns : List Str} {wrd : Str} {ts : List Addr} (al : All Pt H lds ds o n ps ns) (R : Run Pt wrd H H' lf ts) : All Pt H' lds ds o n ps ns := al.grown R.g R.b
theorem sw_list {es : List Expr} {p : Pos} {tg : Option Expr} {l : Nat} {env : Env} : swapsWith (.List es p) tg l env = pure false := rfl
theorem q_set {X : Cx} {i : Nat} {x : Str} {es : List Expr} {te : TE} {pos pos' p : Pos} (hN : X.N.Nodup) (hi : X.N[i]? = some x) (hx : Loc X.env.scope x) (he : QE X (.List es p) te) (hf : X.fn x = true ∨ X.env.scope.names.lookup x = some .local) :
    QS X (.Assign [.Name x pos'] (.List es p) pos) (tAsg te (gName i)) := ⟨ps_set hN hi hx he.ok sw_list hf⟩
section
variable {P : Program} {w : World} {K : PySem.W.Frag} {mg : Str → Option Value} {base : Heap} {f : Addr} {c Pt Nm ft W : Addr} {fdt : FuncData} {wd : Addr → Str → Prop} {A : Around} {outer : List Env} {s : Shared} {H₀ : Hp} {E : XK}
theorem st9 : ∃ t, QS (XL P w K mg base f c A outer s H₀ E) (outerB.getD 9 (.Pass ⟨0, 0, 0, 0⟩)) t ∧ ∀ (D : Ends) (H : Hp) (a d : Addr) (x2 x3 x4 x5 x6 x7 x8 x9 : Option V),
      (∀ H' lb xs, Same H H' → H' lb = some (.lst xs) → xs.length ≤ 50 → (∀ x ∈ xs, BadT H' x) → D.nx (stA a d x2 x3 x4 x5 (some (.ref lb)) x7 x8 x9) H') → t D (stA a d x2 x3 x4 x5 x6 x7 x8 x9) H := by
  obtain ⟨t9, p9, r9⟩ := lit9 (X := XL P w K mg base f c A outer s H₀ E)
  refine ⟨_, q_set (i := 6) scLaw.nd rfl (Or.inl rfl) p9 (.inr rfl), ?_⟩
  intro D H a d x2 x3 x4 x5 x6 x7 x8 x9 k
  exact r9 _ _ _ fun H' lb xs s1 h1 h2 h3 => k H' lb xs s1 h1 h2 h3
theorem st10 : ∃ t, QS (XL P w K mg base f c A outer s H₀ E) (outerB.getD 10 (.Pass ⟨0, 0, 0, 0⟩)) t ∧ ∀ (D : Ends) (H : Hp) (a d lb : Addr) (xs : List V) (x2 x3 x4 x5 x7 x8 x9 : Option V), H lb = some (.lst xs) → xs.length ≤ 50 → (∀ x ∈ xs, BadT H x) →
      (∀ H' lb' xs', Same H H' → H' lb' = some (.lst xs') → (∀ x ∈ xs', BadT H' x) → D.nx (stA a d x2 x3 x4 x5 (some (.ref lb')) x7 x8 x9) H') → t D (stA a d x2 x3 x4 x5 (some (.ref lb)) x7 x8 x9) H := by
  obtain ⟨t9, p9, r9⟩ := lit10 (X := XL P w K mg base f c A outer s H₀ E)
  refine ⟨_, ⟨ps_set (i := 6) scLaw.nd rfl (Or.inl rfl) (pe_op op_cat (pv 6) p9.ok)⟩, ?_⟩
  intro D H a d lb xs x2 x3 x4 x5 x7 x8 x9 hl hx hb k
  refine ⟨_, rfl, r9 _ _ _ fun H' l2 ys s1 h1 h2 h3 => ⟨lb, l2, xs, ys, rfl, rfl, s1 _ _ hl, h1, Nat.le_trans (show xs.length + ys.length ≤ 100 by omega) (by decide), fun p hp => ?_⟩⟩
  have s2 := same_upd (o := .lst (xs ++ ys)) hp
  refine k _ p _ (s1.trans s2) upd_same fun x h => ?_
  rcases List.mem_append.mp h with h | h
  · exact (hb x h).lits (Lits.of (s1.trans s2))
  · exact (h3 x h).lits (Lits.of s2)
theorem st12 : ∃ t, QS (XL P w K mg base f c A outer s H₀ E) (outerB.getD 12 (.Pass ⟨0, 0, 0, 0⟩)) t ∧ ∀ (D : Ends) (H : Hp) (a d : Addr) (x2 x3 x4 x5 x6 x7 x8 x9 : Option V),
      (∀ H' lb xs, Same H H' → H' lb = some (.lst xs) → xs.length ≤ 50 → (∀ x ∈ xs, CaseT H' x) → D.nx (stA a d x2 x3 x4 x5 x6 x7 x8 (some (.ref lb))) H') → t D (stA a d x2 x3 x4 x5 x6 x7 x8 x9) H := by
  obtain ⟨t9, p9, r9⟩ := lit12 (X := XL P w K mg base f c A outer s H₀ E)
  refine ⟨_, q_set (i := 9) scLaw.nd rfl (Or.inl rfl) p9 (.inr rfl), ?_⟩
  intro D H a d x2 x3 x4 x5 x6 x7 x8 x9 k
  exact r9 _ _ _ fun H' lb xs s1 h1 h2 h3 => k H' lb xs s1 h1 h2 h3
theorem st13 : ∃ t, QS (XL P w K mg base f c A outer s H₀ E) (outerB.getD 13 (.Pass ⟨0, 0, 0, 0⟩)) t ∧ ∀ (D : Ends) (H : Hp) (a d lb : Addr) (xs : List V) (x2 x3 x4 x5 x6 x7 x8 : Option V), H lb = some (.lst xs) → xs.length ≤ 50 → (∀ x ∈ xs, CaseT H x) →
      (∀ H' lb' xs', Same H H' → H' lb' = some (.lst xs') → (∀ x ∈ xs', CaseT H' x) → D.nx (stA a d x2 x3 x4 x5 x6 x7 x8 (some (.ref lb'))) H') → t D (stA a d x2 x3 x4 x5 x6 x7 x8 (some (.ref lb))) H := by
  obtain ⟨t9, p9, r9⟩ := lit13 (X := XL P w K mg base f c A outer s H₀ E)
  refine ⟨_, ⟨ps_set (i := 9) scLaw.nd rfl (Or.inl rfl) (pe_op op_cat (pv 9) p9.ok)⟩, ?_⟩
  intro D H a d lb xs x2 x3 x4 x5 x6 x7 x8 hl hx hb k
  refine ⟨_, rfl, r9 _ _ _ fun H' l2 ys s1 h1 h2 h3 => ⟨lb, l2, xs, ys, rfl, rfl, s1 _ _ hl, h1, Nat.le_trans (show xs.length + ys.length ≤ 100 by omega) (by decide), fun p hp => ?_⟩⟩
  have s2 := same_upd (o := .lst (xs ++ ys)) hp
  refine k _ p _ (s1.trans s2) upd_same fun x h => ?_
  rcases List.mem_append.mp h with h | h
  · exact (hb x h).lits (Lits.of (s1.trans s2))
  · exact (h3 x h).lits (Lits.of s2)
theorem st11 {fN fB fT fS : Addr} {fdN fdB fdT fdS : FuncData} (hr : Room 8 (A.deeper (PyProof.Rows.envOfC "law" (defScope sLaw) s.heap.objs.size f (.ref c)))) (EV : EnvT P w K mg base c Pt ft W fdt wd) (Z : Say K W wd Nm "BadName")
    (CN : Cal P w K mg base 2 "is_name" fN fdN ["thing"] (spName K)) (CB : Cal P w K mg base 3 "is_beginning" fB fdB ["thing"] (spBeg K)) (CT : CalX P w K mg base 5 "name_text" fT fdT ["beginning"] (spText K Nm)) (CS : CalX P w K mg base 5 "begins" fS fdS ["name", "beginning"] (spBegins K Nm)) :
    ∃ t, QS (XL P w K mg base f c A outer s H₀ E) (outerB.getD 11 (.Pass ⟨0, 0, 0, 0⟩)) t ∧ ∀ (D : Ends) (H : Hp) (lds : Addr) (ds : List Addr) (a d o n lb : Addr) (ps ns : List Str) (xs : List V) (x4 x5 x7 x8 x9 : Option V), All Pt H lds ds o n ps ns → H lb = some (.lst xs) → (∀ x ∈ xs, BadT H x) →
      (∀ H' x7' x8', All Pt H' lds ds o n ps ns → D.nx (stA a d (some (.ref o)) (some (.ref n)) x4 x5 (some (.ref lb)) x7' x8' x9) H') →
      t D (stA a d (some (.ref o)) (some (.ref n)) x4 x5 (some (.ref lb)) x7 x8 x9) H := by
  obtain ⟨t0, p0, r0⟩ := in0 (outer := outer) (H₀ := H₀) (E := E) hr CN CB
  obtain ⟨t1, p1, r1⟩ := in1 (outer := outer) (H₀ := H₀) (E := E) hr EV Z CT
  obtain ⟨t2, p2, r2⟩ := in2 (outer := outer) (H₀ := H₀) (E := E) hr EV Z CS
  obtain ⟨t3, p3, r3⟩ := in3 (outer := outer) (H₀ := H₀) (E := E) hr EV Z CS
  obtain ⟨t4, p4, r4⟩ := in4 (P := P) (w := w) (K := K) (mg := mg) (base := base) (Pt := Pt) (outer := outer) (H₀ := H₀) (E := E) hr
  have body : QSs (XL P w K mg base f c A outer s H₀ E) inB (tSeq t0 (tSeq t1 (tSeq t2 (tSeq t3 t4)))) := qss p0 (qss p1 (qss p2 (qss p3 (qone p4))))
  have pI : ∃ te, QE (XL P w K mg base f c A outer s H₀ E) (forIter (outerB.getD 11 (.Pass ⟨0, 0, 0, 0⟩))) te ∧ te = tVar 6 := ⟨_, ⟨pv 6⟩, rfl⟩
  obtain ⟨te, pI, hte⟩ := pI
  refine ⟨_, q_for PassesOwn.never rfl pI ⟨pg_name (i := 7) scLaw.nd rfl (Or.inr rfl)⟩ body (fun _ => rfl), ?_⟩
  clear body p0 p1 p2 p3 p4 pI
  subst hte
  intro D H lds ds a d o n lb ps ns xs x4 x5 x7 x8 x9 al hlb hbad k
  refine ⟨_, rfl, lb, rfl, ⟨_, SqL.of hlb⟩, ?_⟩
  refine for_list (K := K) (a := lb) (xs := xs) (fun i σ H' => ∃ x7 x8 : Option V, σ = stA a d (some (.ref o)) (some (.ref n)) x4 x5 (some (.ref lb)) x7 x8 x9 ∧ All Pt H' lds ds o n ps ns ∧ H' lb = some (.lst xs) ∧ ∀ x ∈ xs, BadT H' x) ⟨_, _, rfl, al, hlb, hbad⟩ (fun i σ H' _ ⟨_, _, _, _, h, _⟩ => SqL.of h) ?_ ?_
  · rintro i x σ H1 hi ⟨x7, x8, rfl, al1, hl1, hb1⟩
    have hb : Bad K H1 x := fun H' l => ((hb1 x (List.mem_of_getElem? hi)).lits l).no
    refine r0 _ H1 a d _ _ _ _ _ _ _ x hb fun H2 s2 => ?_
    have al2 := al1.same s2
    have hb2 : Bad K H2 x := fun H' l => hb H' ((Lits.of s2).trans l)
    refine r1 _ H2 a d _ _ _ _ _ _ _ x hb2 al2.tb fun H3 lf u1 R1 => ?_
    refine r2 _ H2 H3 a d lf u1 _ _ _ _ _ _ x hb2 al2.tb R1 fun H4 u2 R2 => ?_
    refine r3 _ H2 H4 a d n lf u1 u2 ns _ _ _ _ _ x hb2 al2.tb al2.name al2.nm R2 fun H5 u3 R3 => ?_
    refine r4 _ H2 H5 a d lf u1 u2 u3 _ _ _ _ _ _ _ R3 fun H6 s6 => ?_
    have l : Lits H1 H6 := ((Lits.of s2).trans (grown_lits al2.tb R3.g)).trans (Lits.of s6)
    exact ⟨_, _, rfl, (run_al al2 R3).same s6, l.2 _ _ hl1, fun y hy => (hb1 y hy).lits l⟩
  · rintro σ H1 ⟨x7, x8, rfl, al1, hl1, hb1⟩
    exact k H1 _ _ al1
theorem st14 {fR : Addr} {fdR : FuncData} (hr : Room 8 (A.deeper (PyProof.Rows.envOfC "law" (defScope sLaw) s.heap.objs.size f (.ref c)))) (EV : EnvT P w K mg base c Pt ft W fdt wd) (Z : Say K W wd Nm "BadName") (CR : CalX P w K mg base 3 "read_name" fR fdR ["text"] (spRead K Nm)) :
    ∃ t, QS (XL P w K mg base f c A outer s H₀ E) (outerB.getD 14 (.Pass ⟨0, 0, 0, 0⟩)) t ∧ ∀ (D : Ends) (H : Hp) (lds : Addr) (ds : List Addr) (a d o n lb : Addr) (ps ns : List Str) (xs : List V) (x2 x3 x4 x5 x6 x7 x8 : Option V), All Pt H lds ds o n ps ns → H lb = some (.lst xs) → (∀ x ∈ xs, CaseT H x) →
      (∀ H' x7', All Pt H' lds ds o n ps ns → D.nx (stA a d x2 x3 x4 x5 x6 x7' x8 (some (.ref lb))) H') →
      t D (stA a d x2 x3 x4 x5 x6 x7 x8 (some (.ref lb))) H := by
  obtain ⟨t0, p0, r0⟩ := inc (outer := outer) (H₀ := H₀) (E := E) hr EV Z CR
  have body : QSs (XL P w K mg base f c A outer s H₀ E) inC t0 := qone p0
  have pI : ∃ te, QE (XL P w K mg base f c A outer s H₀ E) (forIter (outerB.getD 14 (.Pass ⟨0, 0, 0, 0⟩))) te ∧ te = tVar 9 := ⟨_, ⟨pv 9⟩, rfl⟩
  obtain ⟨te, pI, hte⟩ := pI
  refine ⟨_, q_for PassesOwn.never rfl pI ⟨pg_name (i := 7) scLaw.nd rfl (Or.inr rfl)⟩ body (fun _ => rfl), ?_⟩
  clear body p0 pI
  subst hte
  intro D H lds ds a d o n lb ps ns xs x2 x3 x4 x5 x6 x7 x8 al hlb hbad k
  refine ⟨_, rfl, lb, rfl, ⟨_, SqL.of hlb⟩, ?_⟩
  refine for_list (K := K) (a := lb) (xs := xs) (fun i σ H' => ∃ x7 : Option V, σ = stA a d x2 x3 x4 x5 x6 x7 x8 (some (.ref lb)) ∧ All Pt H' lds ds o n ps ns ∧ H' lb = some (.lst xs) ∧ ∀ x ∈ xs, CaseT H' x) ⟨_, rfl, al, hlb, hbad⟩ (fun i σ H' _ ⟨_, _, _, h, _⟩ => SqL.of h) ?_ ?_
  · rintro i x σ H1 hi ⟨x7, rfl, al1, hl1, hb1⟩
    refine r0 _ H1 a d _ _ _ _ _ _ _ x (hb1 x (List.mem_of_getElem? hi)) al1.tb fun H2 g2 b2 => ?_
    have l := grown_lits al1.tb g2
    exact ⟨_, rfl, al1.grown g2 b2, l.2 _ _ hl1, fun y hy => (hb1 y hy).lits l⟩
  · rintro σ H1 ⟨x7, rfl, al1, hl1, hb1⟩
    exact k H1 _ al1
end
end K10
end
section
set_option Elab.async false
set_option linter.all false
set_option maxRecDepth 100000
set_option maxHeartbeats 1000000
namespace K10
open PySem L2
section
variable {P : Program} {w : World} {K : PySem.W.Frag} {mg : Str → Option Value} {base : Heap}
theorem round {f c Pt ft W Nm f3 f4 fN fB fT fS fR : Addr} {fdt fd3 fd4 fdN fdB fdT fdS fdR : FuncData} {wd : Addr → Str → Prop} {A : Around} {outer : List Env} {s : Shared} {H₀ : Hp} {E : XK} (hr : Room 8 (A.deeper (PyProof.Rows.envOfC "law" (defScope sLaw) s.heap.objs.size f (.ref c)))) (G : Glb mg) (EV : EnvT P w K mg base c Pt ft W fdt wd) (Z : Say K W wd Nm "BadName")
    (C3 : Cal P w K mg base 3 "_law_head" f3 fd3 ["_law_dice"] spHead) (C4 : Cal P w K mg base 4 "_law_any_name" f4 fd4 ["_law_dice"] spAny)
    (CN : Cal P w K mg base 2 "is_name" fN fdN ["thing"] (spName K)) (CB : Cal P w K mg base 3 "is_beginning" fB fdB ["thing"] (spBeg K)) (CT : CalX P w K mg base 5 "name_text" fT fdT ["beginning"] (spText K Nm)) (CS : CalX P w K mg base 5 "begins" fS fdS ["name", "beginning"] (spBegins K Nm))
    (CR : CalX P w K mg base 3 "read_name" fR fdR ["text"] (spRead K Nm)) :
    ∃ t, QSs (XL P w K mg base f c A outer s H₀ E) outerB t ∧ ∀ (D : Ends) (H : Hp) (lds : Addr) (ds : List Addr) (a d : Addr) (x2 x3 x4 x5 x6 x7 x8 x9 : Option V), d ∈ ds → Out H lds ds → Tbl H Pt qLam →
      (∀ HE x2 x3 x4 x5 x6 x7 x8 x9, Out HE lds ds → Tbl HE Pt qLam → D.nx (stA a d x2 x3 x4 x5 x6 x7 x8 x9) HE) → t D (stA a d x2 x3 x4 x5 x6 x7 x8 x9) H := by
  obtain ⟨t0, p0, r0⟩ := st0 (Pt := Pt) (outer := outer) (H₀ := H₀) (E := E) hr C3 C4
  obtain ⟨t1, p1, r1⟩ := st1 (Pt := Pt) (outer := outer) (H₀ := H₀) (E := E) hr CN CB
  obtain ⟨t2, p2, r2⟩ := st2 (P := P) (w := w) (K := K) (mg := mg) (base := base) (f := f) (c := c) (A := A) (s := s) (Pt := Pt) (outer := outer) (H₀ := H₀) (E := E)
  obtain ⟨t3, p3, r3⟩ := st3 (Pt := Pt) (outer := outer) (H₀ := H₀) (E := E) hr CT CR
  obtain ⟨t4, p4, r4⟩ := st4 (Pt := Pt) (outer := outer) (H₀ := H₀) (E := E) hr CR
  obtain ⟨t5, p5, r5⟩ := st5 (Pt := Pt) (outer := outer) (H₀ := H₀) (E := E) hr CS
  obtain ⟨t6, p6, r6⟩ := st6 (P := P) (w := w) (K := K) (base := base) (Pt := Pt) (outer := outer) (H₀ := H₀) (E := E) hr G
  obtain ⟨t7, p7, r7⟩ := st7 (Pt := Pt) (outer := outer) (H₀ := H₀) (E := E) hr CS
  obtain ⟨t8, p8, r8⟩ := st8 (Pt := Pt) (outer := outer) (H₀ := H₀) (E := E) hr CS
  obtain ⟨t9, p9, r9⟩ := st9 (P := P) (w := w) (K := K) (mg := mg) (base := base) (f := f) (c := c) (A := A) (s := s) (outer := outer) (H₀ := H₀) (E := E)
  obtain ⟨t10, p10, r10⟩ := st10 (P := P) (w := w) (K := K) (mg := mg) (base := base) (f := f) (c := c) (A := A) (s := s) (outer := outer) (H₀ := H₀) (E := E)
  obtain ⟨t11, p11, r11⟩ := st11 (outer := outer) (H₀ := H₀) (E := E) hr EV Z CN CB CT CS
  obtain ⟨t12, p12, r12⟩ := st12 (P := P) (w := w) (K := K) (mg := mg) (base := base) (f := f) (c := c) (A := A) (s := s) (outer := outer) (H₀ := H₀) (E := E)
  obtain ⟨t13, p13, r13⟩ := st13 (P := P) (w := w) (K := K) (mg := mg) (base := base) (f := f) (c := c) (A := A) (s := s) (outer := outer) (H₀ := H₀) (E := E)
  obtain ⟨t14, p14, r14⟩ := st14 (outer := outer) (H₀ := H₀) (E := E) hr EV Z CR
  have b8 : QSs (XL P w K mg base f c A outer s H₀ E) (outerB.drop 8) (tSeq t8 (tSeq t9 (tSeq t10 (tSeq t11 (tSeq t12 (tSeq t13 t14)))))) := qss p8 (qss p9 (qss p10 (qss p11 (qss p12 (qss p13 (qone p14))))))
  have all : QSs (XL P w K mg base f c A outer s H₀ E) outerB (tSeq t0 (tSeq t1 (tSeq t2 (tSeq t3 (tSeq t4 (tSeq t5 (tSeq t6 (tSeq t7 (tSeq t8 (tSeq t9 (tSeq t10 (tSeq t11 (tSeq t12 (tSeq t13 t14)))))))))))))) := qss p0 (qss p1 (qss p2 (qss p3 (qss p4 (qss p5 (qss p6 (qss p7 b8)))))))
  refine ⟨_, all, ?_⟩
  clear all b8 p0 p1 p2 p3 p4 p5 p6 p7 p8 p9 p10 p11 p12 p13 p14
  intro D H lds ds a d x2 x3 x4 x5 x6 x7 x8 x9 hd O tb k
  refine r0 _ H lds ds a d x2 x3 x4 x5 x6 x7 x8 x9 hd O tb fun H1 o n ps ns a1 => ?_
  refine r1 _ H1 lds ds a d o n ps ns x4 x5 x6 x7 x8 x9 a1 fun H2 a2 => ?_
  refine r2 _ H2 lds ds a d o n ps ns x4 x5 x6 x7 x8 x9 a2 ?_
  refine r3 _ H2 lds ds a d o n ps ns x5 x6 x7 x8 x9 a2 fun H3 a3 => ?_
  refine r4 _ H3 lds ds a d o n ps ns _ x5 x6 x7 x8 x9 a3 fun H4 a4 => ?_
  refine r5 _ H4 lds ds a d o n ps ns _ x5 x6 x7 x8 x9 a4 fun H5 a5 => ?_
  refine r6 _ H5 lds ds a d o n ps ns _ x6 x7 x8 x9 a5 fun H6 a6 => ?_
  refine r7 _ H6 lds ds a d o n ps ns _ _ x6 x7 x8 x9 a6 fun H7 a7 => ?_
  refine r8 _ H7 lds ds a d o n ps ns _ _ x6 x7 x8 x9 a7 fun H8 a8 => ?_
  refine r9 _ H8 a d _ _ _ _ x6 x7 x8 x9 fun H9 lb xs s9 hl hz hb => ?_
  refine r10 _ H9 a d lb xs _ _ _ _ x7 x8 x9 hl hz hb fun H10 lb2 xs2 s10 hl2 hb2 => ?_
  refine r11 _ H10 lds ds a d o n lb2 ps ns xs2 _ _ x7 x8 x9 ((a8.same s9).same s10) hl2 hb2 fun H11 y7 y8 a11 => ?_
  refine r12 _ H11 a d _ _ _ _ _ _ _ x9 fun H12 lc zs s12 hl3 hz3 hb3 => ?_
  refine r13 _ H12 a d lc zs _ _ _ _ _ _ _ hl3 hz3 hb3 fun H13 lc2 zs2 s13 hl4 hb4 => ?_
  exact r14 _ H13 lds ds a d o n lc2 ps ns zs2 _ _ _ _ _ _ _ ((a11.same s12).same s13) hl4 hb4 fun H14 z7 a14 => k H14 _ _ _ _ _ _ _ _ a14.out a14.tb
theorem ok_law {f c Pt ft W Nm f2 f3 f4 fN fB fT fS fR : Addr} {fdt fd2 fd3 fd4 fdN fdB fdT fdS fdR : FuncData} {wd : Addr → Str → Prop} {oc kV doc pm ct : Value} {od an : Option Addr} {osl : Array (Option Value)}
    (lk : K.lookup f = some ⟨oc, od, .func (PySem.W.fnOf "law" "law" (defArgs sLaw) (defBody sLaw) (defScope sLaw) .none kV doc pm an (.ref c) ct), osl⟩) (hcd : PySem.W.codeIn K (.ref c) "law" = true) (G : Glb mg) (EV : EnvT P w K mg base c Pt ft W fdt wd) (Z : Say K W wd Nm "BadName")
    (C2 : Cal P w K mg base 2 "_law_rounds" f2 fd2 ["_law_script", "_law_most"] (spRounds K)) (C3 : Cal P w K mg base 3 "_law_head" f3 fd3 ["_law_dice"] spHead) (C4 : Cal P w K mg base 4 "_law_any_name" f4 fd4 ["_law_dice"] spAny)
    (CN : Cal P w K mg base 2 "is_name" fN fdN ["thing"] (spName K)) (CB : Cal P w K mg base 3 "is_beginning" fB fdB ["thing"] (spBeg K)) (CT : CalX P w K mg base 5 "name_text" fT fdT ["beginning"] (spText K Nm)) (CS : CalX P w K mg base 5 "begins" fS fdS ["name", "beginning"] (spBegins K Nm))
    (CR : CalX P w K mg base 3 "read_name" fR fdR ["text"] (spRead K Nm)) : FnOk P w K mg base CX0 9 f (PySem.W.fnOf "law" "law" (defArgs sLaw) (defBody sLaw) (defScope sLaw) .none kV doc pm an (.ref c) ct) ["_law_script"] (spLaw K Pt) := by
  refine fn_of lk hcd scLaw (fun vs H Q E h => ?_) fun A outer s H vs Q E hr h => ?_
  · obtain ⟨a, ns, rfl, _⟩ := h
    rfl
  · obtain ⟨a, ns, rfl, hS, hlen, hP0, k⟩ := h
    obtain ⟨tR, pR, rR⟩ := round (outer := outer) (H₀ := H) (E := E) hr G EV Z C3 C4 CN CB CT CS CR
    have eI : ∃ te, QE (XL P w K mg base f c A outer s H E) (forIter ((defBody sLaw).getD 0 (.Pass ⟨0, 0, 0, 0⟩))) te ∧ te = tCall (spRounds K) [] E0 (tCons (tVar 0) (tCons (tC (.int 5)) tNil)) := ⟨_, ⟨pe_fn C2 (hr.mono (by decide)) (by rfl) (pa_cons (pv 0) (pa_cons pe_int pa_nil))⟩, rfl⟩
    obtain ⟨te, pI, hte⟩ := eI
    have p0 : QS (XL P w K mg base f c A outer s H E) ((defBody sLaw).getD 0 (.Pass ⟨0, 0, 0, 0⟩)) (tFor (iList K te) (gName 1) tR) := q_for PassesOwn.never rfl pI ⟨pg_name (i := 1) scLaw.nd rfl (Or.inl rfl)⟩ pR (fun _ => rfl)
    have p1 : ∃ u, QS (XL P w K mg base f c A outer s H E) ((defBody sLaw).getD 1 (.Pass ⟨0, 0, 0, 0⟩)) u ∧ ∀ D σ H', D.rt (.bl true) H' → u D σ H' := ⟨_, ⟨ps_ret pe_bl⟩, fun D σ H' z => z⟩
    obtain ⟨u, p1, r1⟩ := p1
    have all : QSs (XL P w K mg base f c A outer s H E) (defBody sLaw) (tSeq (tFor (iList K te) (gName 1) tR) u) := qss p0 (qone p1)
    obtain ⟨all⟩ := all
    refine ⟨_, all.nox, ?_⟩
    clear all p0 p1 pR pI
    subst hte
    refine ⟨_, rfl, a, ns, 5, rfl, hS, hlen, by decide, by decide, fun lds ds H1 s1 hlds hds nl h8 hnd => ?_⟩
    refine ⟨lds, rfl, ⟨_, SqL.of hlds⟩, for_list (K := K) (a := lds) (xs := ds.map V.ref) (fun i σ H' => ∃ x1 x2 x3 x4 x5 x6 x7 x8 x9 : Option V, σ = [some (.ref a), x1, x2, x3, x4, x5, x6, x7, x8, x9] ∧ Out H' lds ds ∧ Tbl H' Pt qLam)
      ⟨_, _, _, _, _, _, _, _, _, rfl, ⟨hlds, fun d hd => (hds d hd).1⟩, (tbl0 hP0).same s1⟩ (fun i σ H' _ ⟨_, _, _, _, _, _, _, _, _, _, O, _⟩ => SqL.of O.ll) ?_ ?_⟩
    · rintro i x σ H2 hi ⟨x1, x2, x3, x4, x5, x6, x7, x8, x9, rfl, O, tb⟩
      obtain ⟨d, hd, rfl⟩ : ∃ d, d ∈ ds ∧ x = V.ref d := by
        obtain ⟨d, h1, h2⟩ := List.mem_map.mp (List.mem_of_getElem? hi)
        exact ⟨d, h1, h2.symm⟩
      exact rR _ H2 lds ds a d x2 x3 x4 x5 x6 x7 x8 x9 hd O tb fun HE y2 y3 y4 y5 y6 y7 y8 y9 O' tb' => ⟨_, _, _, _, _, _, _, _, _, rfl, O', tb'⟩
    · rintro σ H2 ⟨x1, x2, x3, x4, x5, x6, x7, x8, x9, rfl, O, tb⟩
      exact r1 _ _ _ (k H2)
end
end K10
end
section
set_option Elab.async false
set_option linter.all false
set_option maxRecDepth 100000
set_option maxHeartbeats 4000000
namespace K10
open PySem L2
noncomputable def exNs (es : Array DictEntry) : Bool := es.toList.all (fun e => match e.key with | .str n _ => !(n == ("__init__" : Str)) | _ => false)
theorem exNs_ok {K : PySem.W.Frag} {N : Addr} {o : Value} {od : Option Addr} {es : Array DictEntry} {ep : Nat} {sl : Array (Option Value)} (l : K.lookup N = some ⟨o, od, .dict es ep, sl⟩) (e : exNs es = true) (h : Heap) (X : K.In h) : ∃ mN, h.Ns N mN ∧ mN "__init__" = none := by
  unfold exNs at e
  rw [List.all_eq_true] at e
  refine ⟨fun x => nsFind es x, ⟨_, es, ep, X _ _ l, rfl, fun d hd => ?_, fun _ => rfl⟩, ?_⟩
  · have := e d (by simpa using hd)
    split at this
    · rename_i n t hk
      exact ⟨n, t, hk⟩
    · cases this
  · show findBy (fun n v => Value.isStr v n) es ("__init__" : Str) = none
    unfold findBy
    have : es.find? (fun d => Value.isStr d.key ("__init__" : Str)) = none := by
      rw [Array.find?_eq_none]
      intro d hd hx
      have := e d (by simpa using hd)
      split at this
      · rename_i n t hk
        rw [hk] at hx
        have hx : (n == ("__init__" : Str)) = true := hx
        rw [hx] at this
        cases this
      · cases this
    rw [this]
    rfl
theorem excC_mk {K : PySem.W.Frag} {C W N : Addr} {nm q : Str} {bs sub : List Value} {hd ab : Bool} {sn : List Str} {col : Option Bool} {dd : Option Addr} {ka kb kc kd kf : Option Value} {oN : Value} {odN : Option Addr} {es : Array DictEntry} {ep : Nat} {slN : Array (Option Value)} {oW oNW : Value} {odW odNW : Option Addr} {cdW : ClassData} {slW slNW : Array (Option Value)} {esW : Array DictEntry} {epW : Nat}
    (l : K.lookup C = some (excClassObj nm q C N bs (.ref W :: [.type "ValueError", .type "Exception", .type "BaseException", .type "object"]) hd sn sub ab col dd ka kb kc kd kf "ValueError.__new__")) (lN : K.lookup N = some ⟨oN, odN, .dict es ep, slN⟩) (eN : exNs es = true)
    (lW : K.lookup W = some ⟨oW, odW, .cls cdW, slW⟩) (lNW : K.lookup cdW.ns = some ⟨oNW, odNW, .dict esW epW, slNW⟩) (eW : exNs esW = true) : ExcC K C := by
  refine ⟨nm, q, N, bs, _, hd, sn, sub, ab, col, dd, ka, kb, kc, kd, kf, l, by simp, fun h X => exNs_ok lN eN h X, fun h X => ?_⟩
  obtain ⟨mW, hW, hi⟩ := exNs_ok lNW eW h X
  exact .own (X _ _ lW) hW hi .base
theorem kit_self {K : PySem.W.Frag} {C : Addr} : PySem.W.kitOne K (.ref C) (.ref C) = some true := by
  unfold PySem.W.kitOne
  rw [if_pos (by simp)]
theorem kit_cls {K : PySem.W.Frag} {C D : Addr} {b : Bool} {cd : ClassData} (hc : PySem.W.clsIn K D = some cd) (ht : PySem.W.typeIn K (.ref D) = some (.type "type")) (hs : PySem.W.subIn K (.ref C) (.ref D) = some b) : PySem.W.kitCls K (.ref C) (.ref D) = some b := by
  unfold PySem.W.kitCls
  dsimp only
  rw [hc, ht, if_pos (by simp)]
  exact hs
theorem kit_other {K : PySem.W.Frag} {C D : Addr} {b : Bool} {cd : ClassData} (hn : (Value.ref C == Value.ref D) = false) (hc : PySem.W.clsIn K D = some cd) (ht : PySem.W.typeIn K (.ref D) = some (.type "type")) (hs : PySem.W.subIn K (.ref C) (.ref D) = some b) : PySem.W.kitOne K (.ref C) (.ref D) = some b := by
  unfold PySem.W.kitOne
  rw [hn, if_neg (by decide)]
  exact kit_cls hc ht hs
theorem kit_val {K : PySem.W.Frag} {C : Addr} (hs : PySem.W.subIn K (.ref C) (.type "ValueError") = some true) : PySem.W.kitOne K (.ref C) (.type "ValueError") = some true := by
  unfold PySem.W.kitOne
  rw [if_neg (by simp)]
  unfold PySem.W.kitCls
  dsimp only
  rw [if_pos (by decide +kernel)]
  exact hs
theorem flg9 {K : PySem.W.Frag} {C c0 c1 c2 c3 c4 c5 c6 c7 c8 : Addr} {kf : Nat → Bool} (h0 : PySem.W.kitOne K (.ref C) (.ref c0) = some (kf 0)) (h1 : PySem.W.kitOne K (.ref C) (.ref c1) = some (kf 1)) (h2 : PySem.W.kitOne K (.ref C) (.ref c2) = some (kf 2)) (h3 : PySem.W.kitOne K (.ref C) (.ref c3) = some (kf 3)) (h4 : PySem.W.kitOne K (.ref C) (.ref c4) = some (kf 4))
    (h5 : PySem.W.kitOne K (.ref C) (.ref c5) = some (kf 5)) (h6 : PySem.W.kitOne K (.ref C) (.ref c6) = some (kf 6)) (h7 : PySem.W.kitOne K (.ref C) (.ref c7) = some (kf 7)) (h8 : PySem.W.kitOne K (.ref C) (.ref c8) = some (kf 8)) {i : Nat} {c : Addr} (hc : [c0, c1, c2, c3, c4, c5, c6, c7, c8][i]? = some c) : PySem.W.kitOne K (.ref C) (.ref c) = some (kf i) := by
  match i, hc with
  | 0, hc => cases hc; exact h0
  | 1, hc => cases hc; exact h1
  | 2, hc => cases hc; exact h2
  | 3, hc => cases hc; exact h3
  | 4, hc => cases hc; exact h4
  | 5, hc => cases hc; exact h5
  | 6, hc => cases hc; exact h6
  | 7, hc => cases hc; exact h7
  | 8, hc => cases hc; exact h8
  | i + 9, hc => simp at hc
noncomputable def codeChk (vs : Array Value) (c P : Addr) : Bool := (match (vs[11]? : Option Value) with | some (.ref P') => P' == P | _ => false) &&
  (match vs.getD 18 .none with | .str _ _ => true | _ => false) && (match vs.getD 7 .none with | .int _ _ => true | _ => false) && (match vs.getD 9 .none with | .bool _ => true | _ => false) && (match vs.getD 10 .none with | .int _ _ => true | _ => false) && c != P
theorem codeHd_mk {K : PySem.W.Frag} {c P : Addr} {od : Option Addr} {vs : Array Value} {sl : Array (Option Value)} (l : K.lookup c = some ⟨.type "code", od, .fields vs, sl⟩) (e : codeChk vs c P = true) : PySem.W.codeHdIn K c P = true := by
  unfold PySem.W.codeHdIn
  rw [l]
  exact e
end K10
end
section
set_option Elab.async false
set_option linter.all false
set_option maxRecDepth 100000
set_option maxHeartbeats 4000000
namespace K10
open PySem L2
theorem all_mk {l : PySem.W.OpenLaw} {w : World} {K : PySem.W.Frag} {h : Heap} {mg : Str → Option Value} {fa cc Pt f1 f2 f3 f4 f5 f6 f7 f8 f9 f10 f11 f12 f13 f14 f15 f16 f17 c0 c1 c2 c3 c4 c5 c6 c7 c8 W : Addr} (X : K.In h) (G : h.Ns mainGlobals mg) (hfa : mg "law" = some (.ref fa))
    {od1 an1 od2 an2 od3 an3 od4 an4 od5 an5 od6 an6 od7 an7 od8 an8 od9 an9 od10 an10 od11 an11 od12 an12 od13 an13 od14 an14 od15 an15 od16 an16 od17 an17 odc odW odNW : Option Addr} {sl1 sl2 sl3 sl4 sl5 sl6 sl7 sl8 sl9 sl10 sl11 sl12 sl13 sl14 sl15 sl16 sl17 slc slW slNW : Array (Option Value)}
    {oc1 kV1 dc1 pm1 cd1 ct1 oc2 kV2 dc2 pm2 cd2 ct2 oc3 kV3 dc3 pm3 cd3 ct3 oc4 kV4 dc4 pm4 cd4 ct4 oc5 kV5 dc5 pm5 cd5 ct5 oc6 kV6 dc6 pm6 cd6 ct6 oc7 kV7 dc7 pm7 cd7 ct7 oc8 kV8 dc8 pm8 cd8 ct8 oc9 kV9 dc9 pm9 cd9 ct9 oc10 kV10 dc10 pm10 cd10 ct10 oc11 kV11 dc11 pm11 cd11 ct11 oc12 kV12 dc12 pm12 cd12 ct12 oc13 kV13 dc13 pm13 cd13 ct13 oc14 kV14 dc14 pm14 cd14 ct14 oc15 kV15 dc15 pm15 cd15 ct15 oc16 kV16 dc16 pm16 cd16 ct16 oc17 kV17 dc17 pm17 ct17 oW oNW : Value} {t0 t1 t2 : Tok} {ecd0 ecd1 ecd2 ecd3 ecd4 ecd5 ecd6 ecd7 ecd8 ecdW cdW : ClassData} {vsc : Array Value} {esW : Array DictEntry} {epW : Nat}
    {nm0 q0 : Str} {N0 : Addr} {bs0 sub0 : List Value} {hd0 ab0 : Bool} {sn0 : List Str} {col0 : Option Bool} {dd0 : Option Addr} {ka0 kb0 kc0 kd0 kf0 : Option Value} {oN0 : Value} {odN0 : Option Addr} {es0 : Array DictEntry} {ep0 : Nat} {slN0 : Array (Option Value)}
    (a1 : PySem.W.nsIn K mainGlobals "is_part" = some (some (.ref f1)))
    (l1 : K.lookup f1 = some ⟨oc1, od1, .func (PySem.W.fnOf "is_part" "is_part" (defArgs sPart) (defBody sPart) (defScope sPart) .none kV1 dc1 pm1 an1 cd1 ct1), sl1⟩)
    (c1d : PySem.W.codeIn K cd1 "is_part" = true)
    (k1 : PySem.W.keepIn K (.ref f1) = true)
    (a2 : PySem.W.nsIn K mainGlobals "is_name" = some (some (.ref f2)))
    (l2 : K.lookup f2 = some ⟨oc2, od2, .func (PySem.W.fnOf "is_name" "is_name" (defArgs sName) (defBody sName) (defScope sName) .none kV2 dc2 pm2 an2 cd2 ct2), sl2⟩)
    (c2d : PySem.W.codeIn K cd2 "is_name" = true)
    (k2 : PySem.W.keepIn K (.ref f2) = true)
    (a3 : PySem.W.nsIn K mainGlobals "is_beginning" = some (some (.ref f3)))
    (l3 : K.lookup f3 = some ⟨oc3, od3, .func (PySem.W.fnOf "is_beginning" "is_beginning" (defArgs sBeg) (defBody sBeg) (defScope sBeg) .none kV3 dc3 pm3 an3 cd3 ct3), sl3⟩)
    (c3d : PySem.W.codeIn K cd3 "is_beginning" = true)
    (k3 : PySem.W.keepIn K (.ref f3) = true)
    (a4 : PySem.W.nsIn K mainGlobals "need_name" = some (some (.ref f4)))
    (l4 : K.lookup f4 = some ⟨oc4, od4, .func (PySem.W.fnOf "need_name" "need_name" (defArgs sNeedN) (defBody sNeedN) (defScope sNeedN) .none kV4 dc4 pm4 an4 cd4 ct4), sl4⟩)
    (c4d : PySem.W.codeIn K cd4 "need_name" = true)
    (k4 : PySem.W.keepIn K (.ref f4) = true)
    (a5 : PySem.W.nsIn K mainGlobals "need_beginning" = some (some (.ref f5)))
    (l5 : K.lookup f5 = some ⟨oc5, od5, .func (PySem.W.fnOf "need_beginning" "need_beginning" (defArgs sNeedB) (defBody sNeedB) (defScope sNeedB) .none kV5 dc5 pm5 an5 cd5 ct5), sl5⟩)
    (c5d : PySem.W.codeIn K cd5 "need_beginning" = true)
    (k5 : PySem.W.keepIn K (.ref f5) = true)
    (a6 : PySem.W.nsIn K mainGlobals "begins" = some (some (.ref f6)))
    (l6 : K.lookup f6 = some ⟨oc6, od6, .func (PySem.W.fnOf "begins" "begins" (defArgs sBegins) (defBody sBegins) (defScope sBegins) .none kV6 dc6 pm6 an6 cd6 ct6), sl6⟩)
    (c6d : PySem.W.codeIn K cd6 "begins" = true)
    (k6 : PySem.W.keepIn K (.ref f6) = true)
    (a7 : PySem.W.nsIn K mainGlobals "name_text" = some (some (.ref f7)))
    (l7 : K.lookup f7 = some ⟨oc7, od7, .func (PySem.W.fnOf "name_text" "name_text" (defArgs sText) (defBody sText) (defScope sText) .none kV7 dc7 pm7 an7 cd7 ct7), sl7⟩)
    (c7d : PySem.W.codeIn K cd7 "name_text" = true)
    (k7 : PySem.W.keepIn K (.ref f7) = true)
    (a8 : PySem.W.nsIn K mainGlobals "read_name" = some (some (.ref f8)))
    (l8 : K.lookup f8 = some ⟨oc8, od8, .func (PySem.W.fnOf "read_name" "read_name" (defArgs sRead) (defBody sRead) (defScope sRead) .none kV8 dc8 pm8 an8 cd8 ct8), sl8⟩)
    (c8d : PySem.W.codeIn K cd8 "read_name" = true)
    (k8 : PySem.W.keepIn K (.ref f8) = true)
    (a9 : PySem.W.nsIn K mainGlobals "_law_cell" = some (some (.ref f9)))
    (l9 : K.lookup f9 = some ⟨oc9, od9, .func (PySem.W.fnOf "_law_cell" "_law_cell" (defArgs sCell) (defBody sCell) (defScope sCell) .none kV9 dc9 pm9 an9 cd9 ct9), sl9⟩)
    (c9d : PySem.W.codeIn K cd9 "_law_cell" = true)
    (k9 : PySem.W.keepIn K (.ref f9) = true)
    (a10 : PySem.W.nsIn K mainGlobals "_law_drawn" = some (some (.ref f10)))
    (l10 : K.lookup f10 = some ⟨oc10, od10, .func (PySem.W.fnOf "_law_drawn" "_law_drawn" (defArgs sDrawn) (defBody sDrawn) (defScope sDrawn) .none kV10 dc10 pm10 an10 cd10 ct10), sl10⟩)
    (c10d : PySem.W.codeIn K cd10 "_law_drawn" = true)
    (k10 : PySem.W.keepIn K (.ref f10) = true)
    (a11 : PySem.W.nsIn K mainGlobals "_law_roll" = some (some (.ref f11)))
    (l11 : K.lookup f11 = some ⟨oc11, od11, .func (PySem.W.fnOf "_law_roll" "_law_roll" (defArgs sRoll) (defBody sRoll) (defScope sRoll) .none kV11 dc11 pm11 an11 cd11 ct11), sl11⟩)
    (c11d : PySem.W.codeIn K cd11 "_law_roll" = true)
    (k11 : PySem.W.keepIn K (.ref f11) = true)
    (a12 : PySem.W.nsIn K mainGlobals "_law_rounds" = some (some (.ref f12)))
    (l12 : K.lookup f12 = some ⟨oc12, od12, .func (PySem.W.fnOf "_law_rounds" "_law_rounds" (defArgs sRounds) (defBody sRounds) (defScope sRounds) .none kV12 dc12 pm12 an12 cd12 ct12), sl12⟩)
    (c12d : PySem.W.codeIn K cd12 "_law_rounds" = true)
    (k12 : PySem.W.keepIn K (.ref f12) = true)
    (a13 : PySem.W.nsIn K mainGlobals "_law_word" = some (some (.ref f13)))
    (l13 : K.lookup f13 = some ⟨oc13, od13, .func (PySem.W.fnOf "_law_word" "_law_word" (defArgs sWord) (defBody sWord) (defScope sWord) .none kV13 dc13 pm13 an13 cd13 ct13), sl13⟩)
    (c13d : PySem.W.codeIn K cd13 "_law_word" = true)
    (k13 : PySem.W.keepIn K (.ref f13) = true)
    (a14 : PySem.W.nsIn K mainGlobals "_law_told" = some (some (.ref f14)))
    (l14 : K.lookup f14 = some ⟨oc14, od14, .func (PySem.W.fnOf "_law_told" "_law_told" (defArgs sTold) (defBody sTold) (defScope sTold) .none kV14 dc14 pm14 an14 cd14 ct14), sl14⟩)
    (c14d : PySem.W.codeIn K cd14 "_law_told" = true)
    (k14 : PySem.W.keepIn K (.ref f14) = true)
    (a15 : PySem.W.nsIn K mainGlobals "_law_head" = some (some (.ref f15)))
    (l15 : K.lookup f15 = some ⟨oc15, od15, .func (PySem.W.fnOf "_law_head" "_law_head" (defArgs sHead) (defBody sHead) (defScope sHead) .none kV15 dc15 pm15 an15 cd15 ct15), sl15⟩)
    (c15d : PySem.W.codeIn K cd15 "_law_head" = true)
    (k15 : PySem.W.keepIn K (.ref f15) = true)
    (a16 : PySem.W.nsIn K mainGlobals "_law_any_name" = some (some (.ref f16)))
    (l16 : K.lookup f16 = some ⟨oc16, od16, .func (PySem.W.fnOf "_law_any_name" "_law_any_name" (defArgs sAny) (defBody sAny) (defScope sAny) .none kV16 dc16 pm16 an16 cd16 ct16), sl16⟩)
    (c16d : PySem.W.codeIn K cd16 "_law_any_name" = true)
    (k16 : PySem.W.keepIn K (.ref f16) = true)
    (a17 : PySem.W.nsIn K mainGlobals "law" = some (some (.ref f17)))
    (l17 : K.lookup f17 = some ⟨oc17, od17, .func (PySem.W.fnOf "law" "law" (defArgs sLaw) (defBody sLaw) (defScope sLaw) .none kV17 dc17 pm17 an17 (.ref cc) ct17), sl17⟩)
    (c17d : PySem.W.codeIn K (.ref cc) "law" = true)
    (k17 : PySem.W.keepIn K (.ref f17) = true)
    (gc0 : PySem.W.nsIn K mainGlobals "SIGNS" = some (some (.str "abcdefghijklmnopqrstuvwxyz0123456789" t0)))
    (gc1 : PySem.W.nsIn K mainGlobals "PART_LONGEST" = some (some (.int 4 t1)))
    (gc2 : PySem.W.nsIn K mainGlobals "NAME_LONGEST" = some (some (.int 5 t2)))
    (zn0 : PySem.W.nsIn K mainGlobals "isinstance" = some none)
    (zn1 : PySem.W.nsIn K mainGlobals "int" = some none)
    (zn2 : PySem.W.nsIn K mainGlobals "bool" = some none)
    (zn3 : PySem.W.nsIn K mainGlobals "str" = some none)
    (zn4 : PySem.W.nsIn K mainGlobals "tuple" = some none)
    (zn5 : PySem.W.nsIn K mainGlobals "list" = some none)
    (zn6 : PySem.W.nsIn K mainGlobals "len" = some none)
    (zn7 : PySem.W.nsIn K mainGlobals "all" = some none)
    (zn8 : PySem.W.nsIn K mainGlobals "range" = some none)
    (zn9 : PySem.W.nsIn K mainGlobals "max" = some none)
    (zn10 : PySem.W.nsIn K mainGlobals "min" = some none)
    (zn11 : PySem.W.nsIn K mainGlobals "ValueError" = some none)
    (zn12 : PySem.W.nsIn K mainGlobals "sum" = some none)
    (ea0 : PySem.W.nsIn K mainGlobals "BadName" = some (some (.ref c0)))
    (et0 : PySem.W.typeIn K (.ref c0) = some (.type "type"))
    (ec0 : PySem.W.clsIn K c0 = some ecd0)
    (ea1 : PySem.W.nsIn K mainGlobals "BadSides" = some (some (.ref c1)))
    (et1 : PySem.W.typeIn K (.ref c1) = some (.type "type"))
    (ec1 : PySem.W.clsIn K c1 = some ecd1)
    (ea2 : PySem.W.nsIn K mainGlobals "BadNumber" = some (some (.ref c2)))
    (et2 : PySem.W.typeIn K (.ref c2) = some (.type "type"))
    (ec2 : PySem.W.clsIn K c2 = some ecd2)
    (ea3 : PySem.W.nsIn K mainGlobals "BadLetter" = some (some (.ref c3)))
    (et3 : PySem.W.typeIn K (.ref c3) = some (.type "type"))
    (ec3 : PySem.W.clsIn K c3 = some ecd3)
    (ea4 : PySem.W.nsIn K mainGlobals "NoHouse" = some (some (.ref c4)))
    (et4 : PySem.W.typeIn K (.ref c4) = some (.type "type"))
    (ec4 : PySem.W.clsIn K c4 = some ecd4)
    (ea5 : PySem.W.nsIn K mainGlobals "NoWay" = some (some (.ref c5)))
    (et5 : PySem.W.typeIn K (.ref c5) = some (.type "type"))
    (ec5 : PySem.W.clsIn K c5 = some ecd5)
    (ea6 : PySem.W.nsIn K mainGlobals "NoLetter" = some (some (.ref c6)))
    (et6 : PySem.W.typeIn K (.ref c6) = some (.type "type"))
    (ec6 : PySem.W.clsIn K c6 = some ecd6)
    (ea7 : PySem.W.nsIn K mainGlobals "Gone" = some (some (.ref c7)))
    (et7 : PySem.W.typeIn K (.ref c7) = some (.type "type"))
    (ec7 : PySem.W.clsIn K c7 = some ecd7)
    (ea8 : PySem.W.nsIn K mainGlobals "BadStory" = some (some (.ref c8)))
    (et8 : PySem.W.typeIn K (.ref c8) = some (.type "type"))
    (ec8 : PySem.W.clsIn K c8 = some ecd8)
    (eaW : PySem.W.nsIn K mainGlobals "WantError" = some (some (.ref W)))
    (etW : PySem.W.typeIn K (.ref W) = some (.type "type"))
    (ecW : PySem.W.clsIn K W = some ecdW)
    (ebW : PySem.W.mroIn K W (.type "BaseException") = some true)
    (egn : PySem.W.specialIn K (.builtin "object.__class__") "__get__" = some (some (.builtin "getset_descriptor.__get__")))
    (etk : PySem.W.takesIn K (.builtin "object.__class__") = some true)
    (elW : K.lookup W = some ⟨oW, odW, .cls cdW, slW⟩)
    (eNW : K.lookup cdW.ns = some ⟨oNW, odNW, .dict esW epW, slNW⟩)
    (eKW : exNs esW = true)
    (el0 : K.lookup c0 = some (excClassObj nm0 q0 c0 N0 bs0 (.ref W :: [.type "ValueError", .type "Exception", .type "BaseException", .type "object"]) hd0 sn0 sub0 ab0 col0 dd0 ka0 kb0 kc0 kd0 kf0 "ValueError.__new__"))
    (eN0 : K.lookup N0 = some ⟨oN0, odN0, .dict es0 ep0, slN0⟩)
    (eK0 : exNs es0 = true)
    (eg0 : PySem.W.findIn K (.ref c0) "__getattribute__" = some (some (.builtin "BaseException.__getattribute__")))
    (eh0 : PySem.W.findIn K (.ref c0) "__getattr__" = some none)
    (ek0 : PySem.W.findIn K (.ref c0) "__class__" = some (some (.builtin "object.__class__")))
    (eo0 : PySem.W.mroIn K c0 (.type "object") = some true)
    (eb0 : PySem.W.mroIn K c0 (.type "BaseException") = some true)
    (es00 : PySem.W.subIn K (.ref c0) (.ref c0) = some true)
    (es01 : PySem.W.subIn K (.ref c0) (.ref c1) = some false)
    (es02 : PySem.W.subIn K (.ref c0) (.ref c2) = some false)
    (es03 : PySem.W.subIn K (.ref c0) (.ref c3) = some false)
    (es04 : PySem.W.subIn K (.ref c0) (.ref c4) = some false)
    (es05 : PySem.W.subIn K (.ref c0) (.ref c5) = some false)
    (es06 : PySem.W.subIn K (.ref c0) (.ref c6) = some false)
    (es07 : PySem.W.subIn K (.ref c0) (.ref c7) = some false)
    (es08 : PySem.W.subIn K (.ref c0) (.ref c8) = some false)
    (en01 : (Value.ref c0 == Value.ref c1) = false)
    (en02 : (Value.ref c0 == Value.ref c2) = false)
    (en03 : (Value.ref c0 == Value.ref c3) = false)
    (en04 : (Value.ref c0 == Value.ref c4) = false)
    (en05 : (Value.ref c0 == Value.ref c5) = false)
    (en06 : (Value.ref c0 == Value.ref c6) = false)
    (en07 : (Value.ref c0 == Value.ref c7) = false)
    (en08 : (Value.ref c0 == Value.ref c8) = false)
    (es0W : PySem.W.subIn K (.ref c0) (.ref W) = some true)
    (es0V : PySem.W.subIn K (.ref c0) (.type "ValueError") = some true)
    (lcode : K.lookup cc = some ⟨.type "code", odc, .fields vsc, slc⟩)
    (vP : vsc[11]? = some (.ref Pt))
    (vC : codeChk vsc cc Pt = true) :
    ∃ fd : FuncData, (∀ (s : Shared) (v : Value), BindsTo s fd ⟨[v], []⟩ [("_law_script", v)]) ∧ ∀ base : Heap, K.In base → base.Ns mainGlobals mg → BmAt mg base → FnOk l.prog w K mg base CX0 9 fa fd ["_law_script"] (spLaw K Pt) := by
  have e := hfa.symm.trans (PySem.W.mg_of X G a17)
  cases e
  have F1 := fun_mk (st := sPart) l1 c1d k1
  have b1 := F1.binds (ps := ["thing"]) fun _ _ _ _ _ _ us hl => match us, hl with | [_], _ => rfl
  have F2 := fun_mk (st := sName) l2 c2d k2
  have b2 := F2.binds (ps := ["thing"]) fun _ _ _ _ _ _ us hl => match us, hl with | [_], _ => rfl
  have F3 := fun_mk (st := sBeg) l3 c3d k3
  have b3 := F3.binds (ps := ["thing"]) fun _ _ _ _ _ _ us hl => match us, hl with | [_], _ => rfl
  have F4 := fun_mk (st := sNeedN) l4 c4d k4
  have b4 := F4.binds (ps := ["thing"]) fun _ _ _ _ _ _ us hl => match us, hl with | [_], _ => rfl
  have F5 := fun_mk (st := sNeedB) l5 c5d k5
  have b5 := F5.binds (ps := ["thing"]) fun _ _ _ _ _ _ us hl => match us, hl with | [_], _ => rfl
  have F6 := fun_mk (st := sBegins) l6 c6d k6
  have b6 := F6.binds (ps := ["name", "beginning"]) fun _ _ _ _ _ _ us hl => match us, hl with | [_, _], _ => rfl
  have F7 := fun_mk (st := sText) l7 c7d k7
  have b7 := F7.binds (ps := ["beginning"]) fun _ _ _ _ _ _ us hl => match us, hl with | [_], _ => rfl
  have F8 := fun_mk (st := sRead) l8 c8d k8
  have b8 := F8.binds (ps := ["text"]) fun _ _ _ _ _ _ us hl => match us, hl with | [_], _ => rfl
  have F9 := fun_mk (st := sCell) l9 c9d k9
  have b9 := F9.binds (ps := ["_law_script", "_law_k"]) fun _ _ _ _ _ _ us hl => match us, hl with | [_, _], _ => rfl
  have F10 := fun_mk (st := sDrawn) l10 c10d k10
  have b10 := F10.binds (ps := ["_law_cell_here", "_law_k"]) fun _ _ _ _ _ _ us hl => match us, hl with | [_, _], _ => rfl
  have F11 := fun_mk (st := sRoll) l11 c11d k11
  have b11 := F11.binds (ps := ["_law_dice", "_law_many"]) fun _ _ _ _ _ _ us hl => match us, hl with | [_, _], _ => rfl
  have F12 := fun_mk (st := sRounds) l12 c12d k12
  have b12 := F12.binds (ps := ["_law_script", "_law_most"]) fun _ _ _ _ _ _ us hl => match us, hl with | [_, _], _ => rfl
  have F13 := fun_mk (st := sWord) l13 c13d k13
  have b13 := F13.binds (ps := ["_law_e"]) fun _ _ _ _ _ _ us hl => match us, hl with | [_], _ => rfl
  have F14 := fun_mk (st := sTold) l14 c14d k14
  have b14 := F14.binds (ps := ["_law_deed"]) fun _ _ _ _ _ _ us hl => match us, hl with | [_], _ => rfl
  have F15 := fun_mk (st := sHead) l15 c15d k15
  have b15 := F15.binds (ps := ["_law_dice"]) fun _ _ _ _ _ _ us hl => match us, hl with | [_], _ => rfl
  have F16 := fun_mk (st := sAny) l16 c16d k16
  have b16 := F16.binds (ps := ["_law_dice"]) fun _ _ _ _ _ _ us hl => match us, hl with | [_], _ => rfl
  have NN : Nine K mg c0 c1 c2 c3 c4 c5 c6 c7 c8 W := ⟨PySem.W.mg_of X G ea0, PySem.W.mg_of X G ea1, PySem.W.mg_of X G ea2, PySem.W.mg_of X G ea3, PySem.W.mg_of X G ea4, PySem.W.mg_of X G ea5, PySem.W.mg_of X G ea6, PySem.W.mg_of X G ea7, PySem.W.mg_of X G ea8, PySem.W.mg_of X G eaW, ebW, PySem.W.mg_none_of X G zn11, PySem.W.mg_none_of X G zn12⟩
  have RC0 : ExcC K c0 := excC_mk el0 eN0 eK0 elW eNW eKW
  have RI0 : ExcIs K c0 := ⟨eg0, eh0, ek0, egn, etk, eo0, eb0, by rw [ec0]; rfl⟩
  have RF0 : Flg K [c0, c1, c2, c3, c4, c5, c6, c7, c8] W c0 0 := ⟨by decide, RI0, kit_cls ecW etW es0W, fun i c hc => flg9 (kf := fun i => decide (i = 0)) kit_self (kit_other en01 ec1 et1 es01) (kit_other en02 ec2 et2 es02) (kit_other en03 ec3 et3 es03) (kit_other en04 ec4 et4 es04) (kit_other en05 ec5 et5 es05) (kit_other en06 ec6 et6 es06) (kit_other en07 ec7 et7 es07) (kit_other en08 ec8 et8 es08) hc, kit_val es0V⟩
  have GL : Glb mg := ⟨PySem.W.mg_none_of X G zn0, PySem.W.mg_none_of X G zn1, PySem.W.mg_none_of X G zn2, PySem.W.mg_none_of X G zn3, PySem.W.mg_none_of X G zn4, PySem.W.mg_none_of X G zn5, PySem.W.mg_none_of X G zn6, PySem.W.mg_none_of X G zn7, PySem.W.mg_none_of X G zn8, PySem.W.mg_none_of X G zn9, PySem.W.mg_none_of X G zn10, ⟨_, PySem.W.mg_of X G gc0⟩, ⟨_, PySem.W.mg_of X G gc1⟩, ⟨_, PySem.W.mg_of X G gc2⟩⟩
  have R0 : Rz K mg "BadName" c0 := ⟨RC0, PySem.W.mg_of X G ea0⟩
  refine ⟨PySem.W.fnOf "law" "law" (defArgs sLaw) (defBody sLaw) (defScope sLaw) .none kV17 dc17 pm17 an17 (.ref cc) ct17, fun s v => .of_eq rfl, fun base _ _ BM => ?_⟩
  have K1 := ok_part (P := l.prog) (w := w) (base := base) F1 GL
  have K2 := ok_name F2 GL ⟨K1, PySem.W.mg_of X G a1, k1, b1⟩
  have K3 := ok_beg F3 GL ⟨K2, PySem.W.mg_of X G a2, k2, b2⟩
  have K4 := okx_needN F4 R0 ⟨K2, PySem.W.mg_of X G a2, k2, b2⟩
  have K5 := okx_needB F5 R0 ⟨K3, PySem.W.mg_of X G a3, k3, b3⟩
  have K6 := okx_begins F6 GL ⟨K4, PySem.W.mg_of X G a4, k4, b4⟩ ⟨K5, PySem.W.mg_of X G a5, k5, b5⟩
  have K7 := okx_text F7 ⟨K5, PySem.W.mg_of X G a5, k5, b5⟩
  have K8 := okx_read F8 GL R0 ⟨K2, PySem.W.mg_of X G a2, k2, b2⟩
  have K9 := ok_cell (P := l.prog) (w := w) (base := base) F9 GL
  have K10 := ok_drawn (P := l.prog) (w := w) (base := base) (mg := mg) F10
  have K11 := ok_roll F11 ⟨K10, PySem.W.mg_of X G a10, k10, b10⟩
  have K12 := ok_rounds F12 GL ⟨K9, PySem.W.mg_of X G a9, k9, b9⟩
  have K13 := ok_word (P := l.prog) (w := w) (base := base) F13 GL NN
  have K14 := ok_told F14 b14 GL NN K13 (PySem.W.mg_of X G a13) k13 b13
  have K15 := ok_head F15 GL ⟨K11, PySem.W.mg_of X G a11, k11, b11⟩
  have K16 := ok_any F16 ⟨K11, PySem.W.mg_of X G a11, k11, b11⟩ ⟨K15, PySem.W.mg_of X G a15, k15, b15⟩
  have EV : EnvT l.prog w K mg base cc Pt f14 W _ (wd9 K [c0, c1, c2, c3, c4, c5, c6, c7, c8] W) := ⟨K14, PySem.W.mg_of X G a14, k14, codeHd_mk lcode vC, BM⟩
  exact ok_law l17 c17d GL EV ⟨RF0.up, 0, RF0, rfl, by decide⟩ ⟨K12, PySem.W.mg_of X G a12, k12, b12⟩ ⟨K15, PySem.W.mg_of X G a15, k15, b15⟩ ⟨K16, PySem.W.mg_of X G a16, k16, b16⟩ ⟨K2, PySem.W.mg_of X G a2, k2, b2⟩ ⟨K3, PySem.W.mg_of X G a3, k3, b3⟩ ⟨K7, PySem.W.mg_of X G a7, k7, b7⟩ ⟨K6, PySem.W.mg_of X G a6, k6, b6⟩ ⟨K8, PySem.W.mg_of X G a8, k8, b8⟩
theorem walk {l : PySem.W.OpenLaw} {q : Program} {loose : List Str} {XP : (Str → Option Value) → Heap → Prop} {YP : World → Heap → Prop} {d : DefRec} {K : Params → PySem.W.Frag} (cc Pt : Addr) (hn : l.most = some 63) (hdf : d.params.defaults = [])
    (hY : ∀ (w : World) (h : Heap), YP w h → (K w.params).In h) (hT : ∀ (w : World) (h : Heap), YP w h → h.get? Pt = some (PySem.W.tabObj #[])) (hC : ∀ w : World, PySem.W.codeHdIn (K w.params) cc Pt = true) (hKP : ∀ w : World, (K w.params).lookup Pt = none)
    (F : ∀ (w : World) (mg : Str → Option Value) (fa : Addr) (h : Heap), (K w.params).In h → h.Ns mainGlobals mg → mg d.name = some (.ref fa) →
      ∃ fd : FuncData, (∀ (s : Shared) (u : Value), BindsTo s fd ⟨[u], []⟩ [("_law_script", u)]) ∧ ∀ base : Heap, (K w.params).In base → base.Ns mainGlobals mg → BmAt mg base → FnOk l.prog w (K w.params) mg base CX0 9 fa fd ["_law_script"] (spLaw (K w.params) Pt)) :
    PySem.W.WalkO q loose XP YP l.row.toRowW d [] (fun f vs => PySem.call f vs) :=
  L2.walk_ofT (n := 63) (k := 9) (x := "_law_script") (CX := fun _ => CX0) (sp := fun w => spLaw (K w.params) Pt) [Pt] hn (by decide) hdf ⟨rfl, by decide, by decide⟩ hY
    (fun w h Y X P hP => by rw [List.mem_singleton.mp hP]; exact ⟨cc, PySem.W.codeHd_of_K X (hC w), hT w h Y⟩) (fun w P hP => by rw [List.mem_singleton.mp hP]; exact hKP w) F
    (fun _ _ a ns hl hP hS => ⟨a, ns, rfl, hS, hl, hP Pt (List.mem_singleton.mpr rfl), fun _ => rfl⟩) fun _ _ _ _ _ z => z
end K10
open PySem PySem.W PyProof.Rows
set_option maxRecDepth 100000 in
set_option maxHeartbeats 0 in
theorem PySem.Challenge.cw_namewants_k10_whole_names_holds : PySem.Challenge.rw_namewants_k10_whole_names.Holds := by
  w_on; o_law; k_head; (case hw => w_witness2)
  k_fill
  refine K10.walk (l := PySem.Challenge.rw_namewants_k10_whole_names) 250 246 rfl rfl (fun w h Y => PySem.W.km_in_of Y) (fun w h Y => PySem.W.km_tabs_of Y _ (by simp)) (fun w => by kernel_rfl) (fun w => by kernel_rfl) ?F
  case F =>
    intro w mg fa h KX G hmg
    refine' K10.all_mk KX G hmg ?a1 ?l1 ?c1d ?k1 ?a2 ?l2 ?c2d ?k2 ?a3 ?l3 ?c3d ?k3 ?a4 ?l4 ?c4d ?k4 ?a5 ?l5 ?c5d ?k5 ?a6 ?l6 ?c6d ?k6 ?a7 ?l7 ?c7d ?k7 ?a8 ?l8 ?c8d ?k8 ?a9 ?l9 ?c9d ?k9 ?a10 ?l10 ?c10d ?k10 ?a11 ?l11 ?c11d ?k11 ?a12 ?l12 ?c12d ?k12 ?a13 ?l13 ?c13d ?k13 ?a14 ?l14 ?c14d ?k14 ?a15 ?l15 ?c15d ?k15 ?a16 ?l16 ?c16d ?k16 ?a17 ?l17 ?c17d ?k17 ?gc0 ?gc1 ?gc2 ?zn0 ?zn1 ?zn2 ?zn3 ?zn4 ?zn5 ?zn6 ?zn7 ?zn8 ?zn9 ?zn10 ?zn11 ?zn12 ?ea0 ?et0 ?ec0 ?ea1 ?et1 ?ec1 ?ea2 ?et2 ?ec2 ?ea3 ?et3 ?ec3 ?ea4 ?et4 ?ec4 ?ea5 ?et5 ?ec5 ?ea6 ?et6 ?ec6 ?ea7 ?et7 ?ec7 ?ea8 ?et8 ?ec8 ?eaW ?etW ?ecW ?ebW ?egn ?etk ?elW ?eNW ?eKW ?el0 ?eN0 ?eK0 ?eg0 ?eh0 ?ek0 ?eo0 ?eb0 ?es00 ?es01 ?es02 ?es03 ?es04 ?es05 ?es06 ?es07 ?es08 ?en01 ?en02 ?en03 ?en04 ?en05 ?en06 ?en07 ?en08 ?es0W ?es0V ?lcode ?vP ?vC
    (case a1 => k_is)
    (case l1 => k_is)
    (case c1d => k_is)
    (case k1 => k_is)
    (case a2 => k_is)
    (case l2 => k_is)
    (case c2d => k_is)
    (case k2 => k_is)
    (case a3 => k_is)
    (case l3 => k_is)
    (case c3d => k_is)
    (case k3 => k_is)
    (case a4 => k_is)
    (case l4 => k_is)
    (case c4d => k_is)
    (case k4 => k_is)
    (case a5 => k_is)
    (case l5 => k_is)
    (case c5d => k_is)
    (case k5 => k_is)
    (case a6 => k_is)
    (case l6 => k_is)
    (case c6d => k_is)
    (case k6 => k_is)
    (case a7 => k_is)
    (case l7 => k_is)
    (case c7d => k_is)
    (case k7 => k_is)
    (case a8 => k_is)
    (case l8 => k_is)
    (case c8d => k_is)
    (case k8 => k_is)
    (case a9 => k_is)
    (case l9 => k_is)
    (case c9d => k_is)
    (case k9 => k_is)
    (case a10 => k_is)
    (case l10 => k_is)
    (case c10d => k_is)
    (case k10 => k_is)
    (case a11 => k_is)
    (case l11 => k_is)
    (case c11d => k_is)
    (case k11 => k_is)
    (case a12 => k_is)
    (case l12 => k_is)
    (case c12d => k_is)
    (case k12 => k_is)
    (case a13 => k_is)
    (case l13 => k_is)
    (case c13d => k_is)
    (case k13 => k_is)
    (case a14 => k_is)
    (case l14 => k_is)
    (case c14d => k_is)
    (case k14 => k_is)
    (case a15 => k_is)
    (case l15 => k_is)
    (case c15d => k_is)
    (case k15 => k_is)
    (case a16 => k_is)
    (case l16 => k_is)
    (case c16d => k_is)
    (case k16 => k_is)
    (case a17 => k_is)
    (case l17 => k_is)
    (case c17d => k_is)
    (case k17 => k_is)
    (case gc0 => k_is)
    (case gc1 => k_is)
    (case gc2 => k_is)
    (case zn0 => k_is)
    (case zn1 => k_is)
    (case zn2 => k_is)
    (case zn3 => k_is)
    (case zn4 => k_is)
    (case zn5 => k_is)
    (case zn6 => k_is)
    (case zn7 => k_is)
    (case zn8 => k_is)
    (case zn9 => k_is)
    (case zn10 => k_is)
    (case zn11 => k_is)
    (case zn12 => k_is)
    (case ea0 => k_is)
    (case et0 => k_is)
    (case ec0 => k_is)
    (case ea1 => k_is)
    (case et1 => k_is)
    (case ec1 => k_is)
    (case ea2 => k_is)
    (case et2 => k_is)
    (case ec2 => k_is)
    (case ea3 => k_is)
    (case et3 => k_is)
    (case ec3 => k_is)
    (case ea4 => k_is)
    (case et4 => k_is)
    (case ec4 => k_is)
    (case ea5 => k_is)
    (case et5 => k_is)
    (case ec5 => k_is)
    (case ea6 => k_is)
    (case et6 => k_is)
    (case ec6 => k_is)
    (case ea7 => k_is)
    (case et7 => k_is)
    (case ec7 => k_is)
    (case ea8 => k_is)
    (case et8 => k_is)
    (case ec8 => k_is)
    (case eaW => k_is)
    (case etW => k_is)
    (case ecW => k_is)
    (case ebW => k_is)
    (case egn => k_is)
    (case etk => k_is)
    (case elW => k_is)
    (case eNW => k_is)
    (case eKW => rfl)
    (case el0 => k_is)
    (case eN0 => k_is)
    (case eK0 => rfl)
    (case eg0 => k_is)
    (case eh0 => k_is)
    (case ek0 => k_is)
    (case eo0 => k_is)
    (case eb0 => k_is)
    (case es00 => k_is)
    (case es01 => k_is)
    (case es02 => k_is)
    (case es03 => k_is)
    (case es04 => k_is)
    (case es05 => k_is)
    (case es06 => k_is)
    (case es07 => k_is)
    (case es08 => k_is)
    (case en01 => rfl)
    (case en02 => rfl)
    (case en03 => rfl)
    (case en04 => rfl)
    (case en05 => rfl)
    (case en06 => rfl)
    (case en07 => rfl)
    (case en08 => rfl)
    (case es0W => k_is)
    (case es0V => k_is)
    (case lcode => k_is)
    (case vP => rfl)
    (case vC => rfl)
#print axioms PySem.Challenge.cw_namewants_k10_whole_names_holds
end
