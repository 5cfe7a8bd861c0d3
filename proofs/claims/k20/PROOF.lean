import PyProof.Rows.All
import Wide.All
import OpenK.AllK
import Wide.FinOn
import Lean
import PyProof.EqAt
import PyProof.EqKinds
import PyProof.TupleCall
import PyProof.NeKinds
import PyProof.ConsumeWalk
import KE.IntBitsLaws
import PyProof.DictWalks
import PyProof.DictRoadsH
import KE.KDictList
import PyProof.RaisesMany
import PyProof.StationsW
import PyProof.ExcClass2
import PyProof.RulesTry
import PyProof.ExcBaseAll.ValueError
import PyProof.Rows.FStr
import KE.KLam
import KE.KNestM
import PyProof.Seq
import PyProof.Walks
import PyProof.SumWalkG
import PyProof.FactsTree
import PyProof.CodeObj
import PyProof.WalkInts
import KE.KIsNot
import OpenK.KDescr
import OpenK.KCls
import PyProof.ExcAttrAll.ValueError
import KE.KIsAll
import PyProof.RulesAs
import PyProof.Rows.SumGenD
import KE.KNest
import PyProof.Rows.SetFrom
import PyProof.SetRoads
import PyProof.Rows.SortShell
import KE.KDictSum
import PyProof.ListMulRoad
import PySem.Challenge.RW_namewants_k20_whole_tables
section
set_option Elab.async false
set_option linter.all false
set_option maxRecDepth 100000
namespace L2
open PySem PySem.Spec PyProof.Rows
noncomputable abbrev Key := Sum Int Str
noncomputable def keyIs : Key → Value → Bool
  | .inl k, v => Value.isInt k v
  | .inr x, v => Value.isStrOf x v
noncomputable def keyH (w : World) : Key → Int
  | .inl k => hashInt k
  | .inr x => hashStr w x
theorem keyIs_shape : ∀ {k : Key} {v : Value}, keyIs k v = true → (∃ i t, k = Sum.inl i ∧ v = Value.int i t) ∨ (∃ x t, k = Sum.inr x ∧ v = Value.str x t)
  | .inl i, v, h => by
    obtain ⟨t, e⟩ := Value.isInt_shape (k := i) (v := v) h
    exact .inl ⟨i, t, rfl, e⟩
  | .inr x, v, h => by
    obtain ⟨t, e⟩ := Value.isStrOf_shape (x := x) (v := v) h
    exact .inr ⟨x, t, rfl, e⟩
theorem keyIs_int (i : Int) (t : Tok) : keyIs (.inl i) (.int i t) = true := by simp [keyIs, Value.isInt]
theorem keyIs_str (x : Str) (t : Tok) : keyIs (.inr x) (.str x t) = true := by simp [keyIs, Value.isStrOf]
theorem key_ll (a b : Int) : decide ((Sum.inl a : Key) = Sum.inl b) = (a == b) := by
  by_cases e : a = b
  · subst e; simp
  · have h : ¬ (Sum.inl a : Key) = Sum.inl b := fun q => e (Sum.inl.inj q)
    rw [decide_eq_false h]
    exact (beq_eq_false_iff_ne.mpr e).symm
theorem key_rr (a b : Str) : decide ((Sum.inr a : Key) = Sum.inr b) = decide (a = b) := by
  by_cases e : a = b
  · subst e; simp
  · have h : ¬ (Sum.inr a : Key) = Sum.inr b := fun q => e (Sum.inr.inj q)
    rw [decide_eq_false h, decide_eq_false e]
theorem key_lr (a : Int) (b : Str) : decide ((Sum.inl a : Key) = Sum.inr b) = false := decide_eq_false (fun q => nomatch q)
theorem key_rl (a : Str) (b : Int) : decide ((Sum.inr a : Key) = Sum.inl b) = false := decide_eq_false (fun q => nomatch q)
noncomputable def mixKind (prog : Program) (w : World) : PySem.KeyKind prog w Key where
  is := keyIs
  hash := keyH w
  inj := fun v a b ha hb => by
    rcases keyIs_shape ha with ⟨i, t, rfl, rfl⟩ | ⟨x, t, rfl, rfl⟩
    · rcases keyIs_shape hb with ⟨j, u, rfl, e⟩ | ⟨y, u, rfl, e⟩
      · injection e with e1 _; rw [e1]
      · exact nomatch e
    · rcases keyIs_shape hb with ⟨j, u, rfl, e⟩ | ⟨y, u, rfl, e⟩
      · exact nomatch e
      · injection e with e1 _; rw [e1]
  byValue := fun k v h => by
    rcases keyIs_shape h with ⟨i, t, rfl, rfl⟩ | ⟨x, t, rfl, rfl⟩ <;> rfl
  pyHash := fun hv h => by
    rcases keyIs_shape hv with ⟨i, t, rfl, rfl⟩ | ⟨x, t, rfl, rfl⟩
    · exact wpAny_pyHash_int h
    · exact wpAny_pyHash_str h
  eqBool := fun hu hv h => by
    rcases keyIs_shape hu with ⟨i, t, rfl, rfl⟩ | ⟨x, t, rfl, rfl⟩
    · rcases keyIs_shape hv with ⟨j, u, rfl, rfl⟩ | ⟨y, u, rfl, rfl⟩
      · rw [key_ll] at h; exact wpAny_eqBool_int h
      · rw [key_lr] at h; exact SeqAt.EqAt.int_str i t y u _ _ _ _ h
    · rcases keyIs_shape hv with ⟨j, u, rfl, rfl⟩ | ⟨y, u, rfl, rfl⟩
      · rw [key_rl] at h; exact SeqAt.EqAt.str_int x t j u _ _ _ _ h
      · rw [key_rr] at h; exact wpAny_eqBool_str h
  «strs» := fun k x t v h => by
    rcases keyIs_shape h with ⟨i, u, rfl, e⟩ | ⟨y, u, rfl, e⟩
    · exact nomatch e
    · injection e with e1 _
      subst e1
      cases v <;> rfl
theorem mixKind_int (prog : Program) (w : World) (i : Int) (t : Tok) : (mixKind prog w).is (.inl i) (.int i t) = true := keyIs_int i t
theorem mixKind_str (prog : Program) (w : World) (x : Str) (t : Tok) : (mixKind prog w).is (.inr x) (.str x t) = true := keyIs_str x t
end L2
namespace L2
open PySem PySem.Spec PyProof.Rows
inductive V where
  | non | bl (b : Bool) | int (i : Int) | str (x : Str) | byt (b : Array UInt8) | flt (b : UInt64) | ref (a : Addr) | ty (n : String)
  deriving DecidableEq
noncomputable def RelV : V → Value → Prop
  | .non, u => u = Value.none
  | .bl b, u => u = Value.bool b
  | .int i, u => ∃ t, u = Value.int i t
  | .str x, u => ∃ t, u = Value.str x t
  | .byt b, u => ∃ t, u = Value.bytes b t
  | .flt b, u => ∃ t, u = Value.float b t
  | .ref a, u => u = Value.ref a
  | .ty n, u => u = Value.type n
noncomputable abbrev Vals : List V → List Value → Prop := Paired RelV
theorem Vals.length {xs : List V} {us : List Value} (r : Vals xs us) : xs.length = us.length := Paired.length r
theorem Vals.get : ∀ {xs : List V} {us : List Value} {i : Nat} {x : V}, Vals xs us → xs[i]? = some x → ∃ u, us[i]? = some u ∧ RelV x u
  | _, _, _, _, .nil, e => by simp at e
  | _, _, 0, _, .cons r _, e => by simp at e; subst e; exact ⟨_, rfl, r⟩
  | _, _, i + 1, x, .cons _ t, e => by
    obtain ⟨u, h1, h2⟩ := Vals.get (i := i) (x := x) t (by simpa using e)
    exact ⟨u, by simpa using h1, h2⟩
theorem Vals.set {x : V} {u : Value} (r : RelV x u) : ∀ {xs : List V} {us : List Value} (i : Nat), Vals xs us → Vals (xs.set i x) (us.set i u)
  | _, _, _, .nil => .nil
  | _, _, 0, .cons _ t => .cons r t
  | _, _, i + 1, .cons q t => .cons q (Vals.set r i t)
theorem Vals.append : ∀ {xs ys : List V} {us ws : List Value}, Vals xs us → Vals ys ws → Vals (xs ++ ys) (us ++ ws)
  | _, _, _, _, .nil, s => s
  | _, _, _, _, .cons r t, s => .cons r (Vals.append t s)
theorem Vals.take : ∀ {xs : List V} {us : List Value} (n : Nat), Vals xs us → Vals (xs.take n) (us.take n)
  | _, _, 0, _ => .nil
  | _, _, _ + 1, .nil => .nil
  | _, _, n + 1, .cons r t => .cons r (Vals.take n t)
theorem Vals.drop : ∀ {xs : List V} {us : List Value} (n : Nat), Vals xs us → Vals (xs.drop n) (us.drop n)
  | _, _, 0, r => r
  | _, _, _ + 1, .nil => .nil
  | _, _, n + 1, .cons _ t => Vals.drop n t
noncomputable def RelO : Option V → Option Value → Prop
  | some v, some u => RelV v u
  | none, none => True
  | _, _ => False
noncomputable def KV {κ : Type} : List (κ × V) → List (κ × Value) → Prop := Paired fun (p : κ × V) (q : κ × Value) => p.1 = q.1 ∧ RelV p.2 q.2
noncomputable def kV : Key → V
  | .inl i => .int i
  | .inr x => .str x
inductive HO where
  | lst (xs : List V)
  | tup (xs : List V)
  | dK (kvs : List (Key × V)) | dT (kvs : List (List Key × V))
  | set (S : Int → Bool) (n : Nat)
  | ins (C dx : Addr) (fs : List (Str × V))
  | own (x : Addr)
  | xd (fs : List (Str × V))
  | met (f x : Addr)
  | rng (lo hi : Int)
  | frz (o : Obj) (u : HO)
  | tbl (ps : Array Value)
  | ext (φ : Heap → Prop)
noncomputable abbrev Hp := Addr → Option HO
noncomputable def upd (H : Hp) (a : Addr) (o : HO) : Hp := fun b => if b = a then some o else H b
theorem upd_same {H : Hp} {a : Addr} {o : HO} : upd H a o a = some o := by unfold upd; rw [if_pos rfl]
theorem upd_ne {H : Hp} {a b : Addr} {o : HO} (h : b ≠ a) : upd H a o b = H b := by unfold upd; rw [if_neg h]
theorem upd_upd {H : Hp} {a : Addr} {o u : HO} : upd (upd H a o) a u = upd H a u := by
  funext b; unfold upd; split <;> rfl
theorem ne_of {H : Hp} {a b : Addr} {o u : HO} (h : H a = some o) (h' : H b = some u) (d : o ≠ u) : a ≠ b := by
  intro e; subst e; rw [h] at h'; exact d (Option.some.inj h')
theorem ne_of_none {H : Hp} {a b : Addr} {o : HO} (h : H a = some o) (h' : H b = none) : a ≠ b := by
  intro e; subst e; rw [h] at h'; cases h'
section
variable (P : Program) (w : World)
noncomputable def ObjOk (H : Hp) (h : Heap) (a : Addr) : HO → Prop
  | .lst xs => xs.length ≤ sizeLine ∧ ∃ (its : List Value) (n : Nat), Vals xs its ∧ h.get? a = some { cls := .type "list", data := .seq its.toArray n }
  | .tup xs => xs.length ≤ sizeLine ∧ ∃ its : List Value, Vals xs its ∧ IsTup h a its.toArray
  | .dK kvs => kvs.length ≤ sizeLine ∧ (a == sysModules) = false ∧ ∃ vs, KV kvs vs ∧ h.DictOf (mixKind P w) a vs
  | .dT kvs => kvs.length ≤ sizeLine ∧ (a == sysModules) = false ∧ ∃ xs : List (List Key × Addr × Value),
      Paired (fun (p : List Key × V) (q : List Key × Addr × Value) => p.1 = q.1 ∧ H q.2.1 = some (.tup (p.1.map kV)) ∧ RelV p.2 q.2.2) kvs xs ∧
      ∃ o es ep, h.get? a = some o ∧ o.ExactDict ∧ o.data = .dict es ep ∧ es.toList = xs.map (entryOfKey (tupleKind (mixKind P w))) ∧ (xs.map (·.1)).Nodup
  | .set S n => h.SetOf (intKind P w) a S n
  | .ins C dx fs => H dx = some (.own a) ∧ fs.length ≤ 1000 ∧ dx ≠ a ∧ h.get? a = some (PySem.W.instObj C dx) ∧
      ∃ mA, h.Ns1 dx mA ∧ (∀ f, RelO (fs.lookup f) (mA f)) ∧ PySem.Within mA (fs.map (·.1))
  | .own _ => ∃ o, h.get? a = some o
  | .xd fs => ∃ mA, h.Ns1 a mA ∧ ∀ f, RelO (fs.lookup f) (mA f)
  | .rng lo hi => ∃ t u v, h.get? a = some { cls := .type "range", data := .fields #[.int lo t, .int hi u, .int 1 v] }
  | .frz o u => h.get? a = some o ∧ ObjOk H h a u
  | .tbl ps => h.get? a = some { cls := .none, data := .fields ps }
  | .met f x => h.get? a = some (PySem.W.methodObj (.ref f) (.ref x))
  | .ext φ => φ h ∧ (∃ o, h.get? a = some o) ∧ ∀ h1 h2 : Heap, φ h1 → (∀ o, h1.get? a = some o → h2.get? a = some o) → φ h2
noncomputable def HOk (H : Hp) (h : Heap) : Prop := ∀ a o, H a = some o → ObjOk P w H h a o
end
section
variable {P : Program} {w : World} {H H' : Hp} {h h' : Heap} {a : Addr} {o : HO}
theorem ObjOk.lt (x : ObjOk P w H h a o) : a < h.objs.size := by
  cases o with
  | lst xs => obtain ⟨_, _, _, _, e⟩ := x; exact Heap.lt_size e
  | tup xs => obtain ⟨_, _, _, p⟩ := x; exact p.lt
  | dK kvs => obtain ⟨_, _, _, _, o, _, _, e, _⟩ := x; exact Heap.lt_size e
  | dT kvs => obtain ⟨_, _, _, _, o, _, _, e, _⟩ := x; exact Heap.lt_size e
  | set S n => obtain ⟨o, _, _, _, e, _⟩ := x; exact Heap.lt_size e
  | ins C dx fs => obtain ⟨_, _, _, e, _⟩ := x; exact Heap.lt_size e
  | own y => obtain ⟨_, e⟩ := x; exact Heap.lt_size e
  | xd fs => obtain ⟨_, ⟨_, _, _, e, _⟩, _⟩ := x; exact Heap.lt_size e
  | rng lo hi => obtain ⟨_, _, _, e⟩ := x; exact Heap.lt_size e
  | frz ob u => obtain ⟨e, _⟩ := x; exact Heap.lt_size e
  | tbl ps => exact Heap.lt_size (show h.get? a = some _ from x)
  | met f y => exact Heap.lt_size (show h.get? a = some _ from x)
  | ext φ => obtain ⟨_, ⟨_, e⟩, _⟩ := x; exact Heap.lt_size e
theorem Paired.mapP {α β : Type} {F G : α → β → Prop} : ∀ {l₁ : List α} {l₂ : List β}, Paired F l₁ l₂ → (∀ a b, F a b → G a b) → Paired G l₁ l₂
  | _, _, .nil, _ => .nil
  | _, _, .cons r t, f => .cons (f _ _ r) (Paired.mapP t f)
theorem ObjOk.stay (x : ObjOk P w H h a o) (k : ∀ b u, (b = a ∨ H b = some (.own a)) → h.get? b = some u → h'.get? b = some u)
    (ho : ∀ b, H b = some (.own a) → H' b = some (.own a)) (ht : ∀ b xs, H b = some (.tup xs) → H' b = some (.tup xs)) : ObjOk P w H' h' a o := by
  induction o with
  | lst xs => obtain ⟨z, its, n, r, e⟩ := x; exact ⟨z, its, n, r, k _ _ (.inl rfl) e⟩
  | tup xs => obtain ⟨z, its, r, ob, e, c⟩ := x; exact ⟨z, its, r, ob, k _ _ (.inl rfl) e, c⟩
  | dK kvs => obtain ⟨z, y, vs, r, ob, es, ep, e, c⟩ := x; exact ⟨z, y, vs, r, ob, es, ep, k _ _ (.inl rfl) e, c⟩
  | dT kvs =>
    obtain ⟨z, y, xs, r, ob, es, ep, e, c⟩ := x
    exact ⟨z, y, xs, Paired.mapP r fun p q z => ⟨z.1, ht _ _ z.2.1, z.2.2⟩, ob, es, ep, k _ _ (.inl rfl) e, c⟩
  | set S n => obtain ⟨ob, es, ep, t, e, c⟩ := x; exact ⟨ob, es, ep, t, k _ _ (.inl rfl) e, c⟩
  | ins C dx fs =>
    obtain ⟨d, z, ne, e, mA, ⟨od, es, ep, e2, c⟩, r⟩ := x
    exact ⟨ho _ d, z, ne, k _ _ (.inl rfl) e, mA, ⟨od, es, ep, k _ _ (.inr d) e2, c⟩, r⟩
  | own y => obtain ⟨ob, e⟩ := x; exact ⟨ob, k _ _ (.inl rfl) e⟩
  | xd fs => obtain ⟨mA, ⟨od, es, ep, e, c⟩, r⟩ := x; exact ⟨mA, ⟨od, es, ep, k _ _ (.inl rfl) e, c⟩, r⟩
  | rng lo hi => obtain ⟨t, u, v, e⟩ := x; exact ⟨t, u, v, k _ _ (.inl rfl) e⟩
  | frz ob u ih => obtain ⟨e, q⟩ := x; exact ⟨k _ _ (.inl rfl) e, ih q⟩
  | tbl ps =>
    have e : h.get? a = some { cls := .none, data := .fields ps } := x
    show h'.get? a = some { cls := .none, data := .fields ps }
    exact k a _ (.inl rfl) e
  | met f y =>
    have e : h.get? a = some (PySem.W.methodObj (.ref f) (.ref y)) := x
    show h'.get? a = some (PySem.W.methodObj (.ref f) (.ref y))
    exact k a _ (.inl rfl) e
  | ext φ => obtain ⟨p, ⟨o, e⟩, st⟩ := x; exact ⟨st _ _ p fun o q => k _ _ (.inl rfl) q, ⟨o, k _ _ (.inl rfl) e⟩, st⟩
theorem HOk.lt (x : HOk P w H h) (e : H a = some o) : a < h.objs.size := (x a o e).lt
theorem HOk.fresh (x : HOk P w H h) (e : h.objs.size ≤ a) : H a = none := by
  cases q : H a with
  | none => rfl
  | some u => exact absurd (Nat.lt_of_lt_of_le (x.lt q) e) (Nat.lt_irrefl _)
theorem HOk.kept (x : HOk P w H h) (k : ∀ b u, h.get? b = some u → h'.get? b = some u) : HOk P w H h' := fun a o e =>
  (x a o e).stay (fun b u _ q => k b u q) (fun _ q => q) fun _ _ q => q
theorem HOk.laid (x : HOk P w H h) (k : ∀ b u, h.get? b = some u → h'.get? b = some u) (hp : h.objs.size ≤ a) (new : ObjOk P w (upd H a o) h' a o) : HOk P w (upd H a o) h' := fun b u e => by
  have hn := x.fresh hp
  by_cases hb : b = a
  · subst hb; rw [upd_same] at e; cases e; exact new
  · rw [upd_ne hb] at e
    exact (x b u e).stay (fun c v _ q => k c v q) (fun c q => by rw [upd_ne (ne_of_none q hn)]; exact q) fun c xs q => by rw [upd_ne (ne_of_none q hn)]; exact q
end
noncomputable def Rd (H : Hp) (a : Addr) (u : HO) : Prop := H a = some u ∨ ∃ o, H a = some (.frz o u)
theorem Rd.ok {P : Program} {w : World} {H : Hp} {h : Heap} {a : Addr} {u : HO} (r : Rd H a u) (x : HOk P w H h) : ObjOk P w H h a u := by
  rcases r with r | ⟨o, r⟩
  · exact x a u r
  · obtain ⟨_, q⟩ := x a _ r
    exact q
noncomputable def Mut : Option HO → Prop
  | some (.lst _) => True
  | some (.dK _) => True
  | some (.dT _) => True
  | some (.set _ _) => True
  | some (.ins _ _ _) => True
  | some (.ext _) => True
  | _ => False
section
variable {P : Program} {w : World} {H : Hp} {h h' : Heap} {x e : Addr} {o' : HO}
theorem HOk.write (ok : HOk P w H h) (mu : Mut (H x)) (he : e = x ∨ H e = some (.own x)) (k : ∀ b u, b ≠ e → h.get? b = some u → h'.get? b = some u) (heo : ∃ u, h'.get? e = some u)
    (new : ObjOk P w (upd H x o') h' x o') : HOk P w (upd H x o') h' := fun b u q => by
  have nown : ∀ c y, H c = some (.own y) → c ≠ x := fun c y r z => by subst z; rw [r] at mu; exact mu
  have ntup : ∀ c xs, H c = some (.tup xs) → c ≠ x := fun c xs r z => by subst z; rw [r] at mu; exact mu
  by_cases hb : b = x
  · subst hb; rw [upd_same] at q; cases q; exact new
  · rw [upd_ne hb] at q
    by_cases hbe : b = e
    · have q' : H b = some (.own x) := by
        rcases he with z | z
        · exact absurd (hbe.trans z) hb
        · rw [hbe]; exact z
      rw [q] at q'; cases q'
      obtain ⟨v, hv⟩ := heo
      exact ⟨v, by rw [hbe]; exact hv⟩
    · refine (ok b u q).stay (fun c v hc r => k c v ?_ r) (fun c r => by rw [upd_ne (nown c b r)]; exact r) fun c xs r => by rw [upd_ne (ntup c xs r)]; exact r
      rcases hc with rfl | hc
      · exact hbe
      · rintro rfl
        rcases he with z | z
        · exact nown c b hc z
        · rw [hc] at z; cases z; exact hb rfl
end
structure Un (fs ex : List Addr) (H H' : Hp) (h h' : Heap) : Prop where
  keep : ∀ b o, h.get? b = some o → H b = none → b ∉ fs → b ∉ ex → h'.get? b = some o
  slot : ∀ b o, h.get? b = some o → H b = none → b ∈ fs → b ∉ ex → ∃ sl, h'.get? b = some { o with slots := sl }
  free : ∀ b o, h.get? b = some o → H b = none → b ∉ ex → H' b = none
  there : ∀ b o, h.get? b = some o → b ∉ ex → ∃ o', h'.get? b = some o'
  tups : ∀ b xs, H b = some (.tup xs) → H' b = some (.tup xs)
  frzs : ∀ b o u, H b = some (.frz o u) → H' b = some (.frz o u)
  tbls : ∀ b ps, H b = some (.tbl ps) → ∃ more, H' b = some (.tbl (ps ++ more))
section
variable {fs fs' ex ex' : List Addr} {H H1 H2 : Hp} {h h1 h2 h' : Heap} {a x e : Addr} {o : HO}
theorem Un.any (u : Un fs ex H H1 h h1) {b : Addr} {ob : Obj} (q : h.get? b = some ob) (n : H b = none) (hx : b ∉ ex) : ∃ sl, h1.get? b = some { ob with slots := sl } := by
  by_cases hb : b ∈ fs
  · exact u.slot b ob q n hb hx
  · exact ⟨ob.slots, u.keep b ob q n hb hx⟩
theorem Un.kept (k : ∀ b u, h.get? b = some u → h'.get? b = some u) : Un fs ex H H h h' :=
  ⟨fun b ob q _ _ _ => k b ob q, fun b ob q _ _ _ => ⟨ob.slots, k b ob q⟩, fun _ _ _ n _ => n, fun b ob q _ => ⟨ob, k b ob q⟩, fun _ _ q => q, fun _ _ _ q => q, fun _ ps q => ⟨#[], by rw [q]; simp⟩⟩
theorem Un.refl : Un fs ex H H h h := Un.kept fun _ _ q => q
theorem Un.laid (k : ∀ b u, h.get? b = some u → h'.get? b = some u) (hp : h.objs.size ≤ a) (hn : H a = none) : Un fs ex H (upd H a o) h h' where
  keep := fun b u q _ _ _ => k b u q
  slot := fun b u q _ _ _ => ⟨u.slots, k b u q⟩
  free := fun b u q n _ => by rw [upd_ne (Nat.ne_of_lt (Nat.lt_of_lt_of_le (Heap.lt_size q) hp))]; exact n
  there := fun b u q _ => ⟨u, k b u q⟩
  tups := fun b xs q => by rw [upd_ne (ne_of_none q hn)]; exact q
  frzs := fun b u xs q => by rw [upd_ne (ne_of_none q hn)]; exact q
  tbls := fun b ps q => ⟨#[], by rw [upd_ne (ne_of_none q hn), q]; simp⟩
theorem Un.write (mu : Mut (H x)) (he : e = x ∨ H e = some (.own x)) (k : ∀ b u, b ≠ e → h.get? b = some u → h'.get? b = some u) (heo : ∃ u, h'.get? e = some u) : Un fs ex H (upd H x o) h h' := by
  have hx : ∀ b, H b = none → b ≠ x := fun b n z => by subst z; rw [n] at mu; exact mu
  have hb : ∀ b, H b = none → b ≠ e := fun b n z => by
    subst z
    rcases he with r | r
    · exact hx b n r
    · rw [n] at r; cases r
  have hm : ∀ b u, H b = some u → ¬ Mut (some u) → b ≠ x := fun b u q nm z => by subst z; rw [q] at mu; exact nm mu
  refine ⟨fun b u q n _ _ => k b u (hb b n) q, fun b u q n _ _ => ⟨u.slots, k b u (hb b n) q⟩, fun b u q n _ => by rw [upd_ne (hx b n)]; exact n, fun b u q _ => ?_,
    fun b xs q => by rw [upd_ne (hm b _ q fun z => z)]; exact q, fun b u xs q => by rw [upd_ne (hm b _ q fun z => z)]; exact q, fun b ps q => ⟨#[], by rw [upd_ne (hm b _ q fun z => z), q]; simp⟩⟩
  by_cases hbe : b = e
  · subst hbe; exact heo
  · exact ⟨u, k b u hbe q⟩
end
noncomputable def trk (h : Heap) (H : Hp) : List Addr := (List.range h.objs.size).filter fun a => (H a).isSome
noncomputable def hidT (h : Heap) (H : Hp) : Heap := PySem.W.hideAll h (trk h H)
theorem hidT_size (h : Heap) (H : Hp) : (hidT h H).objs.size = h.objs.size := PySem.W.hideAll_size _ _
theorem hidT_get {h : Heap} {H : Hp} {b : Addr} {o : Obj} (e : h.get? b = some o) (n : H b = none) : (hidT h H).get? b = some o :=
  PySem.W.hideAll_get _ e fun hm => by
    have q : (H b).isSome = true := (List.mem_filter.mp hm).2
    rw [n] at q; simp at q
theorem of_hidT {h : Heap} {H : Hp} {b : Addr} {o : Obj} (e : (hidT h H).get? b = some o) : h.get? b = some o ∧ H b = none := by
  have e' : h.get? b = some o := PySem.W.of_hideAll (trk h H) e
  refine ⟨e', ?_⟩
  cases q : H b with
  | none => rfl
  | some x =>
    have hm : b ∈ trk h H := List.mem_filter.mpr ⟨List.mem_range.mpr (Heap.lt_size e'), by simp [q]⟩
    have z : (hidT h H).get? b = none := PySem.W.hideAll_none (trk h H) hm
    rw [z] at e; cases e
noncomputable def allNews (g h : Heap) (L : Addr) : List (Addr × Obj) := (List.range h.objs.size).filterMap fun a => if a = L ∨ (g.get? a).isSome = true then none else (h.get? a).map fun o => (a, o)
theorem mem_allNews {g h : Heap} {L a : Addr} {o : Obj} (h1 : a ≠ L) (h2 : g.get? a = none) (h3 : h.get? a = some o) : (a, o) ∈ allNews g h L :=
  List.mem_filterMap.mpr ⟨a, List.mem_range.mpr (Heap.lt_size h3), by simp [h1, h2, h3]⟩
theorem of_mem_allNews {g h : Heap} {L : Addr} {p : Addr × Obj} (hp : p ∈ allNews g h L) : p.1 ≠ L ∧ g.get? p.1 = none ∧ h.get? p.1 = some p.2 := by
  obtain ⟨b, _, e⟩ := List.mem_filterMap.mp hp
  split at e
  · cases e
  · rename_i hn
    cases q : h.get? b with
    | none => rw [q] at e; simp at e
    | some u =>
      rw [q] at e
      simp only [Option.map_some, Option.some.injEq] at e
      subst e
      refine ⟨fun z => hn (.inl z), ?_, q⟩
      show g.get? b = none
      cases r : g.get? b with
      | none => rfl
      | some v => exact (hn (.inr (by simp [r]))).elim
noncomputable def rest (g h : Heap) (L d : Addr) : List (Addr × Obj) := (allNews g h L).filter fun p => decide (p.1 ≠ d)
theorem news_all {g h : Heap} {L : Addr} : News g L h (allNews g h L) := fun p hp => let ⟨a, b, c⟩ := of_mem_allNews hp; ⟨c, a, b⟩
end L2
namespace L2
open PySem PySem.Spec PyProof.Rows
structure Mod (K : PySem.W.Frag) (mg : Str → Option Value) (base : Heap) : Prop where
  kin : K.In base
  glob : base.Ns mainGlobals mg
  blt : ∃ mb, base.Ns builtinsNs mb ∧ ∀ x : Str, x ≠ "__name__" → mb x = bootBuiltins x
  nolimit : base.NoLimit
structure Cx where
  prog : Program
  w : World
  K : PySem.W.Frag
  mg : Str → Option Value
  base : Heap
  A : Around
  N : List Str
  s₀ : Shared
  H₀ : Hp
  env : Env
  outer : List Env
  stack : List Env
  ex : List Addr
  fn : Str → Bool
  calm : Bool
  pn : List (Addr × Obj)
  xe : Value → Shared → Prop
noncomputable def frs (l : List Env) : List Addr := l.filterMap (·.frame)
noncomputable abbrev Cx.fs (X : Cx) : List Addr := frs X.outer
noncomputable def Vis (sc : Scope) (x : Str) : Prop := sc.names.lookup x = some .local ∨ sc.names.lookup x = some .cell ∨ sc.names.lookup x = some .free
noncomputable def Loc (sc : Scope) (x : Str) : Prop := sc.names.lookup x = some .local ∨ sc.names.lookup x = some .cell
noncomputable def Look (env : Env) (h : Heap) (m : Str → Option Value) (x : Str) (u : Value) : Prop :=
  (env.kindOf x = some .local ∧ m x = some u) ∨ ((env.kindOf x = some .cell ∨ env.kindOf x = some .free) ∧ ∃ c, env.cells.lookup x = some c ∧ h.IsCell c (some u))
structure Cx.Ok (X : Cx) : Prop where
  mod : Mod X.K X.mg X.base
  kind : X.env.scope.kind = .function
  glob : X.env.globals = mainGlobals
  blt : X.env.builtins = builtinsNs
  above : X.s₀.heap.objs.size ≤ X.env.locals
  inj : ∀ x y c, X.env.cells.lookup x = some c → X.env.cells.lookup y = some c → x = y
  has : ∀ x, (X.env.kindOf x = some .cell ∨ X.env.kindOf x = some .free) → ∃ c, X.env.cells.lookup x = some c
  cab : ∀ x c, X.fn x = true → X.env.cells.lookup x = some c → X.s₀.heap.objs.size ≤ c
  hd : X.calm = true → X.A.handled = none
  frames : X.A.frames = some X.stack
  stk : X.stack = X.outer ∨ (X.stack = X.env :: X.outer ∧ X.env.frame = some X.env.locals)
  exf : ∀ b ∈ X.ex, b ≠ X.env.locals ∧ ∀ x c, X.env.cells.lookup x = some c → c ≠ b
  bs : ∀ b o, X.base.get? b = some o → X.s₀.heap.get? b = some o ∧ X.H₀ b = none
  bsz : X.base.objs.size ≤ X.s₀.heap.objs.size
  noex : ∀ b o, X.base.get? b = some o → b ∉ X.ex
  exfs : ∀ b ∈ X.ex, b ∉ X.fs
  funs : X.s₀.heap.FunFrames X.base X.outer
  frf : ∀ b ∈ X.fs, X.H₀ b = none
structure Inv (X : Cx) (pins : List (Addr × Obj)) (σ : List (Option V)) (H : Hp) (s : Shared) : Prop where
  ok : X.Ok
  os : s.os = X.s₀.os
  bare : AllBare s.gens
  base : Un X.fs X.ex X.H₀ H X.s₀.heap s.heap
  loc : ∃ m, s.heap.Ns X.env.locals m ∧ ∀ (i : Nat) (x : Str) (v : V), X.N[i]? = some x → σ[i]? = some (some v) → Vis X.env.scope x → ∃ u, RelV v u ∧ Look X.env s.heap m x u
  cell : ∀ x c, X.env.cells.lookup x = some c → ∃ v, s.heap.IsCell c v
  free : H X.env.locals = none
  freeC : ∀ x c, X.env.cells.lookup x = some c → H c = none
  pin : ∀ p ∈ X.pn ++ pins, s.heap.get? p.1 = some p.2 ∧ H p.1 = none ∧ p.1 ≠ X.env.locals ∧ p.1 ∉ X.fs ∧ ∀ v, p.2.data ≠ .cell v
  hok : HOk X.prog X.w H s.heap
  len : σ.length = X.N.length
section
variable {X : Cx} {pins : List (Addr × Obj)} {σ : List (Option V)} {H H' : Hp} {s : Shared} {h' : Heap}
theorem Cx.Ok.nofr (ok : X.Ok) {b : Addr} {o : Obj} (e : X.base.get? b = some o) : b ∉ X.fs := fun hb => by
  have := (ok.funs.mem hb).1
  rw [e] at this; cases this
theorem Inv.bs (I : Inv X pins σ H s) : ∀ b o, X.base.get? b = some o → s.heap.get? b = some o ∧ H b = none := fun b o e =>
  ⟨I.base.keep b o (I.ok.bs b o e).1 (I.ok.bs b o e).2 (I.ok.nofr e) (I.ok.noex b o e), I.base.free b o (I.ok.bs b o e).1 (I.ok.bs b o e).2 (I.ok.noex b o e)⟩
theorem Inv.bk (I : Inv X pins σ H s) : ∀ b o, X.base.get? b = some o → s.heap.get? b = some o := fun b o e => (I.bs b o e).1
theorem Inv.mod (I : Inv X pins σ H s) : Mod X.K X.mg X.base := I.ok.mod
theorem Inv.kIn (I : Inv X pins σ H s) : X.K.In s.heap := I.ok.mod.kin.keeps I.bk
theorem Inv.fr (I : Inv X pins σ H s) : ∃ m, Fr X.base X.env.locals s.heap m :=
  let ⟨m, hn, _⟩ := I.loc
  ⟨m, hn, I.bk, Nat.le_trans I.ok.bsz I.ok.above⟩
theorem Inv.lt (I : Inv X pins σ H s) : X.env.locals < s.heap.objs.size := let ⟨_, hn, _⟩ := I.loc; hn.lt
theorem Inv.sz (I : Inv X pins σ H s) : X.s₀.heap.objs.size ≤ s.heap.objs.size := Nat.le_trans I.ok.above (Nat.le_of_lt I.lt)
theorem Inv.nofs (I : Inv X pins σ H s) {a : Addr} (h : s.heap.objs.size ≤ a) : a ∉ X.fs := fun hb => by
  obtain ⟨_, o, ho, _⟩ := I.ok.funs.mem hb
  exact absurd (Nat.lt_of_lt_of_le (Heap.lt_size ho) (Nat.le_trans I.sz h)) (Nat.lt_irrefl _)
theorem Inv.cne (I : Inv X pins σ H s) : ∀ x c, X.env.cells.lookup x = some c → c ≠ X.env.locals := fun x c e z => by
  obtain ⟨v, o, ho, hd⟩ := I.cell x c e
  obtain ⟨m, ⟨o', es, ep, ho', hd', _⟩, _⟩ := I.loc
  rw [z, ho'] at ho; cases ho; rw [hd'] at hd; cases hd
theorem Inv.funs (I : Inv X pins σ H s) : s.heap.FunFrames X.base X.outer := by
  have all : ∀ (l : List Env), (∀ b ∈ frs l, b ∈ X.fs) → X.s₀.heap.FunFrames X.base l → s.heap.FunFrames X.base l := by
    intro l
    induction l with
    | nil => intro _ _; trivial
    | cons env r ih =>
      intro hs hl
      obtain ⟨hk, ⟨L, o, hf, hn, ho, hd⟩, hr⟩ := hl
      have hL : L ∈ X.fs := hs L (by unfold frs; rw [List.filterMap_cons, hf]; exact List.mem_cons_self)
      obtain ⟨sl, e⟩ := I.base.slot L o ho (I.ok.frf L hL) hL fun z => I.ok.exfs L z hL
      exact ⟨hk, ⟨L, _, hf, hn, e, hd⟩, ih (fun b hb => hs b (by unfold frs; rw [List.filterMap_cons, hf]; exact List.mem_cons_of_mem _ hb)) hr⟩
  exact all X.outer (fun _ hb => hb) I.ok.funs
theorem Inv.stack (I : Inv X pins σ H s) : s.heap.FunFrames X.base X.stack := by
  rcases I.ok.stk with e | ⟨e, hf⟩
  · rw [e]; exact I.funs
  · rw [e]
    obtain ⟨m, hn, _⟩ := I.loc
    refine .cons (by rw [I.ok.kind]; decide) hf hn ?_ I.funs
    exact Heap.get?_none_of_le (Nat.le_trans I.ok.bsz I.ok.above)
theorem Inv.stkSub (I : Inv X pins σ H s) : ∀ b ∈ frs X.stack, b ∈ X.env.locals :: X.fs := fun b hb => by
  rcases I.ok.stk with e | ⟨e, hf⟩
  · rw [e] at hb; exact List.mem_cons_of_mem _ hb
  · rw [e] at hb
    unfold frs at hb
    rw [List.filterMap_cons, hf] at hb
    exact hb
theorem Inv.stkFree (I : Inv X pins σ H s) : ∀ b ∈ frs X.stack, H b = none := fun b hb => by
  rcases List.mem_cons.mp (I.stkSub b hb) with e | hb
  · rw [e]; exact I.free
  · obtain ⟨_, o, ho, _⟩ := I.ok.funs.mem hb
    exact I.base.free b o ho (I.ok.frf b hb) fun z => I.ok.exfs b z hb
theorem Inv.step {g' : Array GenState} {t' : Nat} {d' : Drawn} {ch : List Addr} (I : Inv X pins σ H s)
    (hch : ∀ b ∈ ch, (b ∈ X.ex ∨ X.s₀.heap.objs.size ≤ b) ∧ b ≠ X.env.locals ∧ (∀ x c, X.env.cells.lookup x = some c → c ≠ b) ∧ ∀ p ∈ X.pn ++ pins, p.1 ≠ b)
    (keep : ∀ b o, b ≠ X.env.locals → b ∉ X.fs → b ∉ ch → s.heap.get? b = some o → H b = none → h'.get? b = some o)
    (slot : ∀ b o, b ≠ X.env.locals → b ∈ X.fs → b ∉ ch → s.heap.get? b = some o → H b = none → ∃ sl, h'.get? b = some { o with slots := sl }) (free : ∀ b o, b ∉ ch → s.heap.get? b = some o → H b = none → H' b = none)
    (there : ∀ b o, b ∉ ch → s.heap.get? b = some o → ∃ o', h'.get? b = some o')
    (tups : ∀ b xs, H b = some (.tup xs) → H' b = some (.tup xs)) (frzs : ∀ b o u, H b = some (.frz o u) → H' b = some (.frz o u)) (tbls : ∀ b ps, H b = some (.tbl ps) → ∃ more, H' b = some (.tbl (ps ++ more)))
    (ns : ∀ m, s.heap.Ns X.env.locals m → h'.Ns X.env.locals m) (hok : HOk X.prog X.w H' h') (hg : AllBare g') :
    Inv X pins σ H' { s with heap := h', gens := g', drawn := d', toks := t' } := by
  have neL : ∀ b o, X.s₀.heap.get? b = some o → b ≠ X.env.locals := fun b o e => Nat.ne_of_lt (Nat.lt_of_lt_of_le (Heap.lt_size e) I.ok.above)
  have neC : ∀ b o, X.s₀.heap.get? b = some o → b ∉ X.ex → b ∉ ch := fun b o e hx hb => by
    rcases (hch b hb).1 with z | z
    · exact hx z
    · exact absurd (Nat.lt_of_lt_of_le (Heap.lt_size e) z) (Nat.lt_irrefl _)
  have cellK : ∀ x c, X.env.cells.lookup x = some c → ∀ v, s.heap.IsCell c v → h'.IsCell c v := fun x c e v ⟨o, ho, hd⟩ => by
    have nch : c ∉ ch := fun z => (hch c z).2.2.1 x c e rfl
    by_cases hc : c ∈ X.fs
    · obtain ⟨sl, q⟩ := slot c o (I.cne x c e) hc nch ho (I.freeC x c e)
      exact ⟨_, q, hd⟩
    · exact ⟨o, keep c o (I.cne x c e) hc nch ho (I.freeC x c e), hd⟩
  refine ⟨I.ok, I.os, hg, ⟨fun b o e n hb hx => ?_, fun b o e n hb hx => ?_, fun b o e n hx => ?_, fun b o e hx => ?_, fun b xs e => tups b xs (I.base.tups b xs e), fun b o xs e => frzs b o xs (I.base.frzs b o xs e), fun b ps e => ?_⟩, ?_, fun x c e => ?_, ?_, fun x c e => ?_, fun p hp => ?_, hok, I.len⟩
  · exact keep b o (neL b o e) hb (neC b o e hx) (I.base.keep b o e n hb hx) (I.base.free b o e n hx)
  · obtain ⟨sl, e1⟩ := I.base.slot b o e n hb hx
    obtain ⟨sl', e2⟩ := slot b _ (neL b o e) hb (neC b o e hx) e1 (I.base.free b o e n hx)
    exact ⟨sl', e2⟩
  · obtain ⟨o', e1⟩ := I.base.there b o e hx
    exact free b o' (neC b o e hx) e1 (I.base.free b o e n hx)
  · obtain ⟨o', e1⟩ := I.base.there b o e hx
    exact there b o' (neC b o e hx) e1
  · obtain ⟨m1, e1⟩ := I.base.tbls b ps e
    obtain ⟨m2, e2⟩ := tbls b _ e1
    exact ⟨m1 ++ m2, by rw [e2, Array.append_assoc]⟩
  · obtain ⟨m, hn, hl⟩ := I.loc
    refine ⟨m, ns m hn, fun i x v e1 e2 e3 => ?_⟩
    obtain ⟨u, r, l⟩ := hl i x v e1 e2 e3
    refine ⟨u, r, ?_⟩
    rcases l with l | ⟨k, c, e, z⟩
    · exact .inl l
    · exact .inr ⟨k, c, e, cellK x c e _ z⟩
  · obtain ⟨v, z⟩ := I.cell x c e
    exact ⟨v, cellK x c e v z⟩
  · obtain ⟨m, ⟨o, _, _, ho, _⟩, _⟩ := I.loc
    exact free _ o (fun z => (hch _ z).2.1 rfl) ho I.free
  · obtain ⟨v, o, ho, hd⟩ := I.cell x c e
    exact free c o (fun z => (hch c z).2.2.1 x c e rfl) ho (I.freeC x c e)
  · obtain ⟨e, n, ne, nf, d⟩ := I.pin p hp
    have nch : p.1 ∉ ch := fun z => (hch p.1 z).2.2.2 p hp rfl
    exact ⟨keep p.1 p.2 ne nf nch e n, free p.1 p.2 nch e n, ne, nf, d⟩
theorem Inv.un {t' : Nat} (I : Inv X pins σ H s) (u : Un X.fs [] H H' s.heap h') (hok : HOk X.prog X.w H' h') : Inv X pins σ H' { s with heap := h', toks := t' } := by
  obtain ⟨m, ⟨o, es, ep, ho, r⟩, _⟩ := id I.loc
  obtain ⟨sl, hL⟩ := u.any ho I.free (by simp)
  exact I.step (g' := s.gens) (d' := s.drawn) (ch := []) (fun _ z => nomatch z) (fun b o _ hb _ e n => u.keep b o e n hb (by simp)) (fun b o _ hb _ e n => u.slot b o e n hb (by simp)) (fun b o _ e n => u.free b o e n (by simp)) (fun b o _ e => u.there b o e (by simp)) u.tups u.frzs u.tbls (fun m' hm => by
    obtain ⟨o', es', ep', ho', r'⟩ := hm
    rw [ho] at ho'; cases ho'
    exact ⟨_, es', ep', hL, r'⟩) hok I.bare
theorem Inv.call {g' : Array GenState} {t' : Nat} {d' : Drawn} {ch : List Addr} (I : Inv X pins σ H s) (u : Un (frs X.stack) ch H H' s.heap h') (hok : HOk X.prog X.w H' h') (hg : AllBare g')
    (hch : ∀ b ∈ ch, (b ∈ X.ex ∨ X.s₀.heap.objs.size ≤ b) ∧ b ≠ X.env.locals ∧ (∀ x c, X.env.cells.lookup x = some c → c ≠ b) ∧ ∀ p ∈ X.pn ++ pins, p.1 ≠ b) :
    Inv X pins σ H' { s with heap := h', gens := g', drawn := d', toks := t' } := by
  obtain ⟨m, ⟨o, es, ep, ho, r⟩, _⟩ := id I.loc
  obtain ⟨sl, hL⟩ := u.any ho I.free fun z => (hch _ z).2.1 rfl
  exact I.step (ch := ch) hch (fun b o hL hb hc e n => u.keep b o e n (fun z => (List.mem_cons.mp (I.stkSub b z)).elim hL hb) hc) (fun b o _ _ hc e n => u.any e n hc) (fun b o hc e n => u.free b o e n hc) (fun b o hc e => u.there b o e hc) u.tups u.frzs u.tbls (fun m' hm => by
    obtain ⟨o', es', ep', ho', r'⟩ := hm
    rw [ho] at ho'; cases ho'
    exact ⟨_, es', ep', hL, r'⟩) hok hg
theorem Inv.turned {t' : Nat} {it : Addr} (I : Inv X pins σ H s) (k : ∀ b o, b ≠ it → s.heap.get? b = some o → h'.get? b = some o) (hn : H it = none) (hL : it ≠ X.env.locals)
    (h1 : it ∈ X.ex ∨ X.s₀.heap.objs.size ≤ it) (h2 : ∀ x c, X.env.cells.lookup x = some c → c ≠ it) (h3 : ∀ p ∈ X.pn ++ pins, p.1 ≠ it) : Inv X pins σ H { s with heap := h', toks := t' } := by
  have nit : ∀ b u, H b = some u → b ≠ it := fun b u e z => by rw [z, hn] at e; cases e
  refine I.step (g' := s.gens) (d' := s.drawn) (ch := [it]) (fun b hb => ?_) (fun b o _ _ hc e _ => k b o (fun z => hc (by simp [z])) e) (fun b o _ _ hc e _ => ⟨o.slots, k b o (fun z => hc (by simp [z])) e⟩) (fun _ _ _ _ n => n)
    (fun b o hc e => ⟨o, k b o (fun z => hc (by simp [z])) e⟩) (fun _ _ e => e) (fun _ _ _ e => e) (fun b ps e => ⟨#[], by rw [e]; simp⟩) (fun m hm => ?_) (fun b u e => ?_) I.bare
  · have e : b = it := by simpa using hb
    subst e
    exact ⟨h1, hL, h2, h3⟩
  · obtain ⟨o, es, ep, ho, r⟩ := hm
    exact ⟨o, es, ep, k _ o (Ne.symm hL) ho, r⟩
  · refine (I.hok b u e).stay (fun c v hc q => k c v ?_ q) (fun _ q => q) fun _ _ q => q
    rcases hc with z | z
    · rw [z]; exact nit b u e
    · exact nit c _ z
theorem Inv.tok (I : Inv X pins σ H s) (t : Nat) : Inv X pins σ H { s with toks := t } := I.un (h' := s.heap) (t' := t) Un.refl I.hok
theorem Inv.kept {t' : Nat} (I : Inv X pins σ H s) (k : ∀ b u, s.heap.get? b = some u → h'.get? b = some u) : Inv X pins σ H { s with heap := h', toks := t' } := I.un (Un.kept k) (I.hok.kept k)
theorem Inv.laid {a : Addr} {o : HO} {t' : Nat} (I : Inv X pins σ H s) (k : ∀ b u, s.heap.get? b = some u → h'.get? b = some u) (hp : s.heap.objs.size ≤ a) (new : ObjOk X.prog X.w (upd H a o) h' a o) :
    Inv X pins σ (upd H a o) { s with heap := h', toks := t' } := I.un (Un.laid k hp (I.hok.fresh hp)) (I.hok.laid k hp new)
theorem Inv.write {x e : Addr} {o : HO} {t' : Nat} (I : Inv X pins σ H s) (mu : Mut (H x)) (he : e = x ∨ H e = some (.own x)) (k : ∀ b u, b ≠ e → s.heap.get? b = some u → h'.get? b = some u) (heo : ∃ u, h'.get? e = some u)
    (new : ObjOk X.prog X.w (upd H x o) h' x o) : Inv X pins σ (upd H x o) { s with heap := h', toks := t' } := I.un (Un.write mu he k heo) (I.hok.write mu he k heo new)
theorem Inv.pins_of {pins' : List (Addr × Obj)} (I : Inv X pins σ H s) (h : ∀ p ∈ pins', s.heap.get? p.1 = some p.2 ∧ H p.1 = none ∧ p.1 ≠ X.env.locals ∧ p.1 ∉ X.fs ∧ ∀ v, p.2.data ≠ .cell v) : Inv X pins' σ H s :=
  ⟨I.ok, I.os, I.bare, I.base, I.loc, I.cell, I.free, I.freeC, fun p hp => (List.mem_append.mp hp).elim (fun z => I.pin p (List.mem_append_left _ z)) (h p), I.hok, I.len⟩
theorem nodup_ix {N : List Str} (hN : N.Nodup) {i j : Nat} {x : Str} (a : N[i]? = some x) (b : N[j]? = some x) : i = j := by
  obtain ⟨h1, e1⟩ := List.getElem?_eq_some_iff.mp a
  obtain ⟨h2, e2⟩ := List.getElem?_eq_some_iff.mp b
  exact (List.getElem_inj hN).mp (e1.trans e2.symm)
theorem store_ok2 {M : Model} {A : Around} {E : Value → Shared → Prop} {i : Nat} {x : Str} {v : V} {u : Value} {Q : Unit → Shared → Prop} (I : Inv X pins σ H s) (hN : X.N.Nodup) (hi : X.N[i]? = some x) (hx : Loc X.env.scope x) (r : RelV v u)
    (h : ∀ s', Inv X pins (σ.set i (some v)) H s' → (∃ a, Heap.SameBut a s.heap s'.heap ∧ (a = X.env.locals ∨ X.env.cells.lookup x = some a)) → Q () s') (hf : X.fn x = true ∨ X.env.scope.names.lookup x = some .local := by first | exact .inl rfl | exact .inr rfl | assumption) : wpAny M A (storeName X.env x u) Q E s := by
  obtain ⟨m, hn, hl⟩ := id I.loc
  have hcls : (X.env.scope.kind == .class || (X.env.scope.kind == .module && X.env.locals != X.env.globals)) = false := by rw [I.ok.kind]; rfl
  have hiσ : i < σ.length := by rw [I.len]; exact (List.getElem?_eq_some_iff.mp hi).1
  have cne := I.cne
  have tracked : ∀ {a : Addr} {h' : Heap}, (∃ o, s.heap.get? a = some o ∧ H a = none) → Heap.SameBut a s.heap h' → HOk X.prog X.w H h' := fun {a h'} ha hs b ob e => by
    obtain ⟨_, _, hfree⟩ := ha
    refine (I.hok b ob e).stay (fun c w' hc q => (hs.2 c ?_).trans q) (fun _ q => q) fun _ _ q => q
    rintro rfl
    rcases hc with rfl | hc
    · rw [hfree] at e; cases e
    · rw [hfree] at hc; cases hc
  rcases hx with hk | hk
  · refine wpAny_storeName_local hk hn (fun h' hn' hs => ?_) hcls
    obtain ⟨oL, _, _, hoL, _⟩ := id hn
    refine h _ ⟨I.ok, I.os, I.bare, ⟨fun b o e n hb hx => ?_, fun b o e n hb hx => ?_, I.base.free, fun b o e hx => ?_, I.base.tups, I.base.frzs, I.base.tbls⟩, ⟨_, hn', fun j y v' e1 e2 e3 => ?_⟩, fun y c e => ?_, I.free, I.freeC, fun p hp => ?_, tracked ⟨oL, hoL, I.free⟩ hs, by simpa using I.len⟩ ⟨_, hs, .inl rfl⟩
    · exact (hs.2 b (Nat.ne_of_lt (Nat.lt_of_lt_of_le (Heap.lt_size e) I.ok.above))).trans (I.base.keep b o e n hb hx)
    · obtain ⟨sl, e1⟩ := I.base.slot b o e n hb hx
      exact ⟨sl, (hs.2 b (Nat.ne_of_lt (Nat.lt_of_lt_of_le (Heap.lt_size e) I.ok.above))).trans e1⟩
    · obtain ⟨o', e1⟩ := I.base.there b o e hx
      exact ⟨o', (hs.2 b (Nat.ne_of_lt (Nat.lt_of_lt_of_le (Heap.lt_size e) I.ok.above))).trans e1⟩
    · by_cases hj : j = i
      · subst hj
        rw [hi] at e1; cases e1
        rw [List.getElem?_set_self hiσ] at e2
        cases e2
        exact ⟨u, r, .inl ⟨hk, by simp⟩⟩
      · rw [List.getElem?_set_ne (Ne.symm hj)] at e2
        obtain ⟨u', r', q⟩ := hl j y v' e1 e2 e3
        refine ⟨u', r', ?_⟩
        rcases q with ⟨k, e⟩ | ⟨k, c, e, z⟩
        · refine .inl ⟨k, ?_⟩
          have : y ≠ x := fun e => hj (nodup_ix hN e1 (e ▸ hi))
          simp [this, e]
        · exact .inr ⟨k, c, e, z.sameBut hs (cne y c e)⟩
    · obtain ⟨w', z⟩ := I.cell y c e
      exact ⟨w', z.sameBut hs (cne y c e)⟩
    · obtain ⟨e, n, ne, nf, d⟩ := I.pin p hp
      exact ⟨(hs.2 p.1 ne).trans e, n, ne, nf, d⟩
  · have hfn : X.fn x = true := by
      rcases hf with z | z
      · exact z
      · rw [z] at hk; cases hk
    obtain ⟨c, hc⟩ := I.ok.has x (.inl hk)
    obtain ⟨w', z⟩ := I.cell x c hc
    refine wpAny_storeName_cell I.ok.kind hk hc z (fun h' hc' hs => ?_)
    obtain ⟨oc, hoc, hocd⟩ := id z
    refine h { s with heap := h' } ⟨I.ok, I.os, I.bare, ⟨fun b o e n hb hx => ?_, fun b o e n hb hx => ?_, I.base.free, fun b o e hx => ?_, I.base.tups, I.base.frzs, I.base.tbls⟩, ⟨m, hn.sameBut hs (Ne.symm (cne x c hc)), fun j y v' e1 e2 e3 => ?_⟩, fun y c' e => ?_, I.free, I.freeC, fun p hp => ?_, tracked ⟨oc, hoc, I.freeC x c hc⟩ hs, by simpa using I.len⟩ ⟨c, hs, .inr hc⟩
    · exact (hs.2 b (Nat.ne_of_lt (Nat.lt_of_lt_of_le (Heap.lt_size e) (I.ok.cab x c hfn hc)))).trans (I.base.keep b o e n hb hx)
    · obtain ⟨sl, e1⟩ := I.base.slot b o e n hb hx
      exact ⟨sl, (hs.2 b (Nat.ne_of_lt (Nat.lt_of_lt_of_le (Heap.lt_size e) (I.ok.cab x c hfn hc)))).trans e1⟩
    · obtain ⟨o', e1⟩ := I.base.there b o e hx
      exact ⟨o', (hs.2 b (Nat.ne_of_lt (Nat.lt_of_lt_of_le (Heap.lt_size e) (I.ok.cab x c hfn hc)))).trans e1⟩
    · by_cases hj : j = i
      · subst hj
        rw [hi] at e1; cases e1
        rw [List.getElem?_set_self hiσ] at e2
        cases e2
        exact ⟨u, r, .inr ⟨.inl hk, c, hc, hc'⟩⟩
      · rw [List.getElem?_set_ne (Ne.symm hj)] at e2
        obtain ⟨u', r', q⟩ := hl j y v' e1 e2 e3
        refine ⟨u', r', ?_⟩
        rcases q with q | ⟨k, c', e, z'⟩
        · exact .inl q
        · refine .inr ⟨k, c', e, z'.sameBut hs ?_⟩
          rintro rfl
          exact hj (nodup_ix hN e1 (I.ok.inj _ _ _ e hc ▸ hi))
    · by_cases hcc : c' = c
      · subst hcc; exact ⟨_, hc'⟩
      · obtain ⟨w2, z2⟩ := I.cell y c' e
        exact ⟨w2, z2.sameBut hs hcc⟩
    · obtain ⟨e, n, ne, nf, d⟩ := I.pin p hp
      refine ⟨(hs.2 p.1 ?_).trans e, n, ne, nf, d⟩
      intro q
      rw [q, hoc] at e
      have q' : oc = p.2 := Option.some.inj e
      exact d w' (by rw [← q']; exact hocd)
theorem store_ok {M : Model} {A : Around} {E : Value → Shared → Prop} {i : Nat} {x : Str} {v : V} {u : Value} {Q : Unit → Shared → Prop} (I : Inv X pins σ H s) (hN : X.N.Nodup) (hi : X.N[i]? = some x) (hx : Loc X.env.scope x) (r : RelV v u)
    (h : ∀ s', Inv X pins (σ.set i (some v)) H s' → Q () s') (hf : X.fn x = true ∨ X.env.scope.names.lookup x = some .local := by first | exact .inl rfl | exact .inr rfl | assumption) : wpAny M A (storeName X.env x u) Q E s :=
  store_ok2 I hN hi hx r (fun s' I' _ => h s' I') hf
theorem Inv.call' {s' : Shared} {ch : List Addr} (I : Inv X pins σ H s) (ho : s'.os = s.os) (u : Un (frs X.stack) ch H H' s.heap s'.heap) (hok : HOk X.prog X.w H' s'.heap) (hg : AllBare s'.gens)
    (hch : ∀ b ∈ ch, (b ∈ X.ex ∨ X.s₀.heap.objs.size ≤ b) ∧ b ≠ X.env.locals ∧ (∀ x c, X.env.cells.lookup x = some c → c ≠ b) ∧ ∀ p ∈ X.pn ++ pins, p.1 ≠ b) : Inv X pins σ H' s' := by
  obtain ⟨h', g', d', t', o'⟩ := s'
  have e : o' = s.os := ho
  subst e
  exact I.call (g' := g') (t' := t') (d' := d') u hok hg hch
end
noncomputable abbrev XK := Value → Option Addr → Hp → Prop
noncomputable abbrev St := List (Option V)
noncomputable abbrev VK := V → Hp → Prop
noncomputable abbrev TE := St → Hp → VK → Prop
noncomputable abbrev TT := St → Hp → (Bool → Hp → Prop) → Prop
noncomputable abbrev TA := St → Hp → (List V → Hp → Prop) → Prop
structure Ends where
  nx : St → Hp → Prop
  rt : VK
  bk : St → Hp → Prop := fun _ _ => False
  ct : St → Hp → Prop := fun _ _ => False
noncomputable abbrev TS := Ends → St → Hp → Prop
noncomputable def EP (X : Cx) (pins : List (Addr × Obj)) (σ : St) (Q : VK) (u : Value) (s' : Shared) : Prop := ∃ v H', Inv X pins σ H' s' ∧ RelV v u ∧ Q v H'
noncomputable def TP (X : Cx) (pins : List (Addr × Obj)) (σ : St) (Q : Bool → Hp → Prop) (b : Bool) (s' : Shared) : Prop := ∃ H', Inv X pins σ H' s' ∧ Q b H'
noncomputable def AP (X : Cx) (pins : List (Addr × Obj)) (σ : St) (Q : List V → Hp → Prop) (us : List Value) (s' : Shared) : Prop := ∃ vs H', Inv X pins σ H' s' ∧ Vals vs us ∧ Q vs H'
noncomputable def SP (X : Cx) (pins : List (Addr × Obj)) (D : Ends) (f : Flow) (s' : Shared) : Prop :=
  match f with
  | .next => ∃ σ' H', Inv X pins σ' H' s' ∧ D.nx σ' H'
  | .brk => ∃ σ' H', Inv X pins σ' H' s' ∧ D.bk σ' H'
  | .cont => ∃ σ' H', Inv X pins σ' H' s' ∧ D.ct σ' H'
  | .ret u => ∃ v σ' H', Inv X pins σ' H' s' ∧ RelV v u ∧ D.rt v H'
noncomputable def PE (X : Cx) (e : Expr) (t : TE) : Prop :=
  ∀ (pins : List (Addr × Obj)) (s : Shared) (σ : St) (H : Hp) (Q : VK), Inv X pins σ H s → t σ H Q → wpAny (model X.prog X.w) X.A (eval e X.env) (EP X pins σ Q) X.xe s
noncomputable def PT (X : Cx) (e : Expr) (t : TT) : Prop :=
  ∀ (pins : List (Addr × Obj)) (s : Shared) (σ : St) (H : Hp) (Q : Bool → Hp → Prop), Inv X pins σ H s → t σ H Q → wpAny (model X.prog X.w) X.A (isTrue e X.env (eval e X.env)) (TP X pins σ Q) X.xe s
noncomputable def PW (X : Cx) (e : Expr) (t : TT) : Prop :=
  ∀ (whole : Sem Value) (pins : List (Addr × Obj)) (s : Shared) (σ : St) (H : Hp) (Q : Bool → Hp → Prop), Inv X pins σ H s → t σ H Q → wpAny (model X.prog X.w) X.A (isTrue e X.env whole) (TP X pins σ Q) X.xe s
theorem PW.pt {X : Cx} {e : Expr} {t : TT} (h : PW X e t) : PT X e t := h _
noncomputable def PA (X : Cx) (es : List Expr) (t : TA) : Prop :=
  ∀ (pos : Pos) (pins : List (Addr × Obj)) (s : Shared) (σ : St) (H : Hp) (Q : List V → Hp → Prop), Inv X pins σ H s → t σ H Q → wpAny (model X.prog X.w) X.A (spliced (backTo pos (starEach es X.env))) (AP X pins σ Q) X.xe s
noncomputable def PS (X : Cx) (st : Stmt) (t : TS) : Prop :=
  ∀ (pins : List (Addr × Obj)) (s : Shared) (σ : St) (H : Hp) (D : Ends), Inv X pins σ H s → t D σ H → wpAny (model X.prog X.w) X.A (exec st X.env) (SP X pins D) X.xe s
noncomputable def PSs (X : Cx) (st : List Stmt) (t : TS) : Prop :=
  ∀ (pins : List (Addr × Obj)) (s : Shared) (σ : St) (H : Hp) (D : Ends), Inv X pins σ H s → t D σ H → wpAny (model X.prog X.w) X.A (execs st X.env) (SP X pins D) X.xe s
theorem thn {α : Type} {t : Sem α} {Q Q' : α → Shared → Prop} {M : Model} {A : Around} {E : Value → Shared → Prop} {s : Shared} (h : wpAny M A t Q E s) (hQ : ∀ a s, Q a s → Q' a s) : wpAny M A t Q' E s := wpAny_mono h hQ fun _ _ x => x
end L2
namespace L2
open PySem PySem.Spec PyProof.Rows
section
variable {X : Cx}
noncomputable def tVar (i : Nat) : TE := fun σ H Q => ∃ v, σ[i]? = some (some v) ∧ Q v H
noncomputable def tC (v : V) : TE := fun _ H Q => Q v H
theorem pe_var {i : Nat} {x : Str} {pos : Pos} (hN : X.N[i]? = some x) (hv : Vis X.env.scope x) (hd : (x == ("__debug__" : Str)) = false := by decide) (hcd : (x == ("__classdict__" : Str)) = false := by decide) : PE X (.Name x pos) (tVar i) := by
  intro pins s σ H Q I h
  obtain ⟨v, e, h⟩ := h
  obtain ⟨m, hn, hl⟩ := I.loc
  obtain ⟨u, r, l⟩ := hl i x v hN e hv
  have fin : EP X pins σ Q u s := ⟨v, H, I, r, h⟩
  rcases l with ⟨hk, hm⟩ | ⟨hk, c, hc, hcell⟩
  · exact wpAny_Name (wpAny_loadName_local I.ok.kind hk hn hm fin) hd
  · rcases hk with hk | hk
    · exact wpAny_Name (wpAny_loadName_cell I.ok.kind hk hc hcell fin) hd
    · exact wpAny_Name (wpAny_loadName_free I.ok.kind hk hc hcell fin hcd) hd
theorem pe_int {i j pos} : PE X (.Constant (.int i) j pos) (tC (.int i)) := fun _ _ _ H _ I h => wpAny_Constant_int ⟨.int i, H, I.tok _, ⟨_, rfl⟩, h⟩
theorem pe_bl {b j pos} : PE X (.Constant (.bool b) j pos) (tC (.bl b)) := fun _ _ _ H _ I h => Constant_bool ⟨.bl b, H, I, rfl, h⟩
theorem pe_non {j pos} : PE X (.Constant .none j pos) (tC .non) := fun _ _ _ H _ I h => Constant_none ⟨.non, H, I, rfl, h⟩
theorem pe_str {x j pos} : PE X (.Constant (.str x) j pos) (tC (.str x)) := fun _ _ _ H _ I h => Calls.Constant_str ⟨.str x, H, I.tok _, ⟨_, rfl⟩, h⟩
noncomputable def Gl (X : Cx) (x : Str) : Prop := X.env.kindOf x = some .globalImplicit
theorem ld_glob {E : Value → Shared → Prop} {pins : List (Addr × Obj)} {s : Shared} {σ : St} {H : Hp} {x : Str} {u : Value} {pos : Pos} {Q : Value → Shared → Prop} (I : Inv X pins σ H s) (hg : Gl X x) (hm : X.mg x = some u) (h : Q u s)
    (hd : (x == ("__debug__" : Str)) = false := by decide) : wpAny (model X.prog X.w) X.A (eval (.Name x pos) X.env) Q E s :=
  Calls.Name_function_global I.ok.kind hg (Calls.loadGlobal_global (by rw [I.ok.glob]; exact I.mod.glob.keeps I.bk) hm h) hd
theorem ld_blt {E : Value → Shared → Prop} {pins : List (Addr × Obj)} {s : Shared} {σ : St} {H : Hp} {x : Str} {u : Value} {pos : Pos} {Q : Value → Shared → Prop} (I : Inv X pins σ H s) (hg : Gl X x) (hm : X.mg x = none) (hv : bootBuiltins x = some u) (h : Q u s)
    (hn : x ≠ "__name__" := by decide) (hd : (x == ("__debug__" : Str)) = false := by decide) : wpAny (model X.prog X.w) X.A (eval (.Name x pos) X.env) Q E s := by
  obtain ⟨mb, h1, h2⟩ := I.mod.blt
  exact Calls.Name_function_global I.ok.kind hg (Calls.loadGlobal_builtin (by rw [I.ok.glob]; exact I.mod.glob.keeps I.bk) hm (by rw [I.ok.blt]; exact h1.keeps I.bk) ((h2 x hn).trans hv) h) hd
theorem pe_glob {x : Str} {v : V} {u : Value} {pos : Pos} (hg : Gl X x) (hm : X.mg x = some u) (r : RelV v u) (hd : (x == ("__debug__" : Str)) = false := by decide) : PE X (.Name x pos) (tC v) :=
  fun _ _ _ H _ I h => ld_glob I hg hm ⟨v, H, I, r, h⟩ hd
theorem pe_bltn {x : Str} {v : V} {u : Value} {pos : Pos} (hg : Gl X x) (hm : X.mg x = none) (hv : bootBuiltins x = some u) (r : RelV v u) (hn : x ≠ "__name__" := by decide) (hd : (x == ("__debug__" : Str)) = false := by decide) : PE X (.Name x pos) (tC v) :=
  fun _ _ _ H _ I h => ld_blt I hg hm hv ⟨v, H, I, r, h⟩ hn hd
variable {a b : Expr} {ta tb : TE} {pos : Pos}
noncomputable def PC (X : Cx) (op : CmpOp) (a b : Expr) (t : TE) : Prop :=
  ∀ (pins : List (Addr × Obj)) (s : Shared) (σ : St) (H : Hp) (Q : VK), Inv X pins σ H s → t σ H Q →
    wpAny (model X.prog X.w) X.A (eval a X.env) (fun v s₁ => wpAny (model X.prog X.w) X.A (eval b X.env) (fun u s₂ => wpAny (model X.prog X.w) X.A (compareOp op v u) (EP X pins σ Q) X.xe s₂) X.xe s₁) X.xe s
noncomputable def tB (t : TE) : TT := fun σ H Q => t σ H fun x H1 => ∃ c, x = .bl c ∧ Q c H1
theorem pt_cmp {op : CmpOp} {t : TE} (h : PC X op a b t) (h1 : behindInMarks op b = false := by first | exact nobehind _ (by decide) (by decide) | rfl) : PT X (.Compare a [op] [b] pos) (tB t) := by
  intro pins s σ H Q I hw
  refine wpAny_isTrue_Compare1 (thn (h pins s σ H _ I hw) fun v s1 h1 => thn h1 fun u s2 h2 => thn h2 fun c s3 ⟨x, H1, I1, r1, q1⟩ => ?_) h1
  obtain ⟨d, rfl, q⟩ := q1
  cases r1
  exact wpAny_truthy_bool ⟨H1, I1, q⟩
theorem pt_val {e : Expr} {t : TE} (h : PE X e t) (he : ∀ whole, isTrue e X.env whole = (do let v ← whole; standAt e.pos; holding [v] (truthy v)) := by intro _; rfl) : PT X e (tB t) := by
  intro pins s σ H Q I hw
  refine isTrue_plain (thn (h pins s σ H _ I hw) fun v s1 ⟨x, H1, I1, r1, q1⟩ => ?_) (he _)
  obtain ⟨d, rfl, q⟩ := q1
  cases r1
  exact wpAny_truthy_bool ⟨H1, I1, q⟩
variable {tA tB' : TT} {rest : List Expr}
noncomputable def tOr (t u : TT) : TT := fun σ H Q => t σ H fun c H1 => if c = true then Q true H1 else u σ H1 Q
noncomputable def tNot (t : TT) : TT := fun σ H Q => t σ H fun c H1 => Q (!c) H1
theorem pw_or1 (ha : PT X a tA) : PW X (.BoolOp .Or [a] pos) tA := by
  intro wh pins s σ H Q I h
  refine isTrue_or (thn (ha pins s σ H Q I h) fun c s1 e => ?_)
  cases c with
  | false => exact isTrue_or_nil e
  | true => exact e
theorem pw_or (ha : PT X a tA) (hb : PW X (.BoolOp .Or (b :: rest) pos) tB') : PW X (.BoolOp .Or (a :: b :: rest) pos) (tOr tA tB') := by
  intro wh pins s σ H Q I h
  refine isTrue_or (thn (ha pins s σ H _ I h) fun c s1 ⟨H1, I1, q1⟩ => ?_)
  cases c with
  | true => exact ⟨H1, I1, q1⟩
  | false => exact hb wh pins s1 σ H1 Q I1 q1
theorem pt_not (ha : PT X a tA) : PT X (.UnaryOp .Not a pos) (tNot tA) := by
  intro pins s σ H Q I h
  exact isTrue_not (ha pins s σ H (fun c H1 => Q (!c) H1) I h)
noncomputable def tAndV (ta tb : TE) : TE := fun σ H Q => ta σ H fun x H1 => ∃ c, x = .bl c ∧ if c = true then tb σ H1 Q else Q (.bl false) H1
noncomputable def tOrV (ta tb : TE) : TE := fun σ H Q => ta σ H fun x H1 => ∃ c, x = .bl c ∧ if c = true then Q (.bl true) H1 else tb σ H1 Q
noncomputable def tNotV (ta : TE) : TE := fun σ H Q => ta σ H fun x H1 => ∃ c, x = .bl c ∧ Q (.bl (!c)) H1
theorem pe_one {op} {t : TE} (h : PE X a t) : PE X (.BoolOp op [a] pos) t := fun pins s σ H Q I hw => BoolOp_one (h pins s σ H Q I hw)
theorem pe_and (ha : PE X a ta) (hb : PE X (.BoolOp .And (b :: rest) pos) tb) : PE X (.BoolOp .And (a :: b :: rest) pos) (tAndV ta tb) := by
  intro pins s σ H Q I h
  refine BoolOp_and (thn (ha pins s σ H _ I h) fun v s1 ⟨x, H1, I1, r1, q1⟩ => ?_)
  obtain ⟨c, rfl, q1⟩ := q1
  cases r1
  refine wpAny_truthy_bool ?_
  cases c with
  | true => exact hb pins s1 σ H1 Q I1 q1
  | false => exact ⟨.bl false, H1, I1, rfl, q1⟩
theorem pe_or (ha : PE X a ta) (hb : PE X (.BoolOp .Or (b :: rest) pos) tb) : PE X (.BoolOp .Or (a :: b :: rest) pos) (tOrV ta tb) := by
  intro pins s σ H Q I h
  refine BoolOp_or (thn (ha pins s σ H _ I h) fun v s1 ⟨x, H1, I1, r1, q1⟩ => ?_)
  obtain ⟨c, rfl, q1⟩ := q1
  cases r1
  refine wpAny_truthy_bool ?_
  cases c with
  | false => exact hb pins s1 σ H1 Q I1 q1
  | true => exact ⟨.bl true, H1, I1, rfl, q1⟩
theorem pe_not (ha : PE X a ta) : PE X (.UnaryOp .Not a pos) (tNotV ta) := by
  intro pins s σ H Q I h
  refine UnaryOp_ (thn (ha pins s σ H _ I h) fun v s1 ⟨x, H1, I1, r1, q1⟩ => ?_)
  obtain ⟨c, rfl, q1⟩ := q1
  cases r1
  exact not_of (wpAny_truthy_bool ⟨.bl (!c), H1, I1, rfl, q1⟩)
noncomputable def tIf (t : TT) (ta tb : TE) : TE := fun σ H Q => t σ H fun c H1 => if c = true then ta σ H1 Q else tb σ H1 Q
theorem pe_ifExp {c : Expr} (hc : PT X c tA) (ha : PE X a ta) (hb : PE X b tb) : PE X (.IfExp c a b pos) (tIf tA ta tb) := by
  intro pins s σ H Q I h
  refine wpAny_IfExp (thn (hc pins s σ H _ I h) fun d s1 ⟨H1, I1, q1⟩ => ?_)
  cases d with
  | true => exact ha pins s1 σ H1 Q I1 q1
  | false => exact hb pins s1 σ H1 Q I1 q1
end
end L2
namespace L2
open PySem PySem.Spec PyProof.Rows
noncomputable def SqL (K : PySem.W.Frag) (H : Hp) (a : Addr) (xs : List V) : Prop :=
  Rd H a (.lst xs) ∨
    ∃ (o : Obj) (its : Array Value) (n : Nat), K.lookup a = some o ∧ o.cls = .type "list" ∧ o.dict = none ∧ o.data = .seq its n ∧ its.size ≤ sizeLine ∧ Vals xs its.toList
noncomputable def SqT (K : PySem.W.Frag) (H : Hp) (a : Addr) (xs : List V) : Prop :=
  Rd H a (.tup xs) ∨
    ∃ (o : Obj) (its : Array Value) (n : Nat), K.lookup a = some o ∧ o.cls = .type "tuple" ∧ o.data = .seq its n ∧ its.size ≤ sizeLine ∧ Vals xs its.toList
noncomputable def absV : Value → Option V
  | .none => some .non
  | .bool b => some (.bl b)
  | .int i _ => some (.int i)
  | .str x _ => some (.str x)
  | .bytes b _ => some (.byt b)
  | .float b _ => some (.flt b)
  | .ref a => some (.ref a)
  | .type n => some (.ty n)
  | _ => none
theorem RelV.abs {x : V} {u : Value} (r : RelV x u) : absV u = some x := by
  cases x with
  | non => cases r; rfl
  | bl _ => cases r; rfl
  | int _ => obtain ⟨t, rfl⟩ := r; rfl
  | str _ => obtain ⟨t, rfl⟩ := r; rfl
  | byt _ => obtain ⟨t, rfl⟩ := r; rfl
  | flt _ => obtain ⟨t, rfl⟩ := r; rfl
  | ref _ => cases r; rfl
  | ty _ => cases r; rfl
theorem RelV.inj {x y : V} {u : Value} (r : RelV x u) (q : RelV y u) : x = y := Option.some.inj (r.abs.symm.trans q.abs)
theorem Vals.inj : ∀ {xs ys : List V} {us : List Value}, Vals xs us → Vals ys us → xs = ys
  | _, _, _, .nil, .nil => rfl
  | _, _, _, .cons r t, .cons r' t' => by rw [r.inj r', Vals.inj t t']
section
variable {X : Cx} {pins : List (Addr × Obj)} {σ : St} {H : Hp} {s : Shared} {a : Addr} {xs ys : List V}
theorem SqL.of {K : PySem.W.Frag} (h : H a = some (.lst xs)) : SqL K H a xs := .inl (.inl h)
theorem SqT.of {K : PySem.W.Frag} (h : H a = some (.tup xs)) : SqT K H a xs := .inl (.inl h)
theorem Inv.list (I : Inv X pins σ H s) (h : SqL X.K H a xs) : ∃ its : List Value, Vals xs its ∧ PlainL s.heap a its.toArray ∧ xs.length ≤ sizeLine := by
  rcases h with h | ⟨o, its, n, hk, hc, hd, hs, hz, r⟩
  · obtain ⟨z, its, n, r, e⟩ := h.ok I.hok
    exact ⟨its, r, ⟨_, n, e, rfl, rfl, rfl⟩, z⟩
  · refine ⟨its.toList, r, ⟨o, n, I.kIn a o hk, hc, hd, by simpa using hs⟩, ?_⟩
    have e := r.length
    simp only [Array.length_toList] at e
    omega
theorem Inv.tuple (I : Inv X pins σ H s) (h : SqT X.K H a xs) : ∃ its : List Value, Vals xs its ∧ IsTup s.heap a its.toArray ∧ xs.length ≤ sizeLine := by
  rcases h with h | ⟨o, its, n, hk, hc, hs, hz, r⟩
  · obtain ⟨z, its, r, p⟩ := h.ok I.hok
    exact ⟨its, r, p, z⟩
  · refine ⟨its.toList, r, ⟨o, I.kIn a o hk, hc, n, by simpa using hs⟩, ?_⟩
    have e := r.length
    simp only [Array.length_toList] at e
    omega
theorem Inv.list_inj (I : Inv X pins σ H s) (h : SqL X.K H a xs) (h' : SqL X.K H a ys) : xs = ys := by
  obtain ⟨its, r, ⟨o, n, e, _, _, d⟩, _⟩ := I.list h
  obtain ⟨its', r', ⟨o', n', e', _, _, d'⟩, _⟩ := I.list h'
  rw [e] at e'; cases e'
  rw [d] at d'
  injection d' with d1 _
  have : its = its' := by simpa using congrArg Array.toList d1
  subst this
  exact r.inj r'
theorem Inv.tuple_inj (I : Inv X pins σ H s) (h : SqT X.K H a xs) (h' : SqT X.K H a ys) : xs = ys := by
  obtain ⟨its, r, ⟨o, e, _, n, d⟩, _⟩ := I.tuple h
  obtain ⟨its', r', ⟨o', e', _, n', d'⟩, _⟩ := I.tuple h'
  rw [e] at e'; cases e'
  rw [d] at d'
  injection d' with d1 _
  have : its = its' := by simpa using congrArg Array.toList d1
  subst this
  exact r.inj r'
end
noncomputable abbrev Cx.wish (X : Cx) (E : Value → Shared → Prop) : Cx := { X with xe := E }
noncomputable abbrev Cx.nox (X : Cx) : Cx := X.wish fun _ _ => False
theorem Cx.Ok.wish {X : Cx} (ok : X.Ok) (E : Value → Shared → Prop) : (X.wish E).Ok :=
  ⟨ok.mod, ok.kind, ok.glob, ok.blt, ok.above, ok.inj, ok.has, ok.cab, ok.hd, ok.frames, ok.stk, ok.exf, ok.bs, ok.bsz, ok.noex, ok.exfs, ok.funs, ok.frf⟩
theorem Cx.Ok.unwish {X : Cx} {E : Value → Shared → Prop} (ok : (X.wish E).Ok) : X.Ok :=
  ⟨ok.mod, ok.kind, ok.glob, ok.blt, ok.above, ok.inj, ok.has, ok.cab, ok.hd, ok.frames, ok.stk, ok.exf, ok.bs, ok.bsz, ok.noex, ok.exfs, ok.funs, ok.frf⟩
section
variable {X : Cx} {pins : List (Addr × Obj)} {σ : St} {H : Hp} {s : Shared} {E : Value → Shared → Prop}
theorem Inv.wish (I : Inv X pins σ H s) (E : Value → Shared → Prop) : Inv (X.wish E) pins σ H s := ⟨I.ok.wish E, I.os, I.bare, I.base, I.loc, I.cell, I.free, I.freeC, I.pin, I.hok, I.len⟩
theorem Inv.unwish (I : Inv (X.wish E) pins σ H s) : Inv X pins σ H s := ⟨I.ok.unwish, I.os, I.bare, I.base, I.loc, I.cell, I.free, I.freeC, I.pin, I.hok, I.len⟩
theorem SP.unwish {D : Ends} {f : Flow} {s' : Shared} (h : SP (X.wish E) pins D f s') : SP X pins D f s' := by
  cases f with
  | next => obtain ⟨σ', H', I, q⟩ := h; exact ⟨σ', H', I.unwish, q⟩
  | brk => obtain ⟨σ', H', I, q⟩ := h; exact ⟨σ', H', I.unwish, q⟩
  | cont => obtain ⟨σ', H', I, q⟩ := h; exact ⟨σ', H', I.unwish, q⟩
  | ret u => obtain ⟨v, σ', H', I, r, q⟩ := h; exact ⟨v, σ', H', I.unwish, r, q⟩
theorem PSs.nox {st : List Stmt} {t : TS} (h : PSs X.nox st t) : PSs X st t := fun pins s σ H D I hw =>
  wpAny_mono (h pins s σ H D (I.wish _) hw) (fun _ _ q => q.unwish) fun _ _ z => False.elim z
end
section
variable {X : Cx} {st : Stmt} {rest : List Stmt} {t u : TS} {e : Expr} {te : TE} {pos : Pos}
noncomputable def tNext : TS := fun D σ H => D.nx σ H
noncomputable def tSeq (t u : TS) : TS := fun D σ H => t { D with nx := u D } σ H
theorem pss_nil : PSs X [] tNext := fun _ _ σ H _ I h => wpAny_execs_nil ⟨σ, H, I, h⟩
theorem pss_cons (h1 : PS X st t) (h2 : PSs X rest u) : PSs X (st :: rest) (tSeq t u) := by
  intro pins s σ H D I h
  refine wpAny_execs_cons (thn (h1 pins s σ H { D with nx := u D } I h) fun f s1 q => ?_)
  cases f with
  | next =>
    obtain ⟨σ', H', I', q⟩ := q
    exact h2 pins s1 σ' H' D I' q
  | ret v => exact q
  | brk => exact q
  | cont => exact q
theorem pss_one (h1 : PS X st t) : PSs X [st] t := by
  intro pins s σ H D I h
  refine wpAny_execs_cons (thn (h1 pins s σ H D I h) fun f s1 q => ?_)
  cases f with
  | next => exact wpAny_execs_nil q
  | ret v => exact q
  | brk => exact q
  | cont => exact q
theorem Inv.quiet {pins : List (Addr × Obj)} {σ : St} {H : Hp} {s : Shared} (I : Inv X pins σ H s) : interactive X.env = false := by simp [interactive, I.ok.kind]
noncomputable def tDrop (te : TE) : TS := fun D σ H => te σ H fun _ H1 => D.nx σ H1
theorem ps_expr (he : PE X e te) (hs : swapsWith e none pos.line X.env = pure false := by rfl) : PS X (.Expr e pos) (tDrop te) := by
  intro pins s σ H D I h
  exact wpAny_Expr_any (thn (he pins s σ H _ I h) fun v s1 ⟨x, H1, I1, r1, q1⟩ => ⟨σ, H1, I1, q1⟩) I.quiet hs
noncomputable def tRet (te : TE) : TS := fun D σ H => te σ H D.rt
theorem ps_ret (he : PE X e te) : PS X (.Return (some e) pos) (tRet te) := by
  intro pins s σ H D I h
  exact wpAny_Return_some (thn (he pins s σ H _ I h) fun v s1 ⟨x, H1, I1, r1, q1⟩ => ⟨x, σ, H1, I1, r1, q1⟩)
noncomputable def tIfS (c : TT) (t u : TS) : TS := fun D σ H => c σ H fun b H1 => if b = true then t D σ H1 else u D σ H1
theorem ps_if {c : Expr} {a b : List Stmt} {tc : TT} (hc : PT X c tc) (ha : PSs X a t) (hb : PSs X b u) : PS X (.If c a b pos) (tIfS tc t u) := by
  intro pins s σ H D I h
  refine wpAny_If (thn (hc pins s σ H _ I h) fun d s1 ⟨H1, I1, q1⟩ => ?_)
  cases d with
  | true => exact ha pins s1 σ H1 D I1 q1
  | false => exact hb pins s1 σ H1 D I1 q1
noncomputable def tNever : TS := fun _ _ _ => False
theorem ps_never : PS X st tNever := fun _ _ _ _ _ _ h => h.elim
end
noncomputable abbrev TG := V → St → Hp → (St → Hp → Prop) → Prop
noncomputable abbrev TGs := List V → St → Hp → (St → Hp → Prop) → Prop
noncomputable def PG (X : Cx) (target : Expr) (t : TG) : Prop :=
  ∀ (pins : List (Addr × Obj)) (s : Shared) (σ : St) (H : Hp) (v : V) (u : Value) (Q : St → Hp → Prop), Inv X pins σ H s → RelV v u → t v σ H Q →
    wpAny (model X.prog X.w) X.A (assign target X.env u) (fun _ s' => ∃ σ' H', Inv X pins σ' H' s' ∧ Q σ' H') X.xe s
noncomputable def PGs (X : Cx) (ts : List Expr) (t : TGs) : Prop :=
  ∀ (pins : List (Addr × Obj)) (s : Shared) (σ : St) (H : Hp) (vs : List V) (us : List Value) (Q : St → Hp → Prop), Inv X pins σ H s → Vals vs us → t vs σ H Q →
    wpAny (model X.prog X.w) X.A (assignInOrder ((assignEach ts X.env).map (·.2)) us) (fun _ s' => ∃ σ' H', Inv X pins σ' H' s' ∧ Q σ' H') X.xe s
noncomputable abbrev TSet := V → V → V → Hp → (Hp → Prop) → Prop
noncomputable def PSet (X : Cx) (t : TSet) : Prop :=
  ∀ (pins : List (Addr × Obj)) (s : Shared) (σ : St) (H : Hp) (o i v : V) (ov iv u : Value) (Q : Hp → Prop), Inv X pins σ H s → RelV o ov → RelV i iv → RelV v u → t o i v H Q →
    wpAny (model X.prog X.w) X.A (setItem ov iv u) (fun _ s' => ∃ H', Inv X pins σ H' s' ∧ Q H') X.xe s
section
variable {X : Cx} {pos : Pos}
noncomputable def gName (i : Nat) : TG := fun v σ H Q => Q (σ.set i (some v)) H
theorem pg_name {i : Nat} {x : Str} (hN : X.N.Nodup) (hi : X.N[i]? = some x) (hx : Loc X.env.scope x) (hf : X.fn x = true ∨ X.env.scope.names.lookup x = some .local := by first | exact .inl rfl | exact .inr rfl | assumption) : PG X (.Name x pos) (gName i) := by
  intro pins s σ H v u Q I r h
  exact wpAny_assign_Name (store_ok I hN hi hx r (fun s' I' => ⟨_, H, I', h⟩) hf)
noncomputable def gNil : TGs := fun vs σ H Q => vs = [] ∧ Q σ H
noncomputable def gCons (t : TG) (u : TGs) : TGs := fun vs σ H Q => ∃ v r, vs = v :: r ∧ t v σ H fun σ' H' => u r σ' H' Q
theorem pgs_nil : PGs X [] gNil := by
  intro pins s σ H vs us Q I r h
  obtain ⟨e, h⟩ := h
  subst e
  cases r
  exact assignInOrder_nil ⟨σ, H, I, h⟩
theorem pgs_cons {e : Expr} {es : List Expr} {t : TG} {u : TGs} (h1 : PG X e t) (h2 : PGs X es u)
    (hs : (assignEach (e :: es) X.env).map (·.2) = assign e X.env :: (assignEach es X.env).map (·.2) := by rfl) : PGs X (e :: es) (gCons t u) := by
  intro pins s σ H vs us Q I r h
  obtain ⟨v, vr, e1, h⟩ := h
  subst e1
  cases r with
  | cons r rr =>
    rw [hs]
    refine assignInOrder_cons (thn (h1 pins s σ H _ _ _ I r h) fun _ s1 ⟨σ1, H1, I1, q1⟩ => ?_)
    exact h2 pins s1 σ1 H1 _ _ Q I1 rr q1
noncomputable def gTup (K : PySem.W.Frag) (n : Nat) (t : TGs) : TG := fun v σ H Q => ∃ a xs, v = .ref a ∧ SqT K H a xs ∧ xs.length = n ∧ t xs σ H Q
theorem pg_tup {es : List Expr} {k : Nat} {t : TGs} {n : Nat} (hc : X.calm = true) (h : PGs X es t)
    (hn : (assignEach es X.env).length = n := by rfl) (hst : (assignEach es X.env).findIdx? (·.1) = none := by rfl) : PG X (.Tuple es k pos) (gTup X.K n t) := by
  intro pins s σ H v u Q I r hw
  obtain ⟨a, xs, e1, hq, hl, hw⟩ := hw
  subst e1
  cases r
  obtain ⟨its, rv, ht, hz⟩ := I.tuple hq
  refine assign_Tuple_tuple (I.ok.hd hc) ht (by simp [hn, ← hl, rv.length]) hst fun h' hx => ?_
  have I1 : Inv X pins σ H { s with heap := h' } := I.kept (t' := s.toks) fun b o e => hx b o (Nat.ne_of_lt (Heap.lt_size e)) e
  exact h pins _ σ H xs _ Q I1 (by simpa using rv) hw
noncomputable def gSub (to ti : TE) (t : TSet) : TG := fun v σ H Q => to σ H fun o H1 => ti σ H1 fun i H2 => t o i v H2 fun H3 => Q σ H3
theorem pg_sub {o i : Expr} {to ti : TE} {t : TSet} (ho : PE X o to) (hi : PE X i ti) (hs : PSet X t)
    (ha : ∀ v, assign (.Subscript o i pos) X.env v = (do
      let ov ← holding [v] (eval o X.env)
      let iv ← holding [v, ov] (eval i X.env)
      standAt pos
      holding [v, ov, iv] (setItem ov iv v)
      release [v, ov, iv] []) := by intro _; rfl) : PG X (.Subscript o i pos) (gSub to ti t) := by
  intro pins s σ H v u Q I r h
  rw [ha]
  refine wpAny_bind (wpAny_holding (thn (ho pins s σ H _ I h) fun ov s1 ⟨x, H1, I1, r1, q1⟩ => ?_))
  refine wpAny_bind (wpAny_holding (thn (hi pins s1 σ H1 _ I1 q1) fun iv s2 ⟨y, H2, I2, r2, q2⟩ => ?_))
  refine wpAny_bind (wpAny_standAt (wpAny_bind (wpAny_holding (thn (hs pins s2 σ H2 x y v ov iv u _ I2 r1 r2 r q2) fun _ s3 ⟨H3, I3, q3⟩ => ?_))))
  exact wpAny_release ⟨σ, H3, I3, q3⟩
noncomputable def tAsg (te : TE) (g : TG) : TS := fun D σ H => te σ H fun x H1 => g x σ H1 D.nx
theorem ps_asg {tg e : Expr} {te : TE} {g : TG} (he : PE X e te) (hg : PG X tg g) (hs : swapsWithSole [tg] e pos.line X.env = pure false := by rfl) (hw : swappedStores [tg] e X.env = pure none := by rfl)
    (h1 : (assignEach [tg] X.env).map (·.2) = [assign tg X.env] := by rfl) : PS X (.Assign [tg] e pos) (tAsg te g) := by
  intro pins s σ H D I h
  refine wpAny_Assign_stores (thn (he pins s σ H _ I h) fun v s1 ⟨x, H1, I1, r1, q1⟩ => ?_) hs hw
  rw [h1]
  exact thn (hg pins s1 σ H1 x v _ I1 r1 q1) fun _ s2 q => q
theorem ps_set {i : Nat} {x : Str} {e : Expr} {te : TE} {pos' : Pos} (hN : X.N.Nodup) (hi : X.N[i]? = some x) (hx : Loc X.env.scope x) (he : PE X e te) (hs : swapsWith e (some (.Name x pos')) pos.line X.env = pure false := by rfl) (hf : X.fn x = true ∨ X.env.scope.names.lookup x = some .local := by first | exact .inl rfl | exact .inr rfl | assumption) :
    PS X (.Assign [.Name x pos'] e pos) (tAsg te (gName i)) := by
  intro pins s σ H D I h
  refine wpAny_Assign_Name (thn (he pins s σ H _ I h) fun v s1 ⟨y, H1, I1, r1, q1⟩ => ?_) hs
  exact store_ok I1 hN hi hx r1 (fun s2 I2 => ⟨_, H1, I2, q1⟩) hf
end
section
variable {X : Cx} {pos : Pos}
end
structure It where
  go : Nat → Hp → Prop
  yld : Nat → Hp → V → Hp → Prop
  stop : Nat → Hp → Prop
noncomputable def FpOk (X : Cx) (pins : List (Addr × Obj)) (H : Hp) (b : Addr) : Prop :=
  H b = none ∧ b ≠ X.env.locals ∧ b ∉ X.fs ∧ (b ∈ X.ex ∨ X.s₀.heap.objs.size ≤ b) ∧ (∀ x c, X.env.cells.lookup x = some c → c ≠ b) ∧ ∀ p ∈ X.pn ++ pins, p.1 ≠ b
theorem Inv.fpOk {X : Cx} {pins : List (Addr × Obj)} {σ : St} {H H' : Hp} {s : Shared} {b : Addr} (I : Inv X pins σ H s) (hb : s.heap.objs.size ≤ b) (hn : H' b = none) : FpOk X pins H' b := by
  refine ⟨hn, Nat.ne_of_gt (Nat.lt_of_lt_of_le I.lt hb), I.nofs hb, .inr (Nat.le_trans I.sz hb), fun x c e z => ?_, fun p hp z => ?_⟩
  · obtain ⟨v, q⟩ := I.cell x c e
    exact absurd (Nat.lt_of_lt_of_le q.lt (by rw [z]; exact hb)) (Nat.lt_irrefl _)
  · exact absurd (Nat.lt_of_lt_of_le (Heap.lt_size (I.pin p hp).1) (by rw [z]; exact hb)) (Nat.lt_irrefl _)
structure Turn (P : Program) (w : World) (K : PySem.W.Frag) (tg : Expr) (J : It) (fp : List Addr) (it : Addr) (tn : Nat → Heap → Prop) : Prop where
  mem : it ∈ fp
  obj : ∀ i h, tn i h → ∀ b ∈ fp, ∃ o, h.get? b = some o ∧ ∀ v, o.data ≠ .cell v
  keep : ∀ i h h', tn i h → (∀ b ∈ fp, ∀ o, h.get? b = some o → h'.get? b = some o) → tn i h'
  item : ∀ (X : Cx), X.prog = P → X.w = w → X.K = K → X.calm = true → ∀ (i : Nat) (pins : List (Addr × Obj)) (s : Shared) (σ : St) (H : Hp) (E : Value → Shared → Prop), Inv X pins σ H s → (∀ b ∈ fp, FpOk X pins H b) → tn i s.heap → J.go i H →
    wpAny (model P w) X.A (pyNext (.ref it)) (fun r s1 => ∃ u, r = some u ∧
      wpAny (model P w) X.A (letOwnedTupleGo tg (.ref it) u) (fun _ s2 => ∃ x H', Inv X pins σ H' s2 ∧ RelV x u ∧ J.yld i H x H' ∧ tn (i + 1) s2.heap ∧ ∀ b ∈ fp, H' b = none) E s1) E s
  done : ∀ (X : Cx), X.prog = P → X.w = w → X.K = K → X.calm = true → ∀ (i : Nat) (pins : List (Addr × Obj)) (s : Shared) (σ : St) (H : Hp) (E : Value → Shared → Prop), Inv X pins σ H s → (∀ b ∈ fp, FpOk X pins H b) → tn i s.heap → J.stop i H →
    wpAny (model P w) X.A (pyNext (.ref it)) (fun r s1 => r = none ∧ Inv X pins σ H s1) E s
  self : ∀ (A : Around) (i : Nat) (s : Shared) (Q : Value → Shared → Prop) (E : Value → Shared → Prop), tn i s.heap → Q (.ref it) s → wpAny (model P w) A (pyIter (.ref it)) Q E s
noncomputable abbrev TI := St → Hp → (It → Hp → Prop) → Prop
noncomputable def PIE (X : Cx) (pins : List (Addr × Obj)) (σ : St) (tg : Expr) (R : It → Hp → Prop) (itv : Value) (s2 : Shared) : Prop :=
  ∃ (it : Addr) (fp : List Addr) (tn : Nat → Heap → Prop) (J : It) (H' : Hp), itv = .ref it ∧ Inv X pins σ H' s2 ∧ Turn X.prog X.w X.K tg J fp it tn ∧ tn 0 s2.heap ∧ (∀ b ∈ fp, FpOk X pins H' b) ∧ R J H'
noncomputable def PI (X : Cx) (tg iter : Expr) (wi : TI) : Prop :=
  ∀ (pins : List (Addr × Obj)) (s : Shared) (σ : St) (H : Hp) (R : It → Hp → Prop), Inv X pins σ H s → wi σ H R →
    wpAny (model X.prog X.w) X.A (eval iter X.env) (fun v s1 => wpAny (model X.prog X.w) X.A (pyIter v) (PIE X pins σ tg R) X.xe s1) X.xe s
theorem go_of {M : Model} {A : Around} {E : Value → Shared → Prop} {s : Shared} {tg : Expr} {it : Addr} {u : Value} {o : Obj} {n : String} {vs : Array Value} {Q : Unit → Shared → Prop} (ho : s.heap.get? it = some o) (hc : o.cls = .type n) (hd : o.data = .fields vs)
    (hn : ["enumerate", "zip", "dict_itemiterator", "dict_reverseitemiterator", "odict_iterator", "itertools.zip_longest", "itertools.pairwise"].contains n = false) (hQ : Q () s) : wpAny M A (letOwnedTupleGo tg (.ref it) u) Q E s := by
  unfold letOwnedTupleGo
  cases tg <;> first
    | exact wpAny_pure hQ
    | (cases u <;> first
        | exact wpAny_pure hQ
        | (refine wpAny_bind (wpAny_load ho ?_)
           rw [hc, hd]
           show wpAny M A (if (["enumerate", "zip", "dict_itemiterator", "dict_reverseitemiterator", "odict_iterator", "itertools.zip_longest", "itertools.pairwise"].contains n && vs[0]? == some (rawInt _)) = true then _ else _) Q E s
           rw [if_neg (by intro h; rw [hn, Bool.false_and] at h; cases h)]
           exact wpAny_pure hQ))
noncomputable def Itl (K : PySem.W.Frag) (a : Addr) : It :=
  ⟨fun i H => ∃ xs x, SqL K H a xs ∧ xs[i]? = some x, fun i H x H' => H' = H ∧ ∀ xs, SqL K H a xs → xs[i]? = some x, fun i H => ∃ xs, SqL K H a xs ∧ xs.length ≤ i⟩
noncomputable def Itt (K : PySem.W.Frag) (a : Addr) : It :=
  ⟨fun i H => ∃ xs x, SqT K H a xs ∧ xs[i]? = some x, fun i H x H' => H' = H ∧ ∀ xs, SqT K H a xs → xs[i]? = some x, fun i H => ∃ xs, SqT K H a xs ∧ xs.length ≤ i⟩
noncomputable def Itr (lo : Int) (n : Nat) : It := ⟨fun i _ => i < n, fun i H x H' => H' = H ∧ x = .int (lo + i), fun i _ => n ≤ i⟩
theorem turn_list {P : Program} {w : World} {K : PySem.W.Frag} {tg : Expr} (a it : Addr) : Turn P w K tg (Itl K a) [it] it (fun i h => h.IsListIter it a i) where
  mem := by simp
  obj := fun i h st b hb => by
    have e : b = it := by simpa using hb
    subst e
    obtain ⟨o, e, c, d⟩ := st
    exact ⟨o, e, fun v z => by rw [d] at z; cases z⟩
  keep := fun i h h' st k => st.at fun o e => k it (by simp) o e
  item := by
    intro X hP hw hK hc i pins s σ H E I hf st hg
    subst hP hw hK
    obtain ⟨xs, x, hq, hx⟩ := hg
    obtain ⟨its, rv, p, hz⟩ := I.list hq
    obtain ⟨u, hu, ru⟩ := rv.get hx
    obtain ⟨f0, f1, f2, f3, f4, f5⟩ := hf it (by simp)
    refine wpAny_pyNext_list_item st p.isList (x := u) (by simpa using hu) fun h' st' sb => ?_
    have I1 : Inv X pins σ H { s with heap := h' } := I.turned (t' := s.toks) (fun b o hb e => (sb.2 b hb).trans e) f0 f1 f3 f4 f5
    obtain ⟨o, e, c, d⟩ := id st'
    exact ⟨u, rfl, go_of (s := { s with heap := h' }) e c d (by decide) ⟨x, H, I1, ru, ⟨rfl, fun ys hy => by rw [I.list_inj hy hq]; exact hx⟩, st', fun b hb => (hf b hb).1⟩⟩
  done := by
    intro X hP hw hK hc i pins s σ H E I hf st hg
    subst hP hw hK
    obtain ⟨xs, hq, hx⟩ := hg
    obtain ⟨its, rv, p, hz⟩ := I.list hq
    obtain ⟨f0, f1, f2, f3, f4, f5⟩ := hf it (by simp)
    have hl := rv.length
    exact wpAny_pyNext_list_end (I.ok.hd hc) st p.isList (by simp; omega) fun h' eb => ⟨rfl, I.turned (t' := s.toks) (fun b o hb e => eb b o hb e) f0 f1 f3 f4 f5⟩
  self := fun _ _ _ _ _ st h => wpAny_pyIter_listiter st h
theorem turn_tuple {P : Program} {w : World} {K : PySem.W.Frag} {tg : Expr} (a it : Addr) : Turn P w K tg (Itt K a) [it] it (fun i h => h.IsTupleIter it a i) where
  mem := by simp
  obj := fun i h st b hb => by
    have e : b = it := by simpa using hb
    subst e
    obtain ⟨o, e, c, d⟩ := st
    exact ⟨o, e, fun v z => by rw [d] at z; cases z⟩
  keep := fun i h h' st k => st.at fun o e => k it (by simp) o e
  item := by
    intro X hP hw hK hc i pins s σ H E I hf st hg
    subst hP hw hK
    obtain ⟨xs, x, hq, hx⟩ := hg
    obtain ⟨its, rv, p, hz⟩ := I.tuple hq
    obtain ⟨u, hu, ru⟩ := rv.get hx
    obtain ⟨f0, f1, f2, f3, f4, f5⟩ := hf it (by simp)
    refine wpAny_pyNext_tuple_item st (show s.heap.IsTuple a its.toArray from p) (x := u) (by simpa using hu) fun h' st' sb => ?_
    have I1 : Inv X pins σ H { s with heap := h' } := I.turned (t' := s.toks) (fun b o hb e => (sb.2 b hb).trans e) f0 f1 f3 f4 f5
    obtain ⟨o, e, c, d⟩ := id st'
    exact ⟨u, rfl, go_of (s := { s with heap := h' }) e c d (by decide) ⟨x, H, I1, ru, ⟨rfl, fun ys hy => by rw [I.tuple_inj hy hq]; exact hx⟩, st', fun b hb => (hf b hb).1⟩⟩
  done := by
    intro X hP hw hK hc i pins s σ H E I hf st hg
    subst hP hw hK
    obtain ⟨xs, hq, hx⟩ := hg
    obtain ⟨its, rv, p, hz⟩ := I.tuple hq
    obtain ⟨f0, f1, f2, f3, f4, f5⟩ := hf it (by simp)
    have hl := rv.length
    exact wpAny_pyNext_tuple_end (I.ok.hd hc) st (show s.heap.IsTuple a its.toArray from p) (by simp; omega) fun h' eb => ⟨rfl, I.turned (t' := s.toks) (fun b o hb e => eb b o hb e) f0 f1 f3 f4 f5⟩
  self := fun _ _ _ _ _ st h => wpAny_pyIter_tupleiter st h
theorem turn_range {P : Program} {w : World} {K : PySem.W.Frag} {tg : Expr} (it : Addr) (lo : Int) (n : Nat) : Turn P w K tg (Itr lo n) [it] it (fun i h => IsRangeIter h it (lo + (i : Nat) * 1) ((n : Int) - (i : Nat)) 1) where
  mem := by simp
  obj := fun i h st b hb => by
    have e : b = it := by simpa using hb
    subst e
    exact ⟨_, st, fun v z => by
      have z' : Data.fields _ = Data.cell v := z
      cases z'⟩
  keep := fun i h h' st k => k it (by simp) _ st
  item := by
    intro X hP hw hK hc i pins s σ H E I hf st hg
    subst hP hw hK
    obtain ⟨f0, f1, f2, f3, f4, f5⟩ := hf it (by simp)
    have W := Walks.range (prog := X.prog) (w := X.w) (I.ok.hd hc) it lo 1 n
    refine W.item i s _ _ hg st fun v h' tk hv st' kk => ?_
    obtain ⟨t, rfl⟩ := hv
    have I1 : Inv X pins σ H { s with heap := h', toks := tk } := I.turned (fun b o hb e => kk b o (by simpa using hb) e) f0 f1 f3 f4 f5
    refine ⟨_, rfl, go_of (s := { s with heap := h', toks := tk }) (n := "range_iterator") st' rfl rfl (by decide) ⟨.int (lo + i), H, I1, ⟨t, ?_⟩, ⟨rfl, rfl⟩, st', fun b hb => (hf b hb).1⟩⟩
    rw [Int.mul_one]
  done := by
    intro X hP hw hK hc i pins s σ H E I hf st hg
    subst hP hw hK
    obtain ⟨f0, f1, f2, f3, f4, f5⟩ := hf it (by simp)
    exact wpAny_pyNext_range_end (I.ok.hd hc) st (by have : n ≤ i := hg; omega) fun h' eb => ⟨rfl, I.turned (t' := s.toks) (fun b o hb e => eb b o hb e) f0 f1 f3 f4 f5⟩
  self := fun _ _ _ _ _ st h => wpAny_pyIter_rangeiter st h
end L2
namespace L2
open PySem PySem.Spec PyProof.Rows
section
variable {X : Cx} {tg : Expr}
noncomputable def iList (K : PySem.W.Frag) (tl : TE) : TI := fun σ H R => tl σ H fun x H1 => ∃ a, x = .ref a ∧ (∃ xs, SqL K H1 a xs) ∧ R (Itl K a) H1
noncomputable def iTup (K : PySem.W.Frag) (tl : TE) : TI := fun σ H R => tl σ H fun x H1 => ∃ a, x = .ref a ∧ (∃ xs, SqT K H1 a xs) ∧ R (Itt K a) H1
theorem pi_list {l : Expr} {tl : TE} (hl : PE X l tl) : PI X tg l (iList X.K tl) := by
  intro pins s σ H R I h
  refine thn (hl pins s σ H _ I h) fun v s1 ⟨x, H1, I1, r1, q1⟩ => ?_
  obtain ⟨a, e, ⟨xs, hq⟩, q⟩ := q1
  subst e
  cases r1
  obtain ⟨its, rv, p, hz⟩ := I1.list hq
  refine wpAny_pyIter_list p.isList ?_
  refine ⟨s1.heap.objs.size, [s1.heap.objs.size], _, _, H1, rfl, I1.kept (t' := s1.toks) fun b o e => Heap.get?_push_of_some _ e, turn_list a _, ⟨_, Heap.get?_push_size _ rfl, rfl, rfl⟩, fun b hb => ?_, q⟩
  have e : b = s1.heap.objs.size := by simpa using hb
  subst e
  exact I1.fpOk (Nat.le_refl _) (I1.hok.fresh (Nat.le_refl _))
theorem pi_tup {l : Expr} {tl : TE} (hl : PE X l tl) : PI X tg l (iTup X.K tl) := by
  intro pins s σ H R I h
  refine thn (hl pins s σ H _ I h) fun v s1 ⟨x, H1, I1, r1, q1⟩ => ?_
  obtain ⟨a, e, ⟨xs, hq⟩, q⟩ := q1
  subst e
  cases r1
  obtain ⟨its, rv, p, hz⟩ := I1.tuple hq
  refine wpAny_pyIter_tuple (show s1.heap.IsTuple a its.toArray from p) ?_
  refine ⟨s1.heap.objs.size, [s1.heap.objs.size], _, _, H1, rfl, I1.kept (t' := s1.toks) fun b o e => Heap.get?_push_of_some _ e, turn_tuple a _, ⟨_, Heap.get?_push_size _ rfl, rfl, rfl⟩, fun b hb => ?_, q⟩
  have e : b = s1.heap.objs.size := by simpa using hb
  subst e
  exact I1.fpOk (Nat.le_refl _) (I1.hok.fresh (Nat.le_refl _))
theorem range_it {pins : List (Addr × Obj)} {σ : St} {H : Hp} {s : Shared} {R : It → Hp → Prop} {E : Value → Shared → Prop} {lo hi : Int} {t u v : Tok} {tk : Nat} (I : Inv X pins σ H s) (h1 : -(2 ^ 62) ≤ lo) (h2 : lo < 2 ^ 62) (h3 : -(2 ^ 62) ≤ hi) (h4 : hi < 2 ^ 62)
    (q : R (Itr lo (hi - lo).toNat) H) : wpAny (model X.prog X.w) X.A (pyIter (.ref s.heap.objs.size)) (PIE X pins σ tg R) E { s with heap := s.heap.push { cls := .type "range", data := .fields #[.int lo t, .int hi u, .int 1 v] }, toks := tk } := by
  refine wpAny_pyIter_range (IsRange.new ..) (small_one h1 h2 h3 h4) ?_
  have I1 : Inv X pins σ H { s with heap := s.heap.push { cls := .type "range", data := .fields #[.int lo t, .int hi u, .int 1 v] }, toks := tk } := I.kept fun b o e => Heap.get?_push_of_some _ e
  refine ⟨(s.heap.push { cls := .type "range", data := .fields #[.int lo t, .int hi u, .int 1 v] }).objs.size, [(s.heap.push { cls := .type "range", data := .fields #[.int lo t, .int hi u, .int 1 v] }).objs.size], _, _, H, rfl,
    I1.kept (t' := tk) fun b o e => Heap.get?_push_of_some _ e, turn_range _ lo (hi - lo).toNat, ?_, fun b hb => ?_, q⟩
  · have e1 : lo + ((0 : Nat) : Int) * 1 = lo := by simp
    have e2 : (((hi - lo).toNat : Nat) : Int) - ((0 : Nat) : Int) = Builtin.Range.rangeSize lo hi 1 := by rw [rangeSize_one]; split <;> omega
    show IsRangeIter _ _ (lo + ((0 : Nat) : Int) * 1) ((((hi - lo).toNat : Nat) : Int) - ((0 : Nat) : Int)) 1
    rw [e1, e2]
    exact Heap.get?_push_size _ rfl
  · have e : b = (s.heap.push { cls := .type "range", data := .fields #[.int lo t, .int hi u, .int 1 v] }).objs.size := by simpa using hb
    subst e
    exact I1.fpOk (Nat.le_refl _) (I1.hok.fresh (Nat.le_refl _))
noncomputable def iRng1 (ta : TA) : TI := fun σ H R => ta σ H fun vs H1 => ∃ j : Int, vs = [.int j] ∧ -(2 ^ 62) ≤ j ∧ j < 2 ^ 62 ∧ R (Itr 0 j.toNat) H1
theorem pi_range1 {a : Expr} {ta : TA} {p pos : Pos} (hg : Gl X "range") (hm : X.mg "range" = none) (ha : PA X [a] ta) (hs : starEach [a] X.env = [(false, eval a X.env)] := by rfl) : PI X tg (.Call (.Name "range" p) [a] [] pos) (iRng1 ta) := by
  intro pins s σ H R I h
  refine Call_ (ld_blt I hg hm boot_range (PyProof.Rows.callWith_type1 (thn (ha pos pins s σ H _ I h) fun us s1 ⟨vs, H1, I1, r1, q1⟩ => ?_) hs rfl))
  obtain ⟨j, e, q1, q2, q⟩ := q1
  subst e
  cases r1 with
  | cons r rr =>
    cases rr
    obtain ⟨t, rfl⟩ := r
    exact call_range_1 (range_it I1 (by omega) (by omega) q1 q2 (by simpa using q))
noncomputable def tFor (wi : TI) (g : TG) (tb : TS) : TS := fun D σ H => wi σ H fun J H1 => ∃ W : Nat → Nat → St → Hp → Prop, (∃ m, W 0 m σ H1) ∧ ∀ i m σ H, W i m σ H →
  (J.stop i H ∧ D.nx σ H) ∨ (J.go i H ∧ ∃ N : St → Hp → Prop, (∀ σ' H', N σ' H' → ∃ m', m' < m ∧ W (i + 1) m' σ' H') ∧ ∀ x H', J.yld i H x H' → g x σ H' fun σ2 H2 => tb { D with nx := N, ct := N, bk := D.nx } σ2 H2)
noncomputable def pinsAt (fp : List Addr) (h : Heap) : List (Addr × Obj) := fp.filterMap fun b => (h.get? b).map fun o => (b, o)
theorem mem_pinsAt {fp : List Addr} {h : Heap} {b : Addr} {o : Obj} (hb : b ∈ fp) (e : h.get? b = some o) : (b, o) ∈ pinsAt fp h := List.mem_filterMap.mpr ⟨b, hb, by rw [e]; rfl⟩
theorem of_pinsAt {fp : List Addr} {h : Heap} {p : Addr × Obj} (hp : p ∈ pinsAt fp h) : p.1 ∈ fp ∧ h.get? p.1 = some p.2 := by
  obtain ⟨b, hb, e⟩ := List.mem_filterMap.mp hp
  cases q : h.get? b with
  | none => rw [q] at e; cases e
  | some o =>
    rw [q] at e
    have e' : (b, o) = p := Option.some.inj e
    subst e'
    exact ⟨hb, q⟩
theorem Inv.pinned {pins : List (Addr × Obj)} {σ : St} {H : Hp} {s : Shared} {fp : List Addr} (I : Inv X pins σ H s) (hf : ∀ b ∈ fp, FpOk X pins H b) (ho : ∀ b ∈ fp, ∃ o, s.heap.get? b = some o ∧ ∀ v, o.data ≠ .cell v) : Inv X (pins ++ pinsAt fp s.heap) σ H s :=
  I.pins_of fun p hp => (List.mem_append.mp hp).elim (fun z => I.pin p (List.mem_append_right _ z)) fun z => by
    obtain ⟨hb, e⟩ := of_pinsAt z
    obtain ⟨f0, f1, f2, _⟩ := hf p.1 hb
    obtain ⟨o, e', d⟩ := ho p.1 hb
    rw [e] at e'; cases e'
    exact ⟨e, f0, f1, f2, d⟩
theorem Inv.unpinned {pins pl : List (Addr × Obj)} {σ : St} {H : Hp} {s : Shared} (I : Inv X (pins ++ pl) σ H s) : Inv X pins σ H s := I.pins_of fun p hp => I.pin p (List.mem_append_right _ (List.mem_append_left _ hp))
theorem ps_for {iter : Expr} {body : List Stmt} {wi : TI} {g : TG} {tb : TS} {pos : Pos} (hp : PassesOwn (model X.prog X.w) X.A X.env X.xe) (hc : X.calm = true) (hi : PI X tg iter wi) (hg : PG X tg g) (hb : PSs X body tb)
    (hs : ∀ x, foldedSetIterable iter X.env x = pure x := by intro _; rfl) : PS X (.For tg iter body [] pos) (tFor wi g tb) := by
  intro pins s σ H D I h
  refine wpAny_For (thn (hi pins s σ H _ I h) fun v s1 h1 => thn h1 fun itv s2 h2 => ?_) hs
  obtain ⟨it, fp, tn, J, H2, e, I2, T, st2, f2, W, ⟨m0, w0⟩, turn⟩ := h2
  subst e
  have stat : ∀ {H' : Hp}, (∀ b ∈ fp, H' b = none) → ∀ b ∈ fp, FpOk X pins H' b := fun hn b hb => ⟨hn b hb, (f2 b hb).2⟩
  refine codeAny_forLoop_any (fun n s' => ∃ i σ' H', Inv X pins σ' H' s' ∧ tn i s'.heap ∧ (∀ b ∈ fp, H' b = none) ∧ W i n σ' H') ?_ m0 ⟨0, σ, H2, I2, st2, fun b hb => (f2 b hb).1, w0⟩
  rintro n s3 ⟨i, σ3, H3, I3, st3, fr3, w3⟩
  rcases turn i n σ3 H3 w3 with ⟨stop, qn⟩ | ⟨go, N, hN, step⟩
  · refine wpAny_passesOwn hp (thn (T.done X rfl rfl rfl hc i pins s3 σ3 H3 X.xe I3 (stat fr3) st3 stop) fun r s4 ⟨hr, I4⟩ => ?_)
    subst hr
    exact wpAny_execs_nil ⟨σ3, H3, I4, qn⟩
  · refine wpAny_passesOwn hp (thn (T.item X rfl rfl rfl hc i pins s3 σ3 H3 X.xe I3 (stat fr3) st3 go) fun r s4 ⟨u, hr, h4⟩ => ?_)
    subst hr
    refine wpAny_passesOwn hp (thn h4 fun _ s5 ⟨x, H5, I5, r5, y5, st5, fr5⟩ => ?_)
    have I5' := I5.pinned (stat fr5) (T.obj _ _ st5)
    refine wpAny_passesOwn hp (thn (hg _ s5 σ3 H5 x u _ I5' r5 (step x H5 y5)) fun _ s6 ⟨σ6, H6, I6, q6⟩ => ?_)
    refine wpAny_passesOwn hp (thn (hb _ s6 σ6 H6 _ I6 q6) fun f s7 q7 => ?_)
    have again : ∀ {σ7 : St} {H7 : Hp}, Inv X (pins ++ pinsAt fp s5.heap) σ7 H7 s7 → N σ7 H7 → ∃ m, m < n ∧ ∃ i σ' H', Inv X pins σ' H' s7 ∧ tn i s7.heap ∧ (∀ b ∈ fp, H' b = none) ∧ W i m σ' H' := fun {σ7 H7} I7 n7 => by
      obtain ⟨m', hm, w7⟩ := hN σ7 H7 n7
      refine ⟨m', hm, i + 1, σ7, H7, I7.unpinned, T.keep _ _ _ st5 fun b hb o e => (I7.pin (b, o) (List.mem_append_right _ (List.mem_append_right _ (mem_pinsAt hb e)))).1, fun b hb => ?_, w7⟩
      obtain ⟨o, e, d⟩ := T.obj _ _ st5 b hb
      exact (I7.pin (b, o) (List.mem_append_right _ (List.mem_append_right _ (mem_pinsAt hb e)))).2.1
    cases f with
    | next => obtain ⟨σ7, H7, I7, n7⟩ := q7; exact again I7 n7
    | cont => obtain ⟨σ7, H7, I7, n7⟩ := q7; exact again I7 n7
    | brk => obtain ⟨σ7, H7, I7, q7⟩ := q7; exact ⟨σ7, H7, I7.unpinned, q7⟩
    | ret v => obtain ⟨x7, σ7, H7, I7, r7, q7⟩ := q7; exact ⟨x7, σ7, H7, I7.unpinned, r7, q7⟩
end
theorem for_list {K : PySem.W.Frag} {a : Addr} {xs : List V} {g : TG} {tb : TS} {D : Ends} {σ : St} {H : Hp} (Pv : Nat → St → Hp → Prop) (h0 : Pv 0 σ H) (hl : ∀ i σ H, i ≤ xs.length → Pv i σ H → SqL K H a xs)
    (hs : ∀ i x σ H, xs[i]? = some x → Pv i σ H → g x σ H fun σ2 H2 => tb { D with nx := Pv (i + 1), ct := Pv (i + 1), bk := D.nx } σ2 H2) (hd : ∀ σ H, Pv xs.length σ H → D.nx σ H) :
    ∃ W : Nat → Nat → St → Hp → Prop, (∃ m, W 0 m σ H) ∧ ∀ i m σ H, W i m σ H →
      ((Itl K a).stop i H ∧ D.nx σ H) ∨ ((Itl K a).go i H ∧ ∃ N : St → Hp → Prop, (∀ σ' H', N σ' H' → ∃ m', m' < m ∧ W (i + 1) m' σ' H') ∧ ∀ x H', (Itl K a).yld i H x H' → g x σ H' fun σ2 H2 => tb { D with nx := N, ct := N, bk := D.nx } σ2 H2) := by
  refine ⟨fun i m σ H => m = xs.length - i ∧ i ≤ xs.length ∧ Pv i σ H, ⟨xs.length, by simp, Nat.zero_le _, h0⟩, ?_⟩
  rintro i m σ H ⟨rfl, hi, p⟩
  have q := hl i σ H hi p
  by_cases hlt : i < xs.length
  · refine .inr ⟨⟨xs, xs[i], q, by simp [hlt]⟩, Pv (i + 1), fun σ' H' p' => ⟨xs.length - (i + 1), by omega, rfl, hlt, p'⟩, fun x H' y => ?_⟩
    obtain ⟨e, y⟩ := y
    subst e
    exact hs i x σ _ (y xs q) p
  · have e : i = xs.length := by omega
    subst e
    exact .inl ⟨⟨xs, q, Nat.le_refl _⟩, hd σ H p⟩
theorem for_range {lo : Int} {n : Nat} {g : TG} {tb : TS} {D : Ends} {σ : St} {H : Hp} (Pv : Nat → St → Hp → Prop) (h0 : Pv 0 σ H)
    (hs : ∀ i σ H, i < n → Pv i σ H → g (.int (lo + i)) σ H fun σ2 H2 => tb { D with nx := Pv (i + 1), ct := Pv (i + 1), bk := D.nx } σ2 H2) (hd : ∀ σ H, Pv n σ H → D.nx σ H) :
    ∃ W : Nat → Nat → St → Hp → Prop, (∃ m, W 0 m σ H) ∧ ∀ i m σ H, W i m σ H →
      ((Itr lo n).stop i H ∧ D.nx σ H) ∨ ((Itr lo n).go i H ∧ ∃ N : St → Hp → Prop, (∀ σ' H', N σ' H' → ∃ m', m' < m ∧ W (i + 1) m' σ' H') ∧ ∀ x H', (Itr lo n).yld i H x H' → g x σ H' fun σ2 H2 => tb { D with nx := N, ct := N, bk := D.nx } σ2 H2) := by
  refine ⟨fun i m σ H => m = n - i ∧ i ≤ n ∧ Pv i σ H, ⟨n, by simp, Nat.zero_le _, h0⟩, ?_⟩
  rintro i m σ H ⟨rfl, hi, p⟩
  by_cases hlt : i < n
  · refine .inr ⟨hlt, Pv (i + 1), fun σ' H' p' => ⟨n - (i + 1), by omega, rfl, hlt, p'⟩, fun x H' y => ?_⟩
    obtain ⟨e, y⟩ := y
    subst e y
    exact hs i σ _ hlt p
  · have e : i = n := by omega
    subst e
    exact .inl ⟨Nat.le_refl _, hd σ H p⟩
end L2
namespace L2
open PySem PySem.Spec PyProof.Rows
noncomputable abbrev R2 := V → V → Hp → VK → Prop
noncomputable def OpR (X : Cx) (f : Value → Value → Sem Value) (r : R2) : Prop :=
  ∀ (pins : List (Addr × Obj)) (s : Shared) (σ : St) (H : Hp) (x y : V) (v u : Value) (Q : VK), Inv X pins σ H s → RelV x v → RelV y u → r x y H Q →
    wpAny (model X.prog X.w) X.A (f v u) (EP X pins σ Q) X.xe s
noncomputable def UnR (X : Cx) (f : Value → Sem Value) (r : V → Hp → VK → Prop) : Prop :=
  ∀ (pins : List (Addr × Obj)) (s : Shared) (σ : St) (H : Hp) (x : V) (v : Value) (Q : VK), Inv X pins σ H s → RelV x v → r x H Q →
    wpAny (model X.prog X.w) X.A (f v) (EP X pins σ Q) X.xe s
noncomputable def CallR (X : Cx) (f : Value) (r : List V → Hp → VK → Prop) : Prop :=
  ∀ (pins : List (Addr × Obj)) (s : Shared) (σ : St) (H : Hp) (xs : List V) (us : List Value) (Q : VK), Inv X pins σ H s → Vals xs us → r xs H Q →
    wpAny (model X.prog X.w) X.A (call f us) (EP X pins σ Q) X.xe s
noncomputable def tOp (r : R2) (ta tb : TE) : TE := fun σ H Q => ta σ H fun x H1 => tb σ H1 fun y H2 => r x y H2 Q
noncomputable def tUn (r : V → Hp → VK → Prop) (ta : TE) : TE := fun σ H Q => ta σ H fun x H1 => r x H1 Q
noncomputable def rI (C : Int → Int → Prop) (g : Int → Int → V) : R2 := fun x y H Q => ∃ i j, x = .int i ∧ y = .int j ∧ C i j ∧ Q (g i j) H
noncomputable def rI0 (g : Int → Int → V) : R2 := fun x y H Q => ∃ i j, x = .int i ∧ y = .int j ∧ Q (g i j) H
noncomputable def rU (g : Int → V) : V → Hp → VK → Prop := fun x H Q => ∃ i, x = .int i ∧ Q (g i) H
section
variable {X : Cx} {a b c : Expr} {ta tb tc : TE} {pos : Pos}
theorem binT (ha : PE X a ta) (hb : PE X b tb) {pins : List (Addr × Obj)} {s : Shared} {σ : St} {H : Hp} {R : V → V → Hp → Prop} (I : Inv X pins σ H s)
    (h : ta σ H fun x H1 => tb σ H1 fun y H2 => R x y H2) {Q : Value → Shared → Prop} {f : Value → Value → Sem Value}
    (hf : ∀ v u s2 x y H2, Inv X pins σ H2 s2 → RelV x v → RelV y u → R x y H2 → wpAny (model X.prog X.w) X.A (f v u) Q X.xe s2) :
    wpAny (model X.prog X.w) X.A (eval a X.env) (fun v s₁ => wpAny (model X.prog X.w) X.A (eval b X.env) (fun u s₂ => wpAny (model X.prog X.w) X.A (f v u) Q X.xe s₂) X.xe s₁) X.xe s := by
  refine thn (ha pins s σ H _ I h) fun v s1 ⟨x, H1, I1, r1, q1⟩ => ?_
  refine thn (hb pins s1 σ H1 _ I1 q1) fun u s2 ⟨y, H2, I2, r2, q2⟩ => ?_
  exact hf v u s2 x y H2 I2 r1 r2 q2
theorem pe_op {op : Operator} {r : R2} (ho : OpR X (binaryOp op) r) (ha : PE X a ta) (hb : PE X b tb) : PE X (.BinOp a op b pos) (tOp r ta tb) := by
  intro pins s σ H Q I h
  exact wpAny_BinOp (binT ha hb I h fun v u s2 x y H2 I2 rx ry q => ho pins s2 σ H2 x y v u Q I2 rx ry q)
theorem pe_un {op : UnaryOp} {r : V → Hp → VK → Prop} (ho : UnR X (unaryOp op) r) (ha : PE X a ta) : PE X (.UnaryOp op a pos) (tUn r ta) := by
  intro pins s σ H Q I h
  exact UnaryOp_ (thn (ha pins s σ H _ I h) fun v s1 ⟨x, H1, I1, r1, q1⟩ => ho pins s1 σ H1 x v Q I1 r1 q1)
theorem opI {f : Value → Value → Sem Value} {C : Int → Int → Prop} {g : Int → Int → Int}
    (rule : ∀ (i j : Int) (t u : Tok) (s : Shared) (Q : Value → Shared → Prop) (E : Value → Shared → Prop), C i j → Q (.int (g i j) s.toks) { s with toks := s.toks + 1 } → wpAny (model X.prog X.w) X.A (f (.int i t) (.int j u)) Q E s) :
    OpR X f (rI C fun i j => .int (g i j)) := by
  intro pins s σ H x y v u Q I rx ry h
  obtain ⟨i, j, rfl, rfl, hc, q⟩ := h
  obtain ⟨t, rfl⟩ := rx
  obtain ⟨t', rfl⟩ := ry
  exact rule i j t t' s _ _ hc ⟨.int (g i j), H, I.tok _, ⟨_, rfl⟩, q⟩
theorem opI0 {f : Value → Value → Sem Value} {g : Int → Int → Int}
    (rule : ∀ (i j : Int) (t u : Tok) (s : Shared) (Q : Value → Shared → Prop) (E : Value → Shared → Prop), Q (.int (g i j) s.toks) { s with toks := s.toks + 1 } → wpAny (model X.prog X.w) X.A (f (.int i t) (.int j u)) Q E s) :
    OpR X f (rI0 fun i j => .int (g i j)) := by
  intro pins s σ H x y v u Q I rx ry h
  obtain ⟨i, j, rfl, rfl, q⟩ := h
  obtain ⟨t, rfl⟩ := rx
  obtain ⟨t', rfl⟩ := ry
  exact rule i j t t' s _ _ ⟨.int (g i j), H, I.tok _, ⟨_, rfl⟩, q⟩
theorem opB0 {f : Value → Value → Sem Value} {g : Int → Int → Bool}
    (rule : ∀ (i j : Int) (t u : Tok) (s : Shared) (Q : Value → Shared → Prop) (E : Value → Shared → Prop), Q (.bool (g i j)) s → wpAny (model X.prog X.w) X.A (f (.int i t) (.int j u)) Q E s) :
    OpR X f (rI0 fun i j => .bl (g i j)) := by
  intro pins s σ H x y v u Q I rx ry h
  obtain ⟨i, j, rfl, rfl, q⟩ := h
  obtain ⟨t, rfl⟩ := rx
  obtain ⟨t', rfl⟩ := ry
  exact rule i j t t' s _ _ ⟨.bl (g i j), H, I, rfl, q⟩
noncomputable def CDiv (i j : Int) : Prop := 0 < j ∧ j < 1073741824
noncomputable def CPow (i j : Int) : Prop := 0 ≤ j ∧ j ≤ 1000000 ∧ i.natAbs < 2 ^ 64
noncomputable def CMul (i j : Int) : Prop := (-(2 ^ 64) < i ∧ i < 2 ^ 64) ∨ (-(2 ^ 64) < j ∧ j < 2 ^ 64)
theorem CMul.ok {i j : Int} (h : CMul i j) : IntMulOk i j := by
  rcases h with ⟨h1, h2⟩ | ⟨h1, h2⟩
  · exact .of_left (intBits_le_64 h1 h2)
  · exact .of_right (intBits_le_64 h1 h2)
theorem op_add : OpR X (binaryOp .Add) (rI0 fun i j => .int (i + j)) := opI0 fun _ _ _ _ _ _ _ q => add_int q
theorem op_mul : OpR X (binaryOp .Mult) (rI CMul fun i j => .int (i * j)) := opI fun _ _ _ _ _ _ _ hc q => mul_int q hc.ok
theorem op_fdiv : OpR X (binaryOp .FloorDiv) (rI CDiv fun i j => .int (i / j)) := opI fun i j _ _ _ _ _ hc q => by
  have h1 : (0 : Int) < j := hc.1
  have h2 : j < 1073741824 := hc.2
  exact floordiv_int (by omega) (by rw [Int.fdiv_eq_ediv_of_nonneg i (by omega)]; exact q) (.inl (PyProof.noPylong_small (by omega)))
theorem op_mod : OpR X (binaryOp .Mod) (rI (fun _ j => 0 < j) fun i j => .int (i % j)) := opI fun i j _ _ _ _ _ hc q => by
  have h1 : (0 : Int) < j := hc
  exact mod_int' (by omega) (by rw [Int.fmod_eq_emod_of_nonneg i (by omega)]; exact q)
theorem op_pow : OpR X (binaryOp .Pow) (rI CPow fun i j => .int (i ^ j.toNat)) := opI fun _ _ _ _ _ _ _ hc q => pow_int_small hc.1 hc.2.1 hc.2.2 q
theorem unI {f : Value → Sem Value} {g : Int → Int}
    (rule : ∀ (i : Int) (t : Tok) (s : Shared) (Q : Value → Shared → Prop) (E : Value → Shared → Prop), Q (.int (g i) s.toks) { s with toks := s.toks + 1 } → wpAny (model X.prog X.w) X.A (f (.int i t)) Q E s) :
    UnR X f (rU fun i => .int (g i)) := by
  intro pins s σ H x v Q I rx h
  obtain ⟨i, rfl, q⟩ := h
  obtain ⟨t, rfl⟩ := rx
  exact rule i t s _ _ ⟨.int (g i), H, I.tok _, ⟨_, rfl⟩, q⟩
theorem un_neg : UnR X (unaryOp .USub) (rU fun i => .int (-i)) := unI fun _ _ _ _ _ q => neg_int q
end
noncomputable def scal : V → V → Bool
  | .non, .non => true | .non, .int _ => true | .int _, .non => true | .non, .bl _ => true | .bl _, .non => true | .non, .str _ => true | .str _, .non => true
  | .int _, .int _ => true | .bl _, .bl _ => true | .str _, .str _ => true | .byt _, .byt _ => true
  | .int _, .str _ => true | .str _, .int _ => true | .bl _, .str _ => true | .str _, .bl _ => true
  | _, _ => false
noncomputable def rEq : R2 := fun x y H Q => scal x y = true ∧ Q (.bl (decide (x = y))) H
noncomputable def rNe : R2 := fun x y H Q => scal x y = true ∧ Q (.bl (!decide (x = y))) H
theorem dec_int {i j : Int} : decide (V.int i = V.int j) = (i == j) := by
  rw [Bool.eq_iff_iff]
  simp
theorem dec_bl {i j : Bool} : decide (V.bl i = V.bl j) = (i == j) := by
  rw [Bool.eq_iff_iff]
  simp
theorem dec_str {i j : Str} : decide (V.str i = V.str j) = (i == j) := by
  rw [Bool.eq_iff_iff]
  simp
theorem dec_byt {i j : Array UInt8} : decide (V.byt i = V.byt j) = (i.toList == j.toList) := by
  rw [Bool.eq_iff_iff]
  cases i
  cases j
  simp
section
variable {X : Cx} {a b c : Expr} {ta tb tc : TE} {pos : Pos}
theorem fin_bl {pins : List (Addr × Obj)} {σ : St} {H : Hp} {s : Shared} {Q : VK} {k k' : Bool} (I : Inv X pins σ H s) (q : Q (.bl k) H) (e : k = k') : EP X pins σ Q (.bool k') s := by
  subst e
  exact ⟨.bl k, H, I, rfl, q⟩
theorem op_eq : OpR X (compareOp .Eq) rEq := by
  intro pins s σ H x y v u Q I rx ry h
  obtain ⟨hs, q⟩ := h
  cases x with
  | non =>
    cases rx
    cases y with
    | non => cases ry; exact PySem.EqNone.eq_none_none (fin_bl I q (by simp))
    | bl j => cases ry; exact PySem.EqNone.eq_none_bool (fin_bl I q (by simp))
    | int j => obtain ⟨t', rfl⟩ := ry; exact PySem.EqNone.eq_none_int (fin_bl I q (by simp))
    | str j => obtain ⟨t', rfl⟩ := ry; exact PySem.EqNone.eq_none_str (fin_bl I q (by simp))
    | _ => exact absurd (show false = true from hs) Bool.false_ne_true
  | bl i =>
    cases rx
    cases y with
    | non => cases ry; exact PySem.EqNone.eq_bool_none (fin_bl I q (by simp))
    | bl j => cases ry; exact eq_bool (fin_bl I q dec_bl)
    | str j => obtain ⟨t', rfl⟩ := ry; exact PySem.EqMixed.eq_bool_str (fin_bl I q (by simp))
    | _ => exact absurd (show false = true from hs) Bool.false_ne_true
  | int i =>
    obtain ⟨t, rfl⟩ := rx
    cases y with
    | non => cases ry; exact PySem.EqNone.eq_int_none (fin_bl I q (by simp))
    | int j => obtain ⟨t', rfl⟩ := ry; exact eq_int (fin_bl I q dec_int)
    | str j => obtain ⟨t', rfl⟩ := ry; exact PySem.EqMixed.eq_int_str (fin_bl I q (by simp))
    | _ => exact absurd (show false = true from hs) Bool.false_ne_true
  | str i =>
    obtain ⟨t, rfl⟩ := rx
    cases y with
    | non => cases ry; exact PySem.EqNone.eq_str_none (fin_bl I q (by simp))
    | bl j => cases ry; exact PySem.EqMixed.eq_str_bool (fin_bl I q (by simp))
    | int j => obtain ⟨t', rfl⟩ := ry; exact PySem.EqMixed.eq_str_int (fin_bl I q (by simp))
    | str j => obtain ⟨t', rfl⟩ := ry; exact eq_str (fin_bl I q dec_str)
    | _ => exact absurd (show false = true from hs) Bool.false_ne_true
  | byt i =>
    obtain ⟨t, rfl⟩ := rx
    cases y with
    | byt j => obtain ⟨t', rfl⟩ := ry; exact PySem.W.eq_bytes (fin_bl I q dec_byt)
    | _ => exact absurd (show false = true from hs) Bool.false_ne_true
  | _ => cases y <;> exact absurd (show false = true from hs) Bool.false_ne_true
theorem op_ne : OpR X (compareOp .NotEq) rNe := by
  intro pins s σ H x y v u Q I rx ry h
  obtain ⟨hs, q⟩ := h
  cases x with
  | non =>
    cases rx
    cases y with
    | non => cases ry; exact PySem.EqNone.ne_none_none (fin_bl I q (by simp))
    | bl j => cases ry; exact PySem.EqNone.ne_none_bool (fin_bl I q (by simp))
    | int j => obtain ⟨t', rfl⟩ := ry; exact PySem.EqNone.ne_none_int (fin_bl I q (by simp))
    | str j => obtain ⟨t', rfl⟩ := ry; exact PySem.EqNone.ne_none_str (fin_bl I q (by simp))
    | _ => exact absurd (show false = true from hs) Bool.false_ne_true
  | bl i =>
    cases rx
    cases y with
    | non => cases ry; exact PySem.EqNone.ne_bool_none (fin_bl I q (by simp))
    | bl j => cases ry; exact ne_bool (fin_bl I q (congrArg not dec_bl))
    | str j => obtain ⟨t', rfl⟩ := ry; exact PySem.EqMixed.ne_bool_str (fin_bl I q (by simp))
    | _ => exact absurd (show false = true from hs) Bool.false_ne_true
  | int i =>
    obtain ⟨t, rfl⟩ := rx
    cases y with
    | non => cases ry; exact PySem.EqNone.ne_int_none (fin_bl I q (by simp))
    | int j => obtain ⟨t', rfl⟩ := ry; exact ne_int (fin_bl I q (congrArg not dec_int))
    | str j => obtain ⟨t', rfl⟩ := ry; exact PySem.EqMixed.ne_int_str (fin_bl I q (by simp))
    | _ => exact absurd (show false = true from hs) Bool.false_ne_true
  | str i =>
    obtain ⟨t, rfl⟩ := rx
    cases y with
    | non => cases ry; exact PySem.EqNone.ne_str_none (fin_bl I q (by simp))
    | bl j => cases ry; exact PySem.EqMixed.ne_str_bool (fin_bl I q (by simp))
    | int j => obtain ⟨t', rfl⟩ := ry; exact PySem.EqMixed.ne_str_int (fin_bl I q (by simp))
    | str j => obtain ⟨t', rfl⟩ := ry; exact ne_str (fin_bl I q (congrArg not dec_str))
    | _ => exact absurd (show false = true from hs) Bool.false_ne_true
  | byt i =>
    obtain ⟨t, rfl⟩ := rx
    cases y with
    | byt j => obtain ⟨t', rfl⟩ := ry; exact PySem.W.ne_bytes (fin_bl I q (congrArg not dec_byt))
    | _ => exact absurd (show false = true from hs) Bool.false_ne_true
  | _ => cases y <;> exact absurd (show false = true from hs) Bool.false_ne_true
theorem op_le : OpR X (compareOp .LtE) (rI0 fun i j => .bl (decide (i ≤ j))) := opB0 fun _ _ _ _ _ _ _ q => le_int q
theorem op_gt : OpR X (compareOp .Gt) (rI0 fun i j => .bl (decide (j < i))) := opB0 fun _ _ _ _ _ _ _ q => gt_int q
theorem op_ge : OpR X (compareOp .GtE) (rI0 fun i j => .bl (decide (j ≤ i))) := opB0 fun _ _ _ _ _ _ _ q => ge_int q
theorem op_in_str : OpR X (compareOp .In) (fun x y H Q => ∃ i j, x = .str i ∧ y = .str j ∧ Q (.bl (!(Builtin.Str.occurrences j i 0 j.length 1).isEmpty)) H) := by
  intro pins s σ H x y v u Q I rx ry h
  obtain ⟨i, j, rfl, rfl, q⟩ := h
  obtain ⟨t, rfl⟩ := rx
  obtain ⟨t', rfl⟩ := ry
  exact in_str (fin_bl I q rfl)
theorem op_isN : OpR X (compareOp .Is) (fun x y H Q => y = .non ∧ Q (.bl (decide (x = .non))) H) := by
  intro pins s σ H x y v u Q I rx ry h
  obtain ⟨rfl, q⟩ := h
  cases ry
  refine is_none_gen (fin_bl I q ?_)
  cases x <;> first
    | (cases rx; rfl)
    | (obtain ⟨t, rfl⟩ := rx; rfl)
theorem op_notN : OpR X (compareOp .IsNot) (fun x y H Q => y = .non ∧ Q (.bl (!decide (x = .non))) H) := by
  intro pins s σ H x y v u Q I rx ry h
  obtain ⟨rfl, q⟩ := h
  cases ry
  refine isnot_none_gen (fin_bl I q ?_)
  cases x <;> first
    | (cases rx; rfl)
    | (obtain ⟨t, rfl⟩ := rx; rfl)
theorem nomark (b : Expr) {op : CmpOp} (h : op ≠ .In := by decide) (h2 : op ≠ .NotIn := by decide) : behindInMarks op b = false := by
  have e1 : (op == CmpOp.In) = false := by cases op <;> first | rfl | exact absurd rfl h
  have e2 : (op == CmpOp.NotIn) = false := by cases op <;> first | rfl | exact absurd rfl h2
  cases b <;> simp [behindInMarks, e1, e2]
theorem pe_cmpR {op : CmpOp} {r : R2} (ho : OpR X (compareOp op) r) (ha : PE X a ta) (hb : PE X b tb) (hm : behindInMarks op b = false) : PE X (.Compare a [op] [b] pos) (tOp r ta tb) := by
  intro pins s σ H Q I h
  exact wpAny_Compare1 (binT ha hb I h fun v u s2 x y H2 I2 rx ry q => ho pins s2 σ H2 x y v u Q I2 rx ry q) hm
noncomputable def tTest (t : TE) : TT := fun σ H Q => t σ H fun x H' => ∃ k, x = .bl k ∧ Q k H'
theorem pt_cmpR {op : CmpOp} {r : R2} (ho : OpR X (compareOp op) r) (ha : PE X a ta) (hb : PE X b tb) (hm : behindInMarks op b = false) : PT X (.Compare a [op] [b] pos) (tTest (tOp r ta tb)) := by
  intro pins s σ H Q I h
  refine wpAny_isTrue_Compare1 (thn (ha pins s σ H _ I h) fun v s1 ⟨x, H1, I1, r1, q1⟩ => thn (hb pins s1 σ H1 _ I1 q1) fun u s2 ⟨y, H2, I2, r2, q2⟩ =>
    thn (ho pins s2 σ H2 x y v u _ I2 r1 r2 q2) fun c s3 ⟨z, H3, I3, r3, k, e, q3⟩ => ?_) hm
  subst e
  cases r3
  exact wpAny_truthy_bool ⟨H3, I3, q3⟩
noncomputable def tChain (r r' : R2) (ta tb tc : TE) : TE := fun σ H Q => ta σ H fun x H1 => tb σ H1 fun y H2 => r x y H2 fun z H3 => ∃ k, z = .bl k ∧
  (if k = true then tc σ H3 fun w' H4 => r' y w' H4 Q else Q (.bl false) H3)
theorem pe_chain {op op' : CmpOp} {r r' : R2} (ho : OpR X (compareOp op) r) (ho' : OpR X (compareOp op') r') (ha : PE X a ta) (hb : PE X b tb) (hc : PE X c tc)
    (hm : lastMarks [op, op'] [b, c] = false := by with_unfolding_all rfl) : PE X (.Compare a [op, op'] [b, c] pos) (tChain r r' ta tb tc) := by
  intro pins s σ H Q I h
  refine Compare_chain (thn (ha pins s σ H _ I h) fun v s1 ⟨x, H1, I1, r1, q1⟩ => chain_link (thn (hb pins s1 σ H1 _ I1 q1) fun u s2 ⟨y, H2, I2, r2, q2⟩ =>
    thn (ho pins s2 σ H2 x y v u _ I2 r1 r2 q2) fun d s3 ⟨z, H3, I3, r3, k, e, q3⟩ => ?_)) hm
  subst e
  cases r3
  refine wpAny_truthy_bool ?_
  cases k with
  | false => exact ite_ff ⟨.bl false, H3, I3, rfl, q3⟩
  | true => exact ite_tt (chain_last (thn (hc pins s3 σ H3 _ I3 q3) fun w' s4 ⟨z', H4, I4, r4, q4⟩ => ho' pins s4 σ H4 y z' u w' Q I4 r2 r4 q4))
theorem pt_chain {op op' : CmpOp} {r r' : R2} (ho : OpR X (compareOp op) r) (ho' : OpR X (compareOp op') r') (ha : PE X a ta) (hb : PE X b tb) (hc : PE X c tc)
    (hm : lastMarks [op, op'] [b, c] = false := by with_unfolding_all rfl) : PT X (.Compare a [op, op'] [b, c] pos) (tTest (tChain r r' ta tb tc)) := by
  intro pins s σ H Q I h
  refine isTrue_chain (thn (ha pins s σ H _ I h) fun v s1 ⟨x, H1, I1, r1, q1⟩ => test_link (thn (hb pins s1 σ H1 _ I1 q1) fun u s2 ⟨y, H2, I2, r2, q2⟩ =>
    thn (ho pins s2 σ H2 x y v u _ I2 r1 r2 q2) fun d s3 ⟨z, H3, I3, r3, k, e, q3⟩ => ?_)) hm
  subst e
  cases r3
  refine wpAny_truthy_bool ?_
  cases k with
  | false =>
    obtain ⟨k', e', q'⟩ := q3
    cases e'
    exact ite_ff ⟨H3, I3, q'⟩
  | true =>
    refine ite_tt (test_last (thn (hc pins s3 σ H3 _ I3 q3) fun w' s4 ⟨z', H4, I4, r4, q4⟩ => thn (ho' pins s4 σ H4 y z' u w' _ I4 r2 r4 q4) fun d' s5 ⟨z2, H5, I5, r5, k2, e2, q5⟩ => ?_))
    subst e2
    cases r5
    exact wpAny_truthy_bool ⟨H5, I5, q5⟩
theorem line63 : (sizeLine : Nat) < 2 ^ 63 := by rw [sizeLine_eq]; decide
theorem vals1 {x : V} {us : List Value} (r : Vals [x] us) : ∃ u, us = [u] ∧ RelV x u := by
  cases r with
  | cons r1 r2 => cases r2; exact ⟨_, rfl, r1⟩
theorem vals2 {x y : V} {us : List Value} (r : Vals [x, y] us) : ∃ u w', us = [u, w'] ∧ RelV x u ∧ RelV y w' := by
  cases r with
  | cons r1 r2 =>
    cases r2 with
    | cons r3 r4 => cases r4; exact ⟨_, _, rfl, r1, r3⟩
theorem call_max2 (hc : X.calm = true) : CallR X (.builtin "max") (fun xs H Q => ∃ i j, xs = [.int i, .int j] ∧ Q (.int (if j > i then j else i)) H) := by
  intro pins s σ H xs us Q I r h
  obtain ⟨i, j, rfl, q⟩ := h
  obtain ⟨u, w', rfl, ⟨t, rfl⟩, ⟨t', rfl⟩⟩ := vals2 r
  refine max_two_ints (I.ok.hd hc) fun h' tk k => ⟨_, H, I.kept k, ?_, q⟩
  by_cases hj : j > i
  · rw [if_pos hj, if_pos hj]; exact ⟨_, rfl⟩
  · rw [if_neg hj, if_neg hj]; exact ⟨_, rfl⟩
theorem call_min2 (hc : X.calm = true) : CallR X (.builtin "min") (fun xs H Q => ∃ i j, xs = [.int i, .int j] ∧ Q (.int (if j < i then j else i)) H) := by
  intro pins s σ H xs us Q I r h
  obtain ⟨i, j, rfl, q⟩ := h
  obtain ⟨u, w', rfl, ⟨t, rfl⟩, ⟨t', rfl⟩⟩ := vals2 r
  refine min_two_ints (I.ok.hd hc) fun h' tk k => ⟨_, H, I.kept k, ?_, q⟩
  by_cases hj : j < i
  · rw [if_pos hj, if_pos hj]; exact ⟨_, rfl⟩
  · rw [if_neg hj, if_neg hj]; exact ⟨_, rfl⟩
theorem call_int1 : CallR X (.type "int") (fun xs H Q => (∃ i, xs = [.int i] ∧ Q (.int i) H) ∨ ∃ k, xs = [.bl k] ∧ Q (.int (if k then 1 else 0)) H) := by
  intro pins s σ H xs us Q I r h
  rcases h with ⟨i, rfl, q⟩ | ⟨k, rfl, q⟩
  · obtain ⟨u, rfl, t, rfl⟩ := vals1 r
    exact call_int_int ⟨.int i, H, I, ⟨_, rfl⟩, q⟩
  · obtain ⟨u, rfl, r1⟩ := vals1 r
    cases r1
    exact call_int_bool ⟨.int (if k then 1 else 0), H, I.tok _, ⟨_, rfl⟩, q⟩
noncomputable def LenV (K : PySem.W.Frag) (x : V) (H : Hp) (n : Nat) : Prop :=
  match x with
  | .str y => y.length ≤ sizeLine ∧ n = y.length
  | .byt y => y.size ≤ sizeLine ∧ n = y.size
  | .ref p => (∃ xs, SqL K H p xs ∧ n = xs.length) ∨ ∃ xs, SqT K H p xs ∧ n = xs.length
  | _ => False
theorem call_len : CallR X (.builtin "len") (fun xs H Q => ∃ x n, xs = [x] ∧ LenV X.K x H n ∧ Q (.int n) H) := by
  intro pins s σ H xs us Q I r h
  obtain ⟨x, n, rfl, e, q⟩ := h
  obtain ⟨u, rfl, rx⟩ := vals1 r
  have hl := line63
  have hs : sizeLine = 16777216 := sizeLine_eq
  cases x with
  | str y =>
    obtain ⟨t, rfl⟩ := rx
    obtain ⟨hy, e'⟩ : y.length ≤ sizeLine ∧ n = y.length := e
    subst e'
    exact len_str (by omega) ⟨.int _, H, I.tok _, ⟨_, rfl⟩, q⟩
  | byt y =>
    obtain ⟨t, rfl⟩ := rx
    obtain ⟨hy, e'⟩ : y.size ≤ sizeLine ∧ n = y.size := e
    subst e'
    exact PySem.W.len_bytes (by omega) ⟨.int _, H, I.tok _, ⟨_, rfl⟩, q⟩
  | ref p =>
    cases rx
    have e' : (∃ xs, SqL X.K H p xs ∧ n = xs.length) ∨ ∃ xs, SqT X.K H p xs ∧ n = xs.length := e
    rcases e' with ⟨xs, hx, e'⟩ | ⟨xs, hx, e'⟩
    · subst e'
      obtain ⟨its, r', pl, hz⟩ := I.list hx
      have hlen := r'.length
      exact Calls.call_len_list pl.isList (by simp only [List.size_toArray]; omega) ⟨.int xs.length, H, I.tok _, ⟨_, by simp only [List.size_toArray]; rw [hlen]⟩, q⟩
    · subst e'
      obtain ⟨its, r', pl, hz⟩ := I.tuple hx
      have hlen := r'.length
      exact len_tuple pl (by simp only [List.size_toArray]; omega) ⟨.int xs.length, H, I.tok _, ⟨_, by simp only [List.size_toArray]; rw [hlen]⟩, q⟩
  | _ => exact (show False from e).elim
end
end L2
namespace L2
open PySem PySem.Spec PyProof.Rows
structure ObjM (h : Heap) (x dx C : Addr) (mA : Str → Option Value) : Prop where
  obj : h.get? x = some (PySem.W.instObj C dx)
  ns : h.Ns1 dx mA
  ne : dx ≠ x
theorem lookIn_ns {h : Heap} {dx : Addr} {mA : Str → Option Value} (n : h.Ns1 dx mA) : ∃ od, h.get? dx = some od ∧ ∀ name, PySem.W.lookIn name od = some (mA name) := by
  obtain ⟨o, es, ep, ho, hd, hk, _, hm⟩ := n
  refine ⟨o, ho, fun name => ?_⟩
  have e := hm name
  unfold nsFind findBy at e
  rw [← Array.find?_toList] at e
  unfold PySem.W.lookIn
  rw [hd]
  dsimp only
  split
  · rename_i y q
    rw [q] at e
    exact congrArg some e
  · rename_i q
    rw [q] at e
    have a : es.toList.any (·.refKey) = false := by
      rw [List.any_eq_false]
      intro y hy
      obtain ⟨z, t, hkey⟩ := hk y (Array.mem_toList_iff.mp hy)
      simp [DictEntry.refKey, hkey]
    have a' : ¬ es.toList.any (·.refKey) = true := by rw [a]; exact Bool.false_ne_true
    rw [if_neg a']
    exact congrArg some e
theorem ObjM.look {h : Heap} {x dx C : Addr} {mA : Str → Option Value} (I : ObjM h x dx C mA) : ∃ od, PySem.W.InstAt h x (PySem.W.instObj C dx) C (some od) ∧ ∀ name, PySem.W.lookIn name od = some (mA name) :=
  let ⟨od, ho, hl⟩ := lookIn_ns I.ns
  ⟨od, ⟨I.obj, rfl, rfl, ho⟩, hl⟩
section
variable {prog : Program} {w : World} {A : Around} {E : Value → Shared → Prop} {s : Shared} {K : PySem.W.Frag} {x dx C f : Addr} {mA : Str → Option Value} {name : Str} {v : Value}
theorem get_map {expr : Bool} {Q : Value → Shared → Prop} (X : K.In s.heap) (I : ObjM s.heap x dx C mA) (hg : PySem.W.plainGet K C name = true) (hh : PySem.W.hasDictIn K C = true)
    (ha : PySem.W.findIn K (.ref C) name = some none) (hv : mA name = some v) (hv' : PySem.W.handedIn v = true) (h : Q v { s with toks := s.toks + 1 }) :
    wpAny (model prog w) A (getAttr (.ref x) name expr) Q E s := by
  obtain ⟨od, J, hl⟩ := I.look
  exact PySem.W.get_value X J (PySem.W.plainGet_of hg).1 (PySem.W.findObj_own hh ha rfl (by rw [hl, hv])) hv' h
theorem get_meth {pl : Sem Bool} {Q : Value × List Value → Shared → Prop} (X : K.In s.heap) (I : ObjM s.heap x dx C mA) (hg : PySem.W.plainGet K C name = true)
    (hf : PySem.W.findIn K (.ref C) name = some (some (.ref f))) (ht : PySem.W.isFn K (.ref f) = true) (hv : mA name = none) (h : Q (.ref f, [.ref x]) s) :
    wpAny (model prog w) A (getMethod (.ref x) name pl) Q E s := by
  obtain ⟨od, J, hl⟩ := I.look
  exact PySem.W.method_fn X J (PySem.W.plainGet_of hg).1 (PySem.W.plainGet_of hg).2 hf (beq_iff_eq.mp ht) (by show (PySem.W.lookIn name od).map (·.isSome) = some false; rw [hl, hv]; rfl) h
theorem set_map {ns : List Str} {Q : Unit → Shared → Prop} (X : K.In s.heap) (I : ObjM s.heap x dx C mA)
    (hs : PySem.W.findIn K (.ref C) "__setattr__" = some (some (.builtin "object.__setattr__"))) (hp : PySem.W.plainOver K C = true) (ht : PySem.W.takerIn K C name = some none) (hh : PySem.W.hasDictIn K C = true)
    (hw : PySem.Within mA ns) (hsz : ns.length ≤ sizeLine)
    (h : ∀ h', ObjM h' x dx C (fun y => if y = name then some v else mA y) → Heap.SameBut dx s.heap h' → Q () { s with heap := h', toks := s.toks + 2 }) :
    wpAny (model prog w) A (setAttr (.ref x) name v) Q E s := by
  obtain ⟨od, J, hl⟩ := I.look
  refine PySem.W.set_plain X J hs (PySem.W.osa_open (s := { s with toks := s.toks + 1 }) (r := none) X J hp ht fun b => ?_)
  obtain ⟨cd, hc, hd'⟩ := PySem.W.any_some hh
  have hx : s.heap.get? x = some ⟨.ref C, some dx, .plain, #[]⟩ := I.obj
  refine wpAny_bind (wpAny_pure (wpAny_bind (wpAny_bind (wpAny_loadPart hx (wpAny_bind (PySem.W.Looks.here (s := { s with toks := s.toks + 1 }) (PySem.W.looks_clsIn X hc) ?_))))))
  rw [hd']
  refine wpAny_pure (a := some dx) (wpAny_bind (wpAny_pure (wpAny_bind ?_)))
  refine wpAny_nsSet1 (s := { s with toks := s.toks + 1 }) I.ns fun h' hn2 hs2 => ?_
  obtain ⟨oD, esD, epD, hoD, hdD, hcD⟩ := hn2.count (PySem.Within.cons name v hw)
  refine wpAny_bind (wpAny_lookBehind hoD (by rw [hdD]; exact pastItsLine_dict (Nat.le_trans hcD (by rw [List.length_cons]; omega))) ?_)
  exact wpAny_pure (h _ ⟨(hs2.2 _ (Ne.symm I.ne)).trans I.obj, hn2, I.ne⟩ hs2)
theorem make_map {R : Result → Shared → Prop} {vs : List Value} {kw : List (Str × Value)} (X : K.In s.heap) (hm : PySem.W.makesIn K C = true)
    (hi : PySem.W.findIn K (.ref C) "__init__" = some (some (.ref f))) (hf : PySem.W.typeIn K (.ref f) = some (.type "function"))
    (h : codeAny (model prog w) (A.under (.builtin "type.__call__" ⟨.ref C :: vs, kw⟩)) (.call (.ref f) ⟨.ref (s.heap.objs.size + 1) :: vs, kw⟩) (PySem.W.InitBack (s.heap.objs.size + 1) R)
      { s with heap := (s.heap.push PySem.W.emptyDict).push (PySem.W.instObj C s.heap.objs.size) }) :
    codeAny (model prog w) A (.call (.ref C) ⟨vs, kw⟩) R s := by
  obtain ⟨hh, g, d, t, os⟩ := s
  exact PySem.W.make_core (PySem.W.makes_of X hm) (PySem.W.looks_findIn X hi) (fun self => PySem.W.bind_fn X self hf) (.inl rfl) h
end
noncomputable def putF (f : Str) (v : V) : List (Str × V) → List (Str × V)
  | [] => [(f, v)]
  | (g, x) :: r => if g = f then (g, v) :: r else (g, x) :: putF f v r
theorem lookup_putF (f g : Str) (v : V) : ∀ fs : List (Str × V), (putF f v fs).lookup g = if g = f then some v else fs.lookup g
  | [] => by
    show List.lookup g [(f, v)] = _
    by_cases h : g = f
    · have hb : (g == f) = true := beq_iff_eq.mpr h
      simp only [List.lookup, hb, if_pos h]
    · have hb : (g == f) = false := beq_eq_false_iff_ne.mpr h
      simp only [List.lookup, hb, if_neg h]
  | (k, x) :: r => by
    have ih := lookup_putF f g v r
    rw [show putF f v ((k, x) :: r) = (if k = f then (k, v) :: r else (k, x) :: putF f v r) from rfl]
    by_cases hk : k = f
    · rw [if_pos hk]
      by_cases h : g = k
      · have hb : (g == k) = true := beq_iff_eq.mpr h
        simp only [List.lookup, hb, if_pos (h.trans hk)]
      · have hb : (g == k) = false := beq_eq_false_iff_ne.mpr h
        simp only [List.lookup, hb, if_neg (fun e : g = f => h (e.trans hk.symm))]
    · rw [if_neg hk]
      by_cases h : g = k
      · have hb : (g == k) = true := beq_iff_eq.mpr h
        simp only [List.lookup, hb, if_neg (fun e : g = f => hk (h.symm.trans e))]
      · have hb : (g == k) = false := beq_eq_false_iff_ne.mpr h
        simp only [List.lookup, hb]
        exact ih
theorem keys_putF (f : Str) (v : V) : ∀ fs : List (Str × V), f ∈ (putF f v fs).map (·.1) ∧ ∀ g, g ∈ fs.map (·.1) → g ∈ (putF f v fs).map (·.1)
  | [] => ⟨by simp [putF], fun g h => by simp at h⟩
  | (k, x) :: r => by
    obtain ⟨i1, i2⟩ := keys_putF f v r
    rw [show putF f v ((k, x) :: r) = (if k = f then (k, v) :: r else (k, x) :: putF f v r) from rfl]
    by_cases hk : k = f
    · rw [if_pos hk]
      subst hk
      exact ⟨by simp, fun g h => by simpa using h⟩
    · rw [if_neg hk]
      refine ⟨?_, fun g h => ?_⟩
      · rw [List.map_cons]
        exact List.mem_cons_of_mem _ i1
      · rw [List.map_cons] at h ⊢
        rcases List.mem_cons.mp h with e | e
        · exact List.mem_cons.mpr (.inl e)
        · exact List.mem_cons_of_mem _ (i2 g e)
theorem length_putF (f : Str) (v : V) : ∀ fs : List (Str × V), (putF f v fs).length ≤ fs.length + 1
  | [] => by simp [putF]
  | (k, x) :: r => by
    have ih := length_putF f v r
    rw [show putF f v ((k, x) :: r) = (if k = f then (k, v) :: r else (k, x) :: putF f v r) from rfl]
    by_cases hk : k = f
    · rw [if_pos hk, List.length_cons, List.length_cons]; omega
    · rw [if_neg hk, List.length_cons, List.length_cons]; omega
theorem RelO.some_of {v : V} {o : Option Value} (r : RelO (some v) o) : ∃ u, o = some u ∧ RelV v u := by
  cases o with
  | none => exact (show False from r).elim
  | some u => exact ⟨u, rfl, r⟩
theorem RelO.none_of {o : Option Value} (r : RelO none o) : o = none := by
  cases o with
  | none => rfl
  | some u => exact (show False from r).elim
theorem handed_of {v : V} {u : Value} (r : RelV v u) : PySem.W.handedIn u = true := by
  cases v with
  | non => cases (show u = Value.none from r); rfl
  | bl b => cases (show u = Value.bool b from r); rfl
  | int i => obtain ⟨t, e⟩ := (show ∃ t, u = Value.int i t from r); cases e; rfl
  | str x => obtain ⟨t, e⟩ := (show ∃ t, u = Value.str x t from r); cases e; rfl
  | byt b => obtain ⟨t, e⟩ := (show ∃ t, u = Value.bytes b t from r); cases e; rfl
  | flt b => obtain ⟨t, e⟩ := (show ∃ t, u = Value.float b t from r); cases e; rfl
  | ref a => cases (show u = Value.ref a from r); rfl
  | ty n => cases (show u = Value.type n from r); rfl
section
variable {P : Program} {w : World} {H H' : Hp} {h h' : Heap} {a C dx : Addr} {fs fs' : List (Str × V)}
theorem ins_get (hok : HOk P w H h) (e : H a = some (.ins C dx fs)) : ∃ mA, ObjM h a dx C mA ∧ (∀ f, RelO (fs.lookup f) (mA f)) ∧ PySem.Within mA (fs.map (·.1)) ∧ fs.length ≤ 1000 ∧ H dx = some (.own a) := by
  obtain ⟨d, z, ne, ob, mA, n, r, q⟩ := (show ObjOk P w H h a (.ins C dx fs) from hok a _ e)
  exact ⟨mA, ⟨ob, n, ne⟩, r, q, z, d⟩
end
structure Cls (K : PySem.W.Frag) (C : Addr) : Prop where
  pg : PySem.W.plainGet K C Str.empty = true
  hd : PySem.W.hasDictIn K C = true
  po : PySem.W.plainOver K C = true
  sa : PySem.W.findIn K (.ref C) "__setattr__" = some (some (.builtin "object.__setattr__"))
theorem Cls.get {K : PySem.W.Frag} {C : Addr} (c : Cls K C) (f : Str) : PySem.W.plainGet K C f = true := c.pg
noncomputable def NoAttr (K : PySem.W.Frag) (C : Addr) (f : Str) : Prop := PySem.W.findIn K (.ref C) f = some none
theorem NoAttr.taker {K : PySem.W.Frag} {C : Addr} {f : Str} (n : NoAttr K C f) : PySem.W.takerIn K C f = some none := by
  unfold PySem.W.takerIn
  rw [show PySem.W.findIn K (.ref C) f = some none from n]
  rfl
structure Meth (K : PySem.W.Frag) (C : Addr) (m : Str) (f : Addr) : Prop where
  at_ : PySem.W.findIn K (.ref C) m = some (some (.ref f))
  fn : PySem.W.isFn K (.ref f) = true
  kp : PySem.W.keepIn K (.ref f) = true
section
variable {X : Cx} {pins : List (Addr × Obj)} {σ : St} {H : Hp} {s : Shared} {a C dx : Addr} {fs : List (Str × V)} {f : Str} {v : V} {A : Around} {E : Value → Shared → Prop}
theorem getattr_ok {b : Bool} {Q : Value → Shared → Prop} (I : Inv X pins σ H s) (e : H a = some (.ins C dx fs)) (c : Cls X.K C) (n : NoAttr X.K C f) (l : fs.lookup f = some v)
    (h : ∀ u s', Inv X pins σ H s' → RelV v u → Q u s') : wpAny (model X.prog X.w) A (getAttr (.ref a) f b) Q E s := by
  obtain ⟨mA, O, r, _, _, _⟩ := ins_get I.hok e
  obtain ⟨u, hu, ru⟩ := RelO.some_of (v := v) (o := mA f) (by rw [← l]; exact r f)
  exact get_map I.kIn O (c.get f) c.hd n hu (handed_of ru) (h u _ (I.tok _) ru)
theorem getmeth_ok {m : Str} {g : Addr} {pl : Sem Bool} {Q : Value × List Value → Shared → Prop} (I : Inv X pins σ H s) (e : H a = some (.ins C dx fs)) (c : Cls X.K C) (k : Meth X.K C m g) (l : fs.lookup m = none)
    (h : Q (.ref g, [.ref a]) s) : wpAny (model X.prog X.w) A (getMethod (.ref a) m pl) Q E s := by
  obtain ⟨mA, O, r, _, _, _⟩ := ins_get I.hok e
  have hn : mA m = none := RelO.none_of (by rw [← l]; exact r m)
  exact get_meth I.kIn O (c.get m) k.at_ k.fn hn h
theorem setattr_ok {y : V} {u : Value} {Q : Unit → Shared → Prop} (I : Inv X pins σ H s) (e : H a = some (.ins C dx fs)) (c : Cls X.K C) (n : NoAttr X.K C f) (hl : fs.length < 1000) (ry : RelV y u)
    (h : ∀ s', Inv X pins σ (upd H a (.ins C dx (putF f y fs))) s' → Q () s') : wpAny (model X.prog X.w) A (setAttr (.ref a) f u) Q E s := by
  obtain ⟨mA, O, r, wi, _, ho⟩ := ins_get I.hok e
  have hz : (fs.map (·.1)).length ≤ sizeLine := by rw [List.length_map, sizeLine_eq]; omega
  refine set_map I.kIn O c.sa c.po n.taker c.hd wi hz fun h' O' sb => h _ ?_
  have hd : ∃ o, h'.get? dx = some o := let ⟨o, _, _, e', _⟩ := O'.ns; ⟨o, e'⟩
  refine I.write (x := a) (e := dx) (by rw [e]; exact True.intro) (.inr ho) (fun b q hb z => (sb.2 b hb).trans z) hd ?_
  refine ⟨by rw [upd_ne O.ne]; exact ho, ?_, O.ne, O'.obj, _, O'.ns, fun g => ?_, fun g hg => ?_⟩
  · have := length_putF f y fs; omega
  · show RelO ((putF f y fs).lookup g) (if g = f then some u else mA g)
    rw [lookup_putF]
    by_cases q : g = f
    · rw [if_pos q, if_pos q]; exact ry
    · rw [if_neg q, if_neg q]; exact r g
  · by_cases q : g = f
    · rw [q]; exact (keys_putF f y fs).1
    · refine (keys_putF f y fs).2 g (wi g fun z => hg ?_)
      show (if g = f then some u else mA g) = none
      rw [if_neg q]; exact z
theorem Inv.made (I : Inv X pins σ H s) : Inv X pins σ (upd (upd H s.heap.objs.size (.own (s.heap.objs.size + 1))) (s.heap.objs.size + 1) (.ins C s.heap.objs.size []))
    { s with heap := (s.heap.push PySem.W.emptyDict).push (PySem.W.instObj C s.heap.objs.size) } := by
  have e1 : (s.heap.push PySem.W.emptyDict).get? s.heap.objs.size = some PySem.W.emptyDict := Heap.get?_push_size s.heap rfl
  have e2 : ((s.heap.push PySem.W.emptyDict).push (PySem.W.instObj C s.heap.objs.size)).get? (s.heap.objs.size + 1) = some (PySem.W.instObj C s.heap.objs.size) := by
    have := Heap.get?_push_size (s.heap.push PySem.W.emptyDict) (o := PySem.W.instObj C s.heap.objs.size) rfl
    rwa [Heap.size_push] at this
  have e3 : (s.heap.push PySem.W.emptyDict).Ns s.heap.objs.size (fun _ => none) := ⟨PySem.W.emptyDict, #[], _, e1, rfl, (fun e he => absurd he (by simp)), fun _ => rfl⟩
  have I1 := I.laid (a := s.heap.objs.size) (o := .own (s.heap.objs.size + 1)) (h' := s.heap.push PySem.W.emptyDict) (t' := s.toks) (fun b u q => Heap.get?_push_of_some _ q) (Nat.le_refl _) ⟨_, e1⟩
  refine I1.laid (a := s.heap.objs.size + 1) (o := .ins C s.heap.objs.size []) (t' := s.toks) (fun b u q => Heap.get?_push_of_some _ q) (Nat.le_of_eq (Heap.size_push _ _)) ?_
  have ne : s.heap.objs.size ≠ s.heap.objs.size + 1 := Nat.ne_of_lt (Nat.lt_succ_self _)
  refine ⟨by rw [upd_ne ne, upd_same], Nat.zero_le _, ne, e2, fun _ => none, (Heap.Ns1.of_empty e3).at fun o q => Heap.get?_push_of_some _ q, fun _ => True.intro, fun y hy => absurd rfl hy⟩
theorem attr_of {prog : Program} {w : World} {env : Env} {e : Expr} {f : Str} {pos : Pos} {s : Shared} {Q : Value → Shared → Prop} (hb : attributeBase e f env (eval e env) = eval e env)
    (h : wpAny (model prog w) A (eval e env) (fun o s₁ => wpAny (model prog w) A (getAttr o f true) Q E s₁) E s) : wpAny (model prog w) A (eval (.Attribute e f pos) env) Q E s :=
  Attribute_any_ h (by rw [arm_eval_Attribute, hb])
end
noncomputable def tFld (K : PySem.W.Frag) (ta : TE) (f : Str) : TE := fun σ H Q => ta σ H fun x H1 => ∃ a C dx fs v, x = .ref a ∧ H1 a = some (.ins C dx fs) ∧ Cls K C ∧ NoAttr K C f ∧ fs.lookup f = some v ∧ Q v H1
noncomputable def sFld (K : PySem.W.Frag) (ta tv : TE) (f : Str) : TS := fun D σ H => tv σ H fun y H1 => ta σ H1 fun x H2 => ∃ a C dx fs, x = .ref a ∧ H2 a = some (.ins C dx fs) ∧ Cls K C ∧ NoAttr K C f ∧ fs.length < 1000 ∧
  D.nx σ (upd H2 a (.ins C dx (putF f y fs)))
section
variable {X : Cx} {o e value : Expr} {f : Str} {pos pos' tpos : Pos} {ta tv : TE}
theorem pe_fld (he : PE X e ta) (hb : attributeBase e f X.env (eval e X.env) = eval e X.env) : PE X (.Attribute e f pos) (tFld X.K ta f) := by
  intro pins s σ H Q I h
  refine attr_of hb (thn (he pins s σ H _ I h) fun u s1 ⟨x, H1, I1, rx, a, C, dx, fs, v, ex, ea, c, n, l, q⟩ => ?_)
  subst ex
  obtain rfl : u = Value.ref a := rx
  exact getattr_ok I1 ea c n l fun u' s2 I2 ru => ⟨v, H1, I2, ru, q⟩
theorem ps_fld (ha : PE X o ta) (hv : PE X value tv) (hs : swapsWith value (some (.Attribute o f pos')) pos.line X.env = pure false) : PS X (.Assign [.Attribute o f pos'] value pos) (sFld X.K ta tv f) := by
  intro pins s σ H D I h
  refine plainObj_wpAny_Assign_Attribute (thn (hv pins s σ H _ I h) fun u s1 ⟨y, H1, I1, ry, q⟩ => thn (ha pins s1 σ H1 _ I1 q) fun ov s2 ⟨x, H2, I2, rx, a, C, dx, fs, ex, ea, c, n, l, q2⟩ => ?_) hs
  subst ex
  obtain rfl : ov = Value.ref a := rx
  exact setattr_ok I2 ea c n l ry fun s3 I3 => ⟨σ, _, I3, q2⟩
end
section
variable {X : Cx} {pins : List (Addr × Obj)} {σ : St} {H : Hp} {s : Shared} {A : Around} {E : Value → Shared → Prop} {Q : Value → Shared → Prop} {c : Value} {b : Bool}
inductive TyOf (K : PySem.W.Frag) (H : Hp) : V → Value → Prop where
  | non : TyOf K H .non (.type "NoneType")
  | bl (x : Bool) : TyOf K H (.bl x) (.type "bool")
  | int (i : Int) : TyOf K H (.int i) (.type "int")
  | str (x : Str) : TyOf K H (.str x) (.type "str")
  | flt (x : UInt64) : TyOf K H (.flt x) (.type "float")
  | lst {a : Addr} {xs : List V} (e : H a = some (.lst xs)) : TyOf K H (.ref a) (.type "list")
  | frz {a : Addr} {o : Obj} {xs : List V} (e : H a = some (.frz o (.lst xs))) : TyOf K H (.ref a) (.type "list")
  | tup {a : Addr} {xs : List V} (e : H a = some (.tup xs)) : TyOf K H (.ref a) (.type "tuple")
  | dK {a : Addr} {kvs : List (Key × V)} (e : H a = some (.dK kvs)) : TyOf K H (.ref a) (.type "dict")
  | dT {a : Addr} {kvs : List (List Key × V)} (e : H a = some (.dT kvs)) : TyOf K H (.ref a) (.type "dict")
  | ins {a C dx : Addr} {fs : List (Str × V)} (e : H a = some (.ins C dx fs)) (cl : Cls K C) (ha : PySem.W.findIn K (.ref C) "__class__" = some (some (.builtin "object.__class__")))
      (hn : PySem.W.specialIn K (.builtin "object.__class__") "__get__" = some (some (.builtin "getset_descriptor.__get__"))) (htk : PySem.W.takesIn K (.builtin "object.__class__") = some true)
      (hm : PySem.W.mroIn K C (.type "object") = some true) : TyOf K H (.ref a) (.ref C)
theorem isinst_ok {x : V} {u t : Value} (I : Inv X pins σ H s) (rx : RelV x u) (ty : TyOf X.K H x t) (e : PySem.W.kitOne X.K t c = some b) (h : ∀ tk, Q (.bool b) { s with toks := tk }) :
    wpAny (model X.prog X.w) A (call (.builtin "isinstance") [u, c]) Q E s := by
  cases ty with
  | non => cases (show u = Value.none from rx); exact PySem.W.kia_one PySem.W.kitx_none I.kIn True.intro e (fun z => nomatch z) h
  | bl y => cases (show u = Value.bool y from rx); exact PySem.W.kia_one PySem.W.kitx_bool I.kIn True.intro e (fun z => nomatch z) h
  | int i => obtain ⟨t, q⟩ := (show ∃ t, u = Value.int i t from rx); cases q; exact PySem.W.kia_one PySem.W.kitx_int I.kIn True.intro e (fun z => nomatch z) h
  | str y => obtain ⟨t, q⟩ := (show ∃ t, u = Value.str y t from rx); cases q; exact PySem.W.kia_one PySem.W.kitx_str I.kIn True.intro e (fun z => nomatch z) h
  | flt y => obtain ⟨t, q⟩ := (show ∃ t, u = Value.float y t from rx); cases q; exact PySem.W.kia_one PySem.W.kitx_float I.kIn True.intro e (fun z => nomatch z) h
  | @lst a xs ea =>
    cases (show u = Value.ref a from rx)
    obtain ⟨_, _, n, _, h1⟩ := (show ObjOk X.prog X.w H s.heap a (.lst xs) from I.hok a _ ea)
    exact PySem.W.kia_one PySem.W.kitx_list I.kIn ⟨_, h1, rfl⟩ e (fun z => nomatch z) h
  | @frz a ob xs ea =>
    cases (show u = Value.ref a from rx)
    obtain ⟨_, _, _, n, _, h1⟩ := (show ObjOk X.prog X.w H s.heap a (.frz ob (.lst xs)) from I.hok a _ ea)
    exact PySem.W.kia_one PySem.W.kitx_list I.kIn ⟨_, h1, rfl⟩ e (fun z => nomatch z) h
  | @tup a xs ea =>
    cases (show u = Value.ref a from rx)
    obtain ⟨_, _, _, p⟩ := (show ObjOk X.prog X.w H s.heap a (.tup xs) from I.hok a _ ea)
    obtain ⟨o, h1, h2, _⟩ := p
    exact PySem.W.kia_one PySem.W.kitx_tuple I.kIn ⟨o, h1, h2⟩ e (fun z => nomatch z) h
  | @dK a kvs ea =>
    cases (show u = Value.ref a from rx)
    obtain ⟨_, _, vs, _, p⟩ := (show ObjOk X.prog X.w H s.heap a (.dK kvs) from I.hok a _ ea)
    obtain ⟨o, es, ep, h1, h2, _⟩ := p
    exact PySem.W.kia_one PySem.W.kitx_dict I.kIn ⟨o, h1, h2.1⟩ e (fun z => nomatch z) h
  | @dT a kvs ea =>
    cases (show u = Value.ref a from rx)
    obtain ⟨_, _, xs, _, o, es, ep, h1, h2, _⟩ := (show ObjOk X.prog X.w H s.heap a (.dT kvs) from I.hok a _ ea)
    exact PySem.W.kia_one PySem.W.kitx_dict I.kIn ⟨o, h1, h2.1⟩ e (fun z => nomatch z) h
  | @ins a C dx fs ea cl ha hn htk hm =>
    cases (show u = Value.ref a from rx)
    obtain ⟨mA, O, _⟩ := ins_get I.hok ea
    obtain ⟨od, J, _⟩ := O.look
    exact PySem.W.kia_one (PySem.W.kitx_own (cl.get _) cl.hd ha hn htk hm) I.kIn J e (fun z => nomatch z) h
end
end L2
namespace L2
open PySem PySem.Spec PyProof.Rows
structure Room (k : Nat) (A : Around) : Prop where
  hd : A.handled = none
  dp : A.depth + 3 * k + 5 < recursionLimit
  un : A.units + 16 * k + 200 < cLine
theorem Room.mono {j k : Nat} {A : Around} (r : Room k A) (h : j ≤ k) : Room j A := ⟨r.hd, by have := r.dp; omega, by have := r.un; omega⟩
theorem Room.deeper {k : Nat} {A : Around} (r : Room (k + 1) A) (env : Env) : Room k (A.deeper env) :=
  ⟨r.hd, by have := r.dp; show A.depth + 1 + 3 * k + 5 < _; omega, by have := r.un; show A.units + 3 + 16 * k + 200 < _; omega⟩
theorem Room.in1 {k : Nat} {A : Around} (r : Room (k + 1) A) : Room k A.in1 :=
  ⟨r.hd, by have := r.dp; show A.depth + 3 * k + 5 < _; omega, by have := r.un; show A.units + 1 + 16 * k + 200 < _; omega⟩
theorem make_depth {A : Around} {C : Addr} {us : List Value} {kw : List (Str × Value)} : (A.under (.builtin "type.__call__" ⟨.ref C :: us, kw⟩)).depth = A.depth + 1 := by
  first | rfl | simp [Around.under, Code.weight, Code.isCreation, Code.isGuard, Code.isCaller, Code.frames, Code.isFrame, guardIds]
theorem make_units {A : Around} {C : Addr} {us : List Value} {kw : List (Str × Value)} : (A.under (.builtin "type.__call__" ⟨.ref C :: us, kw⟩)).units = A.units + 1 := by
  first | rfl | simp [Around.under, Code.cUnits, Code.frames, Code.isFrame]
theorem Room.make {k : Nat} {A : Around} (r : Room (k + 1) A) (C : Addr) (us : List Value) (kw : List (Str × Value)) : Room k (A.under (.builtin "type.__call__" ⟨.ref C :: us, kw⟩)) :=
  ⟨r.hd, by have := r.dp; rw [make_depth]; omega, by have := r.un; rw [make_units]; omega⟩
theorem Room.depth {k : Nat} {A : Around} (r : Room k A) : A.depth < recursionLimit := by have := r.dp; omega
theorem Room.units {k : Nat} {A : Around} (r : Room k A) : A.units + 64 < cLine := by have := r.un; omega
theorem Room.units0 {k : Nat} {A : Around} (r : Room k A) : A.units < cLine := by have := r.un; omega
noncomputable def tNil : TA := fun _ H Q => Q [] H
noncomputable def tCons (ta : TE) (tr : TA) : TA := fun σ H Q => ta σ H fun x H1 => tr σ H1 fun xs H2 => Q (x :: xs) H2
section
variable {X : Cx} {e : Expr} {es : List Expr} {te : TE} {t : TA} {pos : Pos}
theorem pa_nil : PA X [] tNil := fun _ _ _ _ H Q I h => Calls.spliced_nil ⟨[], H, I, .nil, h⟩
theorem pa_cons (ha : PE X e te) (hr : PA X es t) (hs : starEach (e :: es) X.env = (false, eval e X.env) :: starEach es X.env := by rfl) : PA X (e :: es) (tCons te t) := by
  intro pos pins s σ H Q I h
  rw [hs]
  show wpAny _ _ (spliced ((false, eval e X.env) :: backTo pos (starEach es X.env))) _ _ s
  refine Calls.spliced_cons (thn (ha pins s σ H _ I h) fun u s1 ⟨x, H1, I1, r1, q1⟩ => ?_)
  exact thn (hr pos pins s1 σ H1 _ I1 q1) fun us s2 ⟨xs, H2, I2, r2, q2⟩ => ⟨x :: xs, H2, I2, .cons r1 r2, q2⟩
noncomputable def tTup (t : TA) : TE := fun σ H Q => t σ H fun xs H1 => xs.length ≤ sizeLine ∧ ∀ p, H1 p = none → Q (.ref p) (upd H1 p (.tup xs))
noncomputable def tLst (t : TA) : TE := fun σ H Q => t σ H fun xs H1 => xs.length ≤ sizeLine ∧ ∀ p, H1 p = none → Q (.ref p) (upd H1 p (.lst xs))
theorem pe_tup {x1} (h : PA X es t) : PE X (.Tuple es x1 pos) (tTup t) := by
  intro pins s σ H Q I hq
  refine wpAny_Tuple_spliced (thn (h pos pins s σ H _ I hq) fun us s1 ⟨xs, H1, I1, r, z, q⟩ => ⟨by rw [← r.length]; exact z, ?_⟩)
  have hf : H1 s1.heap.objs.size = none := I1.hok.fresh (Nat.le_refl _)
  refine ⟨.ref s1.heap.objs.size, upd H1 s1.heap.objs.size (.tup xs), I1.laid (t' := s1.toks) (fun b u e => Heap.get?_push_of_some _ e) (Nat.le_refl _) ?_, rfl, q _ hf⟩
  exact ⟨z, us, r, ⟨_, Heap.get?_push_size _ rfl, rfl, _, rfl⟩⟩
theorem pe_lst (h : PA X es t) : PE X (.List es pos) (tLst t) := by
  intro pins s σ H Q I hq
  refine wpAny_List_spliced (thn (h pos pins s σ H _ I hq) fun us s1 ⟨xs, H1, I1, r, z, q⟩ => ⟨by rw [← r.length]; exact z, ?_⟩)
  have hf : H1 s1.heap.objs.size = none := I1.hok.fresh (Nat.le_refl _)
  refine ⟨.ref s1.heap.objs.size, upd H1 s1.heap.objs.size (.lst xs), I1.laid (t' := s1.toks) (fun b u e => Heap.get?_push_of_some _ e) (Nat.le_refl _) ?_, rfl, q _ hf⟩
  exact ⟨z, us, 0, r, Heap.get?_push_size _ rfl⟩
end
noncomputable abbrev Sp := List V → Hp → VK → XK → Prop
noncomputable abbrev CXT := List Env → Hp → Shared → XK → Value → Shared → Prop
structure Env0 (P : Program) (w : World) (K : PySem.W.Frag) (mg : Str → Option Value) (base : Heap) (A : Around) (outer : List Env) (s : Shared) (H : Hp) : Prop where
  frames : A.frames = some outer
  mod : Mod K mg base
  bs : ∀ b o, base.get? b = some o → s.heap.get? b = some o ∧ H b = none
  bsz : base.objs.size ≤ s.heap.objs.size
  funs : s.heap.FunFrames base outer
  frf : ∀ b ∈ frs outer, H b = none
  hok : HOk P w H s.heap
  bare : AllBare s.gens
noncomputable def CE (outer : List Env) (P : Program) (w : World) (H : Hp) (s : Shared) (Q : VK) (u : Value) (s' : Shared) : Prop :=
  ∃ v H', s'.os = s.os ∧ AllBare s'.gens ∧ Un (frs outer) [] H H' s.heap s'.heap ∧ HOk P w H' s'.heap ∧ RelV v u ∧ Q v H'
noncomputable def CR (CX : CXT) (outer : List Env) (P : Program) (w : World) (H : Hp) (s : Shared) (Q : VK) (E : XK) (r : Result) (s' : Shared) : Prop :=
  match r with
  | .ok (.ret u) => CE outer P w H s Q u s'
  | .ok _ => False
  | .error e => CX outer H s E e s'
structure FnOk (P : Program) (w : World) (K : PySem.W.Frag) (mg : Str → Option Value) (base : Heap) (CX : CXT) (k : Nat) (f : Addr) (fd : FuncData) (ps : List Str) (sp : Sp) : Prop where
  len : ∀ vs H Q E, sp vs H Q E → vs.length = ps.length
  run : ∀ (A : Around) (outer : List Env) (s : Shared) (H : Hp) (args : Args) (us : List Value) (vs : List V) (Q : VK) (E : XK), Room k A → Env0 P w K mg base A outer s H → BindsTo s fd args (ps.zip us) → Vals vs us → sp vs H Q E →
    codeAny (model P w) A (.call (.ref f) args) (CR CX outer P w H s Q E) s
theorem Env0.make {P : Program} {w : World} {K : PySem.W.Frag} {mg : Str → Option Value} {base : Heap} {A : Around} {outer : List Env} {s : Shared} {H : Hp} (e : Env0 P w K mg base A outer s H) (C : Addr) (us : List Value) (kw : List (Str × Value)) :
    Env0 P w K mg base (A.under (.builtin "type.__call__" ⟨.ref C :: us, kw⟩)) outer s H := ⟨by first | exact e.frames | (simpa [Around.under, Code.envs, Code.isFrame, pushEnvs] using e.frames), e.mod, e.bs, e.bsz, e.funs, e.frf, e.hok, e.bare⟩
theorem Env0.in1 {P : Program} {w : World} {K : PySem.W.Frag} {mg : Str → Option Value} {base : Heap} {A : Around} {outer : List Env} {s : Shared} {H : Hp} (e : Env0 P w K mg base A outer s H) :
    Env0 P w K mg base A.in1 outer s H := ⟨e.frames, e.mod, e.bs, e.bsz, e.funs, e.frf, e.hok, e.bare⟩
section
variable {X : Cx} {pins : List (Addr × Obj)} {σ : St} {H : Hp} {s s' : Shared}
theorem Inv.env0 (I : Inv X pins σ H s) : Env0 X.prog X.w X.K X.mg X.base X.A X.stack s H :=
  ⟨I.ok.frames, I.ok.mod, I.bs, Nat.le_trans I.ok.bsz I.sz, I.stack, I.stkFree, I.hok, I.bare⟩
theorem Inv.after {Q : VK} {u : Value} (I : Inv X pins σ H s) (h : CE X.stack X.prog X.w H s Q u s') : EP X pins σ Q u s' := by
  obtain ⟨v, H', os, bare, un, hok, r, q⟩ := h
  obtain ⟨hh, g, d, t, os'⟩ := s'
  obtain rfl : os' = s.os := os
  exact ⟨v, H', I.call (h' := hh) (g' := g) (d' := d) (t' := t) (ch := []) un hok bare (fun b z => absurd z (by simp)), r, q⟩
end
noncomputable def tCall (sp : Sp) (dvs : List V) (E : XK) (t : TA) : TE := fun σ H Q => t σ H fun vs H1 => sp (vs ++ dvs) H1 Q E
noncomputable def tMeth (C : Addr) (m : Str) (sp : Sp) (dvs : List V) (E : XK) (ta : TE) (t : TA) : TE := fun σ H Q => ta σ H fun x H1 => ∃ a dx fs, x = .ref a ∧ H1 a = some (.ins C dx fs) ∧ fs.lookup m = none ∧
  t σ H1 fun vs H2 => sp (x :: (vs ++ dvs)) H2 Q E
noncomputable def tMake (C : Addr) (sp : Sp) (dvs : List V) (E : XK) (t : TA) : TE := fun σ H Q => t σ H fun vs H1 => ∀ x dx, H1 x = none → H1 dx = none → dx ≠ x →
  sp (.ref x :: (vs ++ dvs)) (upd (upd H1 dx (.own x)) x (.ins C dx [])) (fun v H2 => v = .non ∧ Q (.ref x) H2) E
noncomputable def Binds (K : PySem.W.Frag) (fd : FuncData) (ps : List Str) (ds : List Value) : Prop :=
  ∀ (s : Shared) (us : List Value), K.In s.heap → (us ++ ds).length = ps.length → BindsTo s fd ⟨us, []⟩ (ps.zip (us ++ ds))
theorem Binds.all {K : PySem.W.Frag} {fd : FuncData} {ps : List Str} (h : ∀ us : List Value, us.length = ps.length → bindArgs fd ⟨us, []⟩ = pure (ps.zip us)) : Binds K fd ps [] := fun s us _ hl => by
  rw [List.append_nil] at hl ⊢
  exact .of_eq (h us hl)
noncomputable def Passes (CX : CXT) (X : Cx) (E : XK) : Prop := ∀ (pins : List (Addr × Obj)) (σ : St) (H : Hp) (s : Shared) (e : Value) (s' : Shared), Inv X pins σ H s → CX X.stack H s E e s' → X.xe e s'
section
variable {X : Cx} {CX : CXT} {k : Nat} {f C : Addr} {fd : FuncData} {ps : List Str} {sp : Sp} {dvs : List V} {ds : List Value} {E : XK} {x m : Str} {p pos apos : Pos} {e o : Expr} {es : List Expr} {ta : TE} {t : TA}
theorem run_fn {pins : List (Addr × Obj)} {σ : St} {H : Hp} {s : Shared} {Q : VK} {us : List Value} {vs : List V} (F : FnOk X.prog X.w X.K X.mg X.base CX k f fd ps sp) (hr : Room k X.A) (hb : Binds X.K fd ps ds) (hd : Vals dvs ds) (hx : Passes CX X E)
    (I : Inv X pins σ H s) (r : Vals vs us) (h : sp (vs ++ dvs) H Q E) : wpAny (model X.prog X.w) X.A (call (.ref f) us) (EP X pins σ Q) X.xe s := by
  have r2 : Vals (vs ++ dvs) (us ++ ds) := r.append hd
  have hl : (us ++ ds).length = ps.length := by rw [← r2.length]; exact F.len _ _ _ _ h
  refine wpAny_call (codeAny_mono (F.run X.A X.stack s H ⟨us, []⟩ (us ++ ds) (vs ++ dvs) Q E hr I.env0 (hb s us I.kIn hl) r2 h) fun r s' hq => ?_)
  cases r with
  | error e => exact hx pins σ H s e s' I hq
  | ok fl =>
    cases fl with
    | ret u => exact I.after hq
    | next => exact False.elim hq
    | brk => exact False.elim hq
    | cont => exact False.elim hq
theorem pe_call (F : FnOk X.prog X.w X.K X.mg X.base CX k f fd ps sp) (hr : Room k X.A) (hg : Gl X x) (hm : X.mg x = some (.ref f)) (hk : PySem.W.keepIn X.K (.ref f) = true) (hb : Binds X.K fd ps ds) (hd : Vals dvs ds) (hx : Passes CX X E)
    (ha : PA X (e :: es) t) (hdb : (x == ("__debug__" : Str)) = false := by decide) (he : starEach (e :: es) X.env = (false, eval e X.env) :: starEach es X.env := by rfl) (hpl : (backTo pos (starEach es X.env)).any (·.1) = false := by rfl) :
    PE X (.Call (.Name x p) (e :: es) [] pos) (tCall sp dvs E t) := by
  intro pins s σ H Q I h
  refine wpAny_Call_Name_kw (ld_glob I hg hm ?_ hdb)
  refine PySem.W.callWith_K (h₀ := X.base) I.ok.mod.kin hk (thn (ha pos pins s σ H _ I h) fun us s1 ⟨vs, H1, I1, r, q⟩ => ⟨I1.kIn, ?_⟩) he hpl
  exact run_fn F hr hb hd hx I1 r q
theorem pe_meth {pl : Sem Bool} (he : PE X o ta) (c : Cls X.K C) (hm : Meth X.K C m f) (F : FnOk X.prog X.w X.K X.mg X.base CX k f fd ps sp) (hr : Room k X.A) (hb : Binds X.K fd ps ds) (hd : Vals dvs ds) (hx : Passes CX X E) (ha : PA X (e :: es) t)
    (hst : starEach (e :: es) X.env = (false, eval e X.env) :: starEach es X.env := by rfl) (hpl : (backTo pos (starEach es X.env)).any (·.1) = false := by rfl)
    (ht : eval (.Call (.Attribute o m apos) (e :: es) [] pos) X.env = (do
      let ov ← eval o X.env
      standAt apos.atName
      let (f, first) ← holding [ov] (getMethod ov m pl)
      callWith pos f first (backTo pos (starEach (e :: es) X.env)) (backToKw pos (keywordEach [] X.env))) := by rfl) :
    PE X (.Call (.Attribute o m apos) (e :: es) [] pos) (tMeth C m sp dvs E ta t) := by
  intro pins s σ H Q I h
  refine PySem.W.methodCall_KW (pl := pl) (thn (he pins s σ H _ I h) fun u s1 ⟨x, H1, I1, rx, a, dx, fs, ex, ea, l, q⟩ => ?_) ht
  subst ex
  obtain rfl : u = Value.ref a := rx
  refine getmeth_ok I1 ea c hm l ?_
  refine PySem.W.callWith_K (first := [.ref a]) (h₀ := X.base) I.ok.mod.kin hm.kp (thn (ha pos pins s1 σ H1 _ I1 q) fun us s2 ⟨vs, H2, I2, r, q2⟩ => ⟨I2.kIn, ?_⟩) hst hpl
  exact run_fn (us := .ref a :: us) (vs := .ref a :: vs) F hr hb hd hx I2 (.cons rfl r) q2
theorem pe_meth0 {pl : Sem Bool} (he : PE X o ta) (c : Cls X.K C) (hm : Meth X.K C m f) (F : FnOk X.prog X.w X.K X.mg X.base CX k f fd ps sp) (hr : Room k X.A) (hb : Binds X.K fd ps ds) (hd : Vals dvs ds) (hx : Passes CX X E)
    (ht : eval (.Call (.Attribute o m apos) [] [] pos) X.env = (do
      let ov ← eval o X.env
      standAt apos.atName
      let (f, first) ← holding [ov] (getMethod ov m pl)
      callWith pos f first (backTo pos (starEach [] X.env)) (backToKw pos (keywordEach [] X.env))) := by rfl) :
    PE X (.Call (.Attribute o m apos) [] [] pos) (tMeth C m sp dvs E ta tNil) := by
  intro pins s σ H Q I h
  refine PySem.W.methodCall_KW (pl := pl) (thn (he pins s σ H _ I h) fun u s1 ⟨x, H1, I1, rx, a, dx, fs, ex, ea, l, q⟩ => ?_) ht
  subst ex
  obtain rfl : u = Value.ref a := rx
  refine getmeth_ok I1 ea c hm l ?_
  exact PySem.W.callWith_K0 (first := [.ref a]) I1.kIn hm.kp (run_fn (us := [.ref a]) (vs := [.ref a]) F hr hb hd hx I1 (.cons rfl .nil) q)
structure Mk (K : PySem.W.Frag) (C f : Addr) : Prop where
  makes : PySem.W.makesIn K C = true
  init : PySem.W.findIn K (.ref C) "__init__" = some (some (.ref f))
  fn : PySem.W.isFn K (.ref f) = true
  kp : PySem.W.keepIn K (.ref C) = true
theorem run_make {pins : List (Addr × Obj)} {σ : St} {H : Hp} {s : Shared} {Q : VK} {us : List Value} {vs : List V} (M : Mk X.K C f) (F : FnOk X.prog X.w X.K X.mg X.base CX k f fd ps sp) (hr : Room (k + 1) X.A) (hb : Binds X.K fd ps ds) (hd : Vals dvs ds)
    (hx : Passes CX X E) (I : Inv X pins σ H s) (r : Vals vs us)
    (h : ∀ x dx, H x = none → H dx = none → dx ≠ x → sp (.ref x :: (vs ++ dvs)) (upd (upd H dx (.own x)) x (.ins C dx [])) (fun v H2 => v = .non ∧ Q (.ref x) H2) E) :
    wpAny (model X.prog X.w) X.A (call (.ref C) us) (EP X pins σ Q) X.xe s := by
  have hq := h (s.heap.objs.size + 1) s.heap.objs.size (I.hok.fresh (Nat.le_succ _)) (I.hok.fresh (Nat.le_refl _)) (Nat.ne_of_lt (Nat.lt_succ_self _))
  have I2 := Inv.made (C := C) I
  have r2 : Vals (V.ref (s.heap.objs.size + 1) :: (vs ++ dvs)) (Value.ref (s.heap.objs.size + 1) :: (us ++ ds)) := .cons rfl (r.append hd)
  have hl : (Value.ref (s.heap.objs.size + 1) :: us ++ ds).length = ps.length := by
    have e := r2.length
    rw [F.len _ _ _ _ hq] at e
    exact e.symm
  refine wpAny_call (make_map (f := f) I.kIn M.makes M.init (beq_iff_eq.mp M.fn) (codeAny_mono (F.run _ X.stack _ _ ⟨Value.ref (s.heap.objs.size + 1) :: us, []⟩ (Value.ref (s.heap.objs.size + 1) :: (us ++ ds)) _ _ E (hr.make C us [])
    (I2.env0.make C us []) (hb _ (Value.ref (s.heap.objs.size + 1) :: us) I2.kIn hl) r2 hq) fun r s' hq' => ?_))
  cases r with
  | error e => exact hx pins σ _ _ e s' I2 hq'
  | ok fl =>
    cases fl with
    | ret u =>
      obtain ⟨v, H', I3, rv, ev, q3⟩ := I2.after hq'
      subst ev
      exact ⟨rv, ⟨V.ref (s.heap.objs.size + 1), H', I3, rfl, q3⟩⟩
    | next => exact False.elim hq'
    | brk => exact False.elim hq'
    | cont => exact False.elim hq'
theorem pe_make0 (M : Mk X.K C f) (F : FnOk X.prog X.w X.K X.mg X.base CX k f fd ps sp) (hr : Room (k + 1) X.A) (hg : Gl X x) (hm : X.mg x = some (.ref C)) (hb : Binds X.K fd ps ds) (hd : Vals dvs ds) (hx : Passes CX X E)
    (hdb : (x == ("__debug__" : Str)) = false := by decide) : PE X (.Call (.Name x p) [] [] pos) (tMake C sp dvs E tNil) := by
  intro pins s σ H Q I h
  refine wpAny_Call_Name_kw (ld_glob I hg hm ?_ hdb)
  exact PySem.W.callWith_K0 I.kIn M.kp (run_make (us := []) M F hr hb hd hx I .nil h)
end
section
variable {X : Cx} {CX : CXT} {k : Nat} {f C : Addr} {fd : FuncData} {ps ks : List Str} {sp : Sp} {E : XK} {x m : Str} {p pos apos kpos : Pos} {e o : Expr} {es : List Expr} {kws : List Keyword} {te ta : TE} {t tk : TA} {nm : Option Str}
variable {g : List Value → List Value → List Value} {gV : List V → List V → List V}
end
structure FnScope (N P : List Str) (sc : Scope) : Prop where
  kind : sc.kind = .function
  co : sc.isCoroutine = false
  gen : sc.isGenerator = false
  nd : N.Nodup
  pre : N.take P.length = P
  par : ∀ x ∈ P, sc.names.lookup x = some .local ∨ sc.names.lookup x = some .cell
  nofree : ∀ y ∈ sc.names, y.2 ≠ .free
theorem bindL_out {kindOf : Str → Option NameKind} {x : Str} : ∀ {binds : List (Str × Value)} {m : Str → Option Value}, (∀ v, (x, v) ∉ binds) → bindL kindOf binds m x = m x
  | [], _, _ => rfl
  | (n, v) :: r, m, h => by
    unfold bindL
    rw [bindL_out fun w hw => h w (List.mem_cons_of_mem _ hw)]
    split
    · have : x ≠ n := by rintro rfl; exact h v List.mem_cons_self
      simp [this]
    · rfl
theorem bindC_out {kindOf : Str → Option NameKind} {x : Str} : ∀ {binds : List (Str × Value)} {m : Str → Option Value}, (∀ v, (x, v) ∉ binds) → bindC kindOf binds m x = m x
  | [], _, _ => rfl
  | (n, v) :: r, m, h => by
    unfold bindC
    rw [bindC_out fun w hw => h w (List.mem_cons_of_mem _ hw)]
    split
    · rfl
    · have : x ≠ n := by rintro rfl; exact h v List.mem_cons_self
      simp [this]
theorem bindL_get {kindOf : Str → Option NameKind} {x : Str} {v : Value} : ∀ {P : List Str} {vs : List Value} {i : Nat} {m : Str → Option Value}, P.Nodup → P[i]? = some x → vs[i]? = some v → kindOf x = some .local →
    bindL kindOf (P.zip vs) m x = some v
  | [], _, _, _, _, h, _, _ => by simp at h
  | _ :: _, [], _, _, _, _, h, _ => by simp at h
  | p :: P, w :: vs, 0, m, nd, h1, h2, hk => by
    simp at h1 h2; subst h1; subst h2
    show bindL kindOf ((p, w) :: P.zip vs) m p = _
    unfold bindL
    rw [bindL_out fun v hv => (List.nodup_cons.mp nd).1 (List.of_mem_zip hv).1, if_pos hk]
    simp
  | p :: P, w :: vs, i + 1, m, nd, h1, h2, hk => by
    show bindL kindOf ((p, w) :: P.zip vs) m x = _
    unfold bindL
    exact bindL_get (i := i) (List.nodup_cons.mp nd).2 (by simpa using h1) (by simpa using h2) hk
theorem bindC_get {kindOf : Str → Option NameKind} {x : Str} {v : Value} : ∀ {P : List Str} {vs : List Value} {i : Nat} {m : Str → Option Value}, P.Nodup → P[i]? = some x → vs[i]? = some v → kindOf x ≠ some .local →
    bindC kindOf (P.zip vs) m x = some v
  | [], _, _, _, _, h, _, _ => by simp at h
  | _ :: _, [], _, _, _, _, h, _ => by simp at h
  | p :: P, w :: vs, 0, m, nd, h1, h2, hk => by
    simp at h1 h2; subst h1; subst h2
    show bindC kindOf ((p, w) :: P.zip vs) m p = _
    unfold bindC
    rw [bindC_out fun v hv => (List.nodup_cons.mp nd).1 (List.of_mem_zip hv).1, if_neg hk]
    simp
  | p :: P, w :: vs, i + 1, m, nd, h1, h2, hk => by
    show bindC kindOf ((p, w) :: P.zip vs) m x = _
    unfold bindC
    exact bindC_get (i := i) (List.nodup_cons.mp nd).2 (by simpa using h1) (by simpa using h2) hk
noncomputable def start (N : List Str) (vs : List V) : St := vs.map some ++ List.replicate (N.length - vs.length) none
noncomputable def cxOf (CX : CXT) (P : Program) (w : World) (K : PySem.W.Frag) (mg : Str → Option Value) (base : Heap) (N : List Str) (qual : Str) (scope : Scope) (f : Addr) (cd : Value) (A : Around) (outer : List Env) (s : Shared) (H : Hp) (E : XK) : Cx where
  prog := P
  w := w
  K := K
  mg := mg
  base := base
  A := A.deeper (envOfC qual scope s.heap.objs.size f cd)
  N := N
  s₀ := s
  H₀ := H
  env := envOfC qual scope s.heap.objs.size f cd
  outer := outer
  stack := envOfC qual scope s.heap.objs.size f cd :: outer
  ex := []
  calm := true
  fn := fun _ => true
  pn := []
  xe := fun e s' => wpAny (model P w) (A.deeper (envOfC qual scope s.heap.objs.size f cd)) (leaving (envOfC qual scope s.heap.objs.size f cd) e) (fun _ s'' => CX outer H s E e s'') (fun e' s'' => CX outer H s E e' s'') s'
theorem cell_has {sc : Scope} {n : Nat} {x : Str} (h : sc.names.lookup x = some .cell) : ∃ c, (cellsFrom n sc.names []).lookup x = some c := by
  have q := PySem.W.cellsFrom_some sc.names n [] (.inl h)
  exact Option.isSome_iff_exists.mp q
theorem inv_start {CX : CXT} {P : Program} {w : World} {K : PySem.W.Frag} {mg : Str → Option Value} {base : Heap} {N ps : List Str} {qual : Str} {scope : Scope} {f : Addr} {cd : Value} {A : Around} {outer : List Env} {s s1 : Shared} {H : Hp} {E : XK} {us : List Value} {vs : List V}
    (S : FnScope N ps scope) (hd : A.handled = none) (e0 : Env0 P w K mg base A outer s H) (hl : vs.length = ps.length) (r : Vals vs us)
    (x : InCallC s s.heap.objs.size (bindL (envOfC qual scope s.heap.objs.size f cd).kindOf (ps.zip us) fun _ => none) (cellsFrom (s.heap.objs.size + 1) scope.names []) (bindC (envOfC qual scope s.heap.objs.size f cd).kindOf (ps.zip us) fun _ => none) s1) :
    Inv (cxOf CX P w K mg base N qual scope f cd A outer s H E) [] (start N vs) H s1 := by
  have hpl : ps.length ≤ N.length := by have := congrArg List.length S.pre; rw [List.length_take] at this; omega
  obtain ⟨h1, tk, rfl, hk⟩ := x.done
  have noA : ∀ b : Addr, b ∉ (cxOf CX P w K mg base N qual scope f cd A outer s H E).ex := fun b z => absurd (show b ∈ ([] : List Addr) from z) (by simp)
  refine ⟨⟨e0.mod, S.kind, rfl, rfl, Nat.le_refl _, fun y z c h1 h2 => ?_, fun y hy => ?_, fun y c _ h => ?_, fun _ => hd, Around.frames_deeper e0.frames, .inr ⟨rfl, rfl⟩, fun b z => absurd z (noA b), e0.bs, e0.bsz, fun b _ _ => noA b, fun b z => absurd z (noA b), e0.funs, e0.frf⟩,
    rfl, e0.bare, Un.kept hk, ⟨_, x.toInCall.ns, fun i y v h1 h2 h3 => ?_⟩, fun y c h => ⟨_, x.cell y c h⟩, e0.hok.fresh (Nat.le_refl _), fun y c h => ?_, fun p hp => absurd (show p ∈ ([] : List (Addr × Obj)) from hp) (by simp), e0.hok.kept hk, ?_⟩
  · exact name_of_addr x.apart (PySem.mem_of_lookup h1) (PySem.mem_of_lookup h2)
  · have hy : scope.names.lookup y = some .cell ∨ scope.names.lookup y = some .free := hy
    rcases hy with hy | hy
    · exact cell_has hy
    · exact absurd rfl (S.nofree _ (PySem.mem_of_lookup hy))
  · exact Nat.le_of_lt (x.above y c (PySem.mem_of_lookup h))
  · have hi : i < vs.length := by
      unfold start at h2
      by_cases hi : i < vs.length
      · exact hi
      · rw [List.getElem?_append_right (by simpa using hi)] at h2
        rw [List.getElem?_replicate] at h2
        split at h2 <;> cases h2
    have ha : vs[i]? = some v := by
      unfold start at h2
      rw [List.getElem?_append_left (by simpa using hi), List.getElem?_map] at h2
      cases e : vs[i]? with
      | none => rw [e] at h2; cases h2
      | some a => rw [e] at h2; cases h2; rfl
    obtain ⟨u, hu, rv⟩ := r.get ha
    have hp : ps[i]? = some y := by
      rw [← S.pre, List.getElem?_take_of_lt (by omega)]; exact h1
    have ndP : ps.Nodup := by rw [← S.pre]; exact S.nd.sublist (List.take_sublist _ _)
    refine ⟨u, rv, ?_⟩
    rcases S.par y (List.mem_of_getElem? hp) with k | k
    · exact .inl ⟨k, bindL_get ndP hp hu k⟩
    · obtain ⟨c, e⟩ := cell_has (n := s.heap.objs.size + 1) k
      refine .inr ⟨.inl k, c, e, ?_⟩
      have q := x.cell y c e
      rw [bindC_get ndP hp hu (by show scope.names.lookup y ≠ _; rw [k]; decide)] at q
      exact q
  · exact e0.hok.fresh (Nat.le_of_lt (x.above y c (PySem.mem_of_lookup h)))
  · unfold start
    show _ = N.length
    rw [List.length_append, List.length_map, List.length_replicate]
    omega
theorem fn_of {CX : CXT} {P : Program} {w : World} {K : PySem.W.Frag} {mg : Str → Option Value} {base : Heap} {k : Nat} {f : Addr} {name qual : Str} {params : Arguments} {body : List Stmt} {scope : Scope} {dV kV doc pm cdv ct oc : Value} {an od : Option Addr}
    {osl : Array (Option Value)} {N ps : List Str} {sp : Sp} (lk : K.lookup f = some ⟨oc, od, .func (PySem.W.fnOf name qual params body scope dV kV doc pm an cdv ct), osl⟩) (hcd : PySem.W.codeIn K cdv qual = true) (S : FnScope N ps scope)
    (len : ∀ vs H Q E, sp vs H Q E → vs.length = ps.length)
    (hbody : ∀ (A : Around) (outer : List Env) (s : Shared) (H : Hp) (vs : List V) (Q : VK) (E : XK), Room k (A.deeper (envOfC qual scope s.heap.objs.size f cdv)) → sp vs H Q E →
      ∃ t, PSs (cxOf CX P w K mg base N qual scope f cdv A outer s H E) body t ∧ t { nx := fun _ H' => Q .non H', rt := Q } (start N vs) H) :
    FnOk P w K mg base CX (k + 1) f (PySem.W.fnOf name qual params body scope dV kV doc pm an cdv ct) ps sp := by
  refine ⟨len, fun A outer s H args us vs Q E hr e0 hb r hsp => ?_⟩
  have hl := len _ _ _ _ hsp
  have KX : K.In s.heap := e0.mod.kin.keeps fun b o e => (e0.bs b o e).1
  have lim : s.heap.NoLimit := e0.mod.nolimit.keeps fun b o e => (e0.bs b o e).1
  have hkind : ∀ y ∈ ps.zip us, scope.names.lookup y.1 = some .local ∨ (scope.names.lookup y.1 = some .cell ∧ ((cellsFrom (s.heap.objs.size + 1) scope.names []).lookup y.1).isSome = true) := fun ⟨n, v⟩ hy => by
    rcases S.par n (List.of_mem_zip hy).1 with q | q
    · exact .inl q
    · exact .inr ⟨q, PySem.W.cellsFrom_some _ _ _ (.inl q)⟩
  refine codeAny_call_function hr.depth (KX _ _ lk) rfl S.co S.gen rfl (PySem.W.codeRec_of KX hcd) (hb _ _ _ _ ?_)
  refine wpAny_newFunctionEnv_cells S.kind hkind fun env he s1 x => ?_
  subst he
  refine ⟨lim.keeps x.toInCall.keep, codeAny_func ?_⟩
  obtain ⟨t, ht, hq⟩ := hbody A outer s H vs Q E (hr.deeper _) hsp
  have I : Inv (cxOf CX P w K mg base N qual scope f cdv A outer s H E) [] (start N vs) H s1 := inv_start S hr.hd e0 hl r x
  refine wpAny_mono (ht [] s1 (start N vs) H _ I hq) (fun fl s' hs => ?_) fun e s' hs => hs
  have fin : ∀ {σ' : St} {H' : Hp} {v : V} {u : Value}, Inv (cxOf CX P w K mg base N qual scope f cdv A outer s H E) [] σ' H' s' → RelV v u → Q v H' → CE outer P w H s Q u s' :=
    fun {σ' H' v u} J rv q => ⟨v, H', J.os, J.bare, J.base, J.hok, rv, q⟩
  cases fl with
  | ret u =>
    obtain ⟨v, σ', H', J, rv, q⟩ := hs
    exact fin J rv q
  | next =>
    obtain ⟨σ', H', J, q⟩ := hs
    exact fin (v := V.non) (u := Value.none) J rfl q
  | brk =>
    obtain ⟨_, _, _, q⟩ := hs
    exact False.elim q
  | cont =>
    obtain ⟨_, _, _, q⟩ := hs
    exact False.elim q
end L2
namespace L2
open PySem PySem.Spec PyProof.Rows
section
variable {X : Cx} {x : Str} {p pos : Pos} {e : Expr} {es : List Expr} {t : TA} {id T : String} {r : List V → Hp → VK → Prop}
noncomputable def tCB (r : List V → Hp → VK → Prop) (t : TA) : TE := fun σ H Q => t σ H fun vs H1 => r vs H1 Q
theorem pe_callB (hc : CallR X (.builtin id) r) (hg : Gl X x) (hm : X.mg x = none) (hv : bootBuiltins x = some (.builtin id)) (ha : PA X (e :: es) t) (hn : x ≠ "__name__" := by decide) (hdb : (x == ("__debug__" : Str)) = false := by decide)
    (he : starEach (e :: es) X.env = (false, eval e X.env) :: starEach es X.env := by rfl) (hpl : (backTo pos (starEach es X.env)).any (·.1) = false := by rfl) : PE X (.Call (.Name x p) (e :: es) [] pos) (tCB r t) := by
  intro pins s σ H Q I h
  refine wpAny_Call_Name_kw (ld_blt I hg hm hv ?_ hn hdb)
  exact PyProof.Rows.callWith_builtin1 (thn (ha pos pins s σ H _ I h) fun us s1 ⟨vs, H1, I1, r1, q1⟩ => hc pins s1 σ H1 vs us Q I1 r1 q1) he hpl
theorem pe_callTy (hc : CallR X (.type T) r) (hg : Gl X x) (hm : X.mg x = none) (hv : bootBuiltins x = some (.type T)) (ha : PA X (e :: es) t) (hn : x ≠ "__name__" := by decide) (hdb : (x == ("__debug__" : Str)) = false := by decide)
    (he : starEach (e :: es) X.env = (false, eval e X.env) :: starEach es X.env := by rfl) (hpl : (backTo pos (starEach es X.env)).any (·.1) = false := by rfl) : PE X (.Call (.Name x p) (e :: es) [] pos) (tCB r t) := by
  intro pins s σ H Q I h
  refine wpAny_Call_Name_kw (ld_blt I hg hm hv ?_ hn hdb)
  exact PyProof.Rows.callWith_type1 (thn (ha pos pins s σ H _ I h) fun us s1 ⟨vs, H1, I1, r1, q1⟩ => hc pins s1 σ H1 vs us Q I1 r1 q1) he hpl
end
end L2
namespace HT
open PySem PyProof.Rows
section
open PySem.SeqAt
open PySem.AutoSeq1 (wpAny_loadPart')
open PySem.MeetsSeq PySem.MeetsSeq2 PySem.MeetsSeq3
end
section
variable {prog : Program} {w : World} {A : Around} {E : Value → Shared → Prop} {s : Shared}
theorem cat_tup {t b : Addr} {vs ws : List Value} {Q : Value → Shared → Prop} (ht : IsTup s.heap t vs.toArray) (hb : IsTup s.heap b ws.toArray) (hv : vs ≠ [])
    (h1 : ws = [] → Q (.ref t) s) (h2 : ws ≠ [] → Q (.ref s.heap.objs.size) { s with heap := s.heap.push { cls := .type "tuple", data := .seq (vs ++ ws).toArray } })
    (hsz : vs.length + ws.length ≤ sizeLine) : wpAny (model prog w) A (binaryOp .Add (.ref t) (.ref b)) Q E s := by
  obtain ⟨⟨cls, dd, data, sl⟩, ho, hc, n, hd⟩ := id ht
  obtain ⟨⟨cls2, dd2, data2, sl2⟩, ho2, hc2, n2, hd2⟩ := id hb
  simp only at hc hd hc2 hd2
  subst hc hd hc2 hd2
  have e : vs.toArray ++ ws.toArray = (vs ++ ws).toArray := by simp
  by_cases hw : ws = []
  · exact concat_meets ⟨_, ho, rfl⟩ ⟨_, ho2, rfl⟩ noFill_tuple_add seq_tuple_add PySem.F.slot_tuple_add PySem.F.entry_tuple_add (PySem.F.args_tuple_add_2 _ _)
      (tuple_addW1 t b vs.toArray ws.toArray n n2 dd dd2 sl sl2 (by simpa using hv) (by simp [hw])) ⟨ho, ho2, h1 hw⟩
  · refine concat_meets ⟨_, ho, rfl⟩ ⟨_, ho2, rfl⟩ noFill_tuple_add seq_tuple_add PySem.F.slot_tuple_add PySem.F.entry_tuple_add (PySem.F.args_tuple_add_2 _ _)
      (tuple_addW2 t b vs.toArray ws.toArray n n2 dd dd2 sl sl2 (by simpa using hv) (by simpa using hw) (by rw [List.size_toArray, List.size_toArray]; exact hsz)) ⟨ho, ho2, ?_⟩
    rw [e]
    exact h2 hw
noncomputable def sIx (n d : Nat) : Option Int → Nat
  | none => d
  | some v => if v < 0 then (v + (n : Int)).toNat else min v.toNat n
theorem sIx_le (n d : Nat) (hd : d ≤ n) (o : Option Int) : sIx n d o ≤ n := by
  cases o with
  | none => exact hd
  | some v =>
    show (if v < 0 then (v + (n : Int)).toNat else min v.toNat n) ≤ n
    by_cases hv : v < 0
    · rw [if_pos hv]; omega
    · rw [if_neg hv]; exact Nat.min_le_right _ _
theorem clip_eq (v : Int) (n d : Nat) : (if v < 0 then max (v + (n : Int)) 0 else min v (n : Int)) = ((sIx n d (some v) : Nat) : Int) := by
  show (if v < 0 then max (v + (n : Int)) 0 else min v (n : Int)) = (((if v < 0 then (v + (n : Int)).toNat else min v.toNat n) : Nat) : Int)
  by_cases hv : v < 0
  · simp only [if_pos hv]; omega
  · simp only [if_neg hv]; omega
theorem adjust_gen (lo hi : Option Int) (n : Nat) : Builtin.Slice.sliceAdjust lo hi 1 (n : Int) = (((sIx n 0 lo : Nat) : Int), ((sIx n n hi : Nat) : Int)) := by
  have h1 : ¬ ((1 : Int) < 0) := by omega
  unfold Builtin.Slice.sliceAdjust
  simp only [h1, if_false]
  refine Prod.ext ?_ ?_
  · cases lo with
    | none => rfl
    | some v => exact clip_eq v n 0
  · cases hi with
    | none => rfl
    | some v => exact clip_eq v n n
theorem places_gen (i j : Nat) : Builtin.Slice.slicePlaces (i : Int) (j : Int) 1 = j - i := by
  unfold Builtin.Slice.slicePlaces
  have h1 : (1 : Int) > 0 := by omega
  simp only [h1, if_true, Int.ediv_one]
  split <;> omega
theorem slicePart_ {v : Value} {o : Option Int} {Q : Option Int → Shared → Prop} (p : IsPart v o) (h : Q o s) : wpAny (model prog w) A (Builtin.Slice.slicePartIndex v) Q E s := by
  cases p with
  | none => exact slicePart_none h
  | int i t => exact slicePart_int h
theorem sliceApplied_gen {sl : Addr} {vl vu : Value} {lo hi : Option Int} {n : Nat} {Q : Int × Int × Nat → Shared → Prop} (hs : s.heap.IsSliceOf sl vl vu .none) (pl : IsPart vl lo) (pu : IsPart vu hi)
    (h : Q (((sIx n 0 lo : Nat) : Int), 1, sIx n n hi - sIx n 0 lo) s) : wpAny (model prog w) A (Builtin.Slice.sliceApplied (.ref sl) (pure (n : Int))) Q E s := by
  obtain ⟨os, hos, hcs, hds⟩ := id hs
  unfold Builtin.Slice.sliceApplied Builtin.Slice.sliceFields
  refine wpAny_bind (wpAny_bind (wpAny_field hos hds (x := vl) rfl (wpAny_bind (wpAny_field hos hds (x := vu) rfl (wpAny_bind (wpAny_field hos hds (x := .none) rfl (wpAny_pure ?_)))))))
  refine wpAny_bind (slicePart_none ?_)
  show wpAny _ _ (if ((1 : Int) == 0) = true then _ else _) _ _ s
  rw [if_neg (by decide)]
  refine wpAny_bind (slicePart_ pl (wpAny_bind (slicePart_ pu (wpAny_bind (wpAny_pure ?_)))))
  show wpAny _ _ (match Builtin.Slice.sliceAdjust lo hi 1 (n : Int) with | (lo, hi) => pure (lo, (1 : Int), Builtin.Slice.slicePlaces lo hi 1)) _ _ s
  rw [adjust_gen lo hi n]
  show wpAny _ _ (pure (((sIx n 0 lo : Nat) : Int), (1 : Int), Builtin.Slice.slicePlaces ((sIx n 0 lo : Nat) : Int) ((sIx n n hi : Nat) : Int) 1)) _ _ s
  rw [places_gen]
  exact wpAny_pure h
theorem pick_gen (xs : Array Value) (i k : Nat) : ((List.range k).filterMap fun (m : Nat) => xs[((i : Int) + (m : Int) * 1).toNat]?).toArray = ((xs.toList.drop i).take k).toArray := by
  have e : (fun (m : Nat) => xs[((i : Int) + (m : Int) * 1).toNat]?) = fun m => xs[i + m]? := by
    funext m
    have : ((i : Int) + (m : Int) * 1).toNat = i + m := by omega
    rw [this]
  rw [e]
  have := pick_run xs i k
  rw [List.filterMap_map] at this
  have e2 : ((fun x => xs[x]?) ∘ fun x => i + x) = fun m => xs[i + m]? := rfl
  rw [e2] at this
  rw [this]
theorem getItem_tuple_cut {t sl : Addr} {items : Array Value} {vl vu : Value} {lo hi : Option Int} {Q : Value → Shared → Prop} (ht : IsTup s.heap t items) (hs : s.heap.IsSliceOf sl vl vu .none) (pl : IsPart vl lo) (pu : IsPart vu hi)
    (hw : ¬ (sIx items.size 0 lo = 0 ∧ sIx items.size items.size hi = items.size))
    (h : Q (.ref s.heap.objs.size) { s with heap := s.heap.push { cls := .type "tuple", data := .seq ((items.toList.drop (sIx items.size 0 lo)).take (sIx items.size items.size hi - sIx items.size 0 lo)).toArray } })
    (hsz : items.size ≤ sizeLine) : wpAny (model prog w) A (getItem (.ref t) (.ref sl)) Q E s := by
  have htake : sizeOk (.seq ((items.toList.drop (sIx items.size 0 lo)).take (sIx items.size items.size hi - sIx items.size 0 lo)).toArray) := by
    show ((items.toList.drop (sIx items.size 0 lo)).take (sIx items.size items.size hi - sIx items.size 0 lo)).toArray.size ≤ sizeLine
    rw [List.size_toArray, List.length_take, List.length_drop, Array.length_toList]
    omega
  have hj : sIx items.size items.size hi ≤ items.size := sIx_le _ _ (Nat.le_refl _) hi
  obtain ⟨os, hos, hcs, hds⟩ := id hs
  have hTs : s.TypeIs (.ref sl) "slice" := ⟨os, hos, hcs⟩
  unfold getItem
  try with_reducible refine wpAny_holding ?_
  first | refine wpAny_bind (wpAny_pure ?_) | skip
  refine wpAny_bind (wpAny_sequenceKey ht.typeIs (by decide) ?_)
  refine wpAny_bind (wpAny_callSpecial?_slot (name := Str.ofString "__getitem__") ht.typeIs PyProof.Rows.slot_tuple_getitem
    (wpAny_call_entry PyProof.Rows.slot_tuple_getitem ht.typeIs entry_tuple_getitem ?_ (args_tuple_getitem _ _)))
  show wpAny _ _ (Builtin.Tuple.tupleItemsOf (.ref t) >>= _) _ _ s
  refine wpAny_bind (tupleItemsOf_ ht ?_)
  refine wpAny_bind (wpAny_typeOf hTs ?_)
  rw [if_pos (by decide)]
  refine wpAny_bind (sliceApplied_gen hs pl pu ?_)
  have hno : ¬ ((((sIx items.size 0 lo : Nat) : Int) == 0 && (1 : Int) == 1 && (sIx items.size items.size hi - sIx items.size 0 lo) == items.size) = true) := by
    intro q
    rw [Bool.and_eq_true, Bool.and_eq_true] at q
    have q1 : ((sIx items.size 0 lo : Nat) : Int) = 0 := eq_of_beq q.1.1
    have q2 : sIx items.size items.size hi - sIx items.size 0 lo = items.size := eq_of_beq q.2
    exact hw ⟨by omega, by omega⟩
  show wpAny _ _ (if (((sIx items.size 0 lo : Nat) : Int) == 0 && (1 : Int) == 1 && (sIx items.size items.size hi - sIx items.size 0 lo) == items.size) = true then _ else _) _ _ s
  rw [if_neg hno, pick_gen]
  first
    | exact wpAny_bind (m := Builtin.Tuple.tupleExact _) (wpAny_newObj_type (wpAny_pure ⟨_, rfl, wpAny_pure h⟩) htake)
    | exact wpAny_bind (m := Builtin.Tuple.tupleExact _) (wpAny_newObj_type (wpAny_bind (wpAny_pure (wpAny_pure ⟨_, rfl, wpAny_pure h⟩))) htake)
    | exact wpAny_bind (wpAny_bind (m := Builtin.Tuple.tupleExact _) (wpAny_newObj_type (wpAny_pure (wpAny_pure ⟨_, rfl, wpAny_pure h⟩)) htake))
    | exact wpAny_bind (wpAny_bind (m := Builtin.Tuple.tupleExact _) (wpAny_newObj_type (wpAny_pure ⟨_, rfl, wpAny_pure h⟩) htake))
end
end HT
namespace L2
open PySem PySem.Spec PyProof.Rows
noncomputable abbrev TO := St → Hp → (Option Int → Hp → Prop) → Prop
noncomputable def PO (X : Cx) (e : Option Expr) (t : TO) : Prop :=
  ∀ (pins : List (Addr × Obj)) (s : Shared) (σ : St) (H : Hp) (Q : Option Int → Hp → Prop), Inv X pins σ H s → t σ H Q →
    wpAny (model X.prog X.w) X.A (evalPart e X.env) (fun u s' => ∃ o H', Inv X pins σ H' s' ∧ IsPart u o ∧ Q o H') X.xe s
noncomputable def tNoPart : TO := fun _ H Q => Q none H
noncomputable def tPart (t : TE) : TO := fun σ H Q => t σ H fun x H1 => ∃ i, x = .int i ∧ Q (some i) H1
section
variable {X : Cx} {e : Expr} {te : TE} {lo hi : Option Expr} {tl th : TO} {pos p2 : Pos}
theorem po_none : PO X none tNoPart := by
  intro pins s σ H Q I h
  rw [evalPart_none]
  exact wpAny_pure ⟨none, H, I, .none, h⟩
theorem po_some (h : PE X e te) : PO X (some e) (tPart te) := by
  intro pins s σ H Q I hw
  rw [evalPart_some]
  refine thn (h pins s σ H _ I hw) fun u s1 ⟨x, H1, I1, r1, q1⟩ => ?_
  obtain ⟨i, rfl, q⟩ := q1
  obtain ⟨t, rfl⟩ := r1
  exact ⟨some i, H1, I1, .int i t, q⟩
noncomputable def SlR (X : Cx) (r : V → Option Int → Option Int → Hp → VK → Prop) : Prop :=
  ∀ (pins : List (Addr × Obj)) (s : Shared) (σ : St) (H : Hp) (x : V) (v vl vu : Value) (lo hi : Option Int) (sl : Addr) (Q : VK), Inv X pins σ H s → RelV x v → s.heap.IsSliceOf sl vl vu .none → IsPart vl lo → IsPart vu hi → r x lo hi H Q →
    ∃ T id, typeLookup (.type T) "__getitem__" = pure (some (.builtin id)) ∧ s.TypeIs v T ∧ wpAny (model X.prog X.w) X.A (getItem v (.ref sl)) (EP X pins σ Q) X.xe s
noncomputable def tSl (r : V → Option Int → Option Int → Hp → VK → Prop) (te : TE) (tl th : TO) : TE := fun σ H Q => te σ H fun x H1 => tl σ H1 fun l H2 => th σ H2 fun u H3 => r x l u H3 Q
theorem pe_slice {r : V → Option Int → Option Int → Hp → VK → Prop} (hr : SlR X r) (he : PE X e te) (hl : PO X lo tl) (hu : PO X hi th) : PE X (.Subscript e (.Slice lo hi none p2) pos) (tSl r te tl th) := by
  intro pins s σ H Q I h
  refine Subscript_ (thn (he pins s σ H _ I h) fun v s1 ⟨x, H1, I1, r1, q1⟩ => ?_)
  refine wpAny_Slice (thn (hl pins s1 σ H1 _ I1 q1) fun vl s2 ⟨l, H2, I2, pl, q2⟩ => thn (hu pins s2 σ H2 _ I2 q2) fun vu s3 ⟨u, H3, I3, pu, q3⟩ => ?_)
  rw [evalPart_none]
  refine wpAny_pure ?_
  have I4 : Inv X pins σ H3 { s3 with heap := s3.heap.push { cls := .type "slice", data := .fields #[vl, vu, .none] } } := I3.kept (t' := s3.toks) fun b ob q => Heap.get?_push_of_some _ q
  obtain ⟨T, id, hT, ht, hg⟩ := hr pins { s3 with heap := s3.heap.push { cls := .type "slice", data := .fields #[vl, vu, .none] } } σ H3 x v vl vu l u s3.heap.objs.size Q I4 r1 (Heap.IsSliceOf.new ..) pl pu q3
  show wpAny (model X.prog X.w) X.A (subscriptTail e (.Slice lo hi none p2) v (.ref s3.heap.objs.size)) (EP X pins σ Q) X.xe { s3 with heap := s3.heap.push { cls := .type "slice", data := .fields #[vl, vu, .none] } }
  exact tail_any (ops := [.ref s3.heap.objs.size, v]) ht hT hg (by with_unfolding_all rfl)
noncomputable def cutV (xs : List V) (lo hi : Option Int) : List V := (xs.drop (HT.sIx xs.length 0 lo)).take (HT.sIx xs.length xs.length hi - HT.sIx xs.length 0 lo)
theorem cutV_length (xs : List V) (lo hi : Option Int) : (cutV xs lo hi).length ≤ xs.length := by
  unfold cutV
  rw [List.length_take, List.length_drop]
  omega
noncomputable def rSlT (K : PySem.W.Frag) : V → Option Int → Option Int → Hp → VK → Prop := fun x lo hi H Q => ∃ a xs, x = .ref a ∧ SqT K H a xs ∧
  ¬ (HT.sIx xs.length 0 lo = 0 ∧ HT.sIx xs.length xs.length hi = xs.length) ∧ ∀ p, H p = none → Q (.ref p) (upd H p (.tup (cutV xs lo hi)))
theorem sl_tup : SlR X (rSlT X.K) := by
  intro pins s σ H x v vl vu lo hi sl Q I rx hs pl pu h
  obtain ⟨a, xs, rfl, hx, hw, q⟩ := h
  cases rx
  obtain ⟨its, r, ht, hz⟩ := I.tuple hx
  have hlen : its.toArray.size = xs.length := by rw [List.size_toArray]; exact r.length.symm
  refine ⟨"tuple", _, PyProof.Rows.slot_tuple_getitem.lookup, ht.typeIs, ?_⟩
  refine HT.getItem_tuple_cut ht hs pl pu (by rw [hlen]; exact hw) ?_ (by rw [hlen]; exact hz)
  rw [hlen]
  refine ⟨.ref s.heap.objs.size, _, I.laid (t' := s.toks) (o := .tup (cutV xs lo hi)) (fun b ob q => Heap.get?_push_of_some _ q) (Nat.le_refl _) ?_, rfl, q _ (I.hok.fresh (Nat.le_refl _))⟩
  exact ⟨Nat.le_trans (cutV_length xs lo hi) hz, _, (r.drop (HT.sIx xs.length 0 lo)).take (HT.sIx xs.length xs.length hi - HT.sIx xs.length 0 lo), IsTup.new _ _⟩
theorem Vals.nil_iff {xs : List V} {us : List Value} (r : Vals xs us) : us = [] ↔ xs = [] := by
  cases r with
  | nil => simp
  | cons _ _ => simp
end
end L2
namespace L2
open PySem PySem.Spec PyProof.Rows
noncomputable def ixN (n : Nat) (i : Int) : Option Nat := if 0 ≤ i then (if i < n then some i.toNat else none) else if -(n : Int) ≤ i then some (i + n).toNat else none
noncomputable def atI {α : Type} (xs : List α) (i : Int) : Option α := (ixN xs.length i).bind fun j => xs[j]?
theorem ixN_seq {n : Nat} {i : Int} {j : Nat} (h : ixN n i = some j) : seqIndex? i n = some j ∧ j < n ∧ -(n : Int) ≤ i ∧ i < n := by
  unfold ixN at h
  by_cases h0 : 0 ≤ i
  · rw [if_pos h0] at h
    by_cases h1 : i < n
    · rw [if_pos h1] at h
      have e : i.toNat = j := Option.some.inj h
      exact ⟨by rw [seqIndex_of h0 h1, e], by omega, by omega, h1⟩
    · rw [if_neg h1] at h; cases h
  · rw [if_neg h0] at h
    by_cases h1 : -(n : Int) ≤ i
    · rw [if_pos h1] at h
      have e : (i + n).toNat = j := Option.some.inj h
      exact ⟨by rw [seqIndex_neg (by omega) h1, e], by omega, h1, by omega⟩
    · rw [if_neg h1] at h; cases h
theorem atI_get {α : Type} {xs : List α} {i : Int} {v : α} (h : atI xs i = some v) : ∃ j, seqIndex? i xs.length = some j ∧ xs[j]? = some v ∧ j < xs.length ∧ -(xs.length : Int) ≤ i ∧ i < xs.length := by
  unfold atI at h
  cases e : ixN xs.length i with
  | none => rw [e] at h; cases h
  | some j =>
    rw [e] at h
    obtain ⟨h1, h2, h3, h4⟩ := ixN_seq e
    exact ⟨j, h1, h, h2, h3, h4⟩
theorem atI_nat {α : Type} {xs : List α} {j : Nat} {v : α} (h : xs[j]? = some v) : atI xs (j : Int) = some v := by
  have hj : j < xs.length := (List.getElem?_eq_some_iff.mp h).1
  have e : ixN xs.length (j : Int) = some j := by
    unfold ixN
    rw [if_pos (by omega), if_pos (by omega)]; simp
  unfold atI; rw [e]; exact h
noncomputable def PlainIx (b : Expr) : Prop := ∀ o i, subscripted b false o i = operate [o, i] (getItem o i)
noncomputable def IxR (X : Cx) (r : R2) : Prop :=
  ∀ (value slice : Expr) (pins : List (Addr × Obj)) (s : Shared) (σ : St) (H : Hp) (x y : V) (v u : Value) (Q : VK), Inv X pins σ H s → RelV x v → RelV y u → r x y H Q →
    subscripted slice false v u = operate [v, u] (getItem v u) → wpAny (model X.prog X.w) X.A (subscriptTail value slice v u) (EP X pins σ Q) X.xe s
noncomputable def MtR (X : Cx) (id : String) (r : V → List V → Hp → VK → Prop) : Prop :=
  ∀ (pins : List (Addr × Obj)) (s : Shared) (σ : St) (H : Hp) (x : V) (xs : List V) (v : Value) (us : List Value) (Q : VK), Inv X pins σ H s → RelV x v → Vals xs us → r x xs H Q →
    wpAny (model X.prog X.w) X.A (call (.builtin id) (v :: us)) (EP X pins σ Q) X.xe s
section
variable {X : Cx} {a b : Expr} {ta tb : TE} {pos : Pos}
theorem pe_ix {r : R2} (hr : IxR X r) (ha : PE X a ta) (hb : PE X b tb) (hs : PlainIx b) : PE X (.Subscript a b pos) (tOp r ta tb) := by
  intro pins s σ H Q I h
  exact Subscript_ (binT ha hb I h fun v u s2 x y H2 I2 rx ry q => hr a b pins s2 σ H2 x y v u Q I2 rx ry q (hs _ _))
noncomputable def rIxL (K : PySem.W.Frag) : R2 := fun x y H Q => ∃ p xs i v, x = .ref p ∧ y = .int i ∧ SqL K H p xs ∧ atI xs i = some v ∧ Q v H
noncomputable def rIxT (K : PySem.W.Frag) : R2 := fun x y H Q => ∃ p xs i v, x = .ref p ∧ y = .int i ∧ SqT K H p xs ∧ atI xs i = some v ∧ Q v H
theorem ix_list : IxR X (rIxL X.K) := by
  intro value slice pins s σ H x y v u Q I rx ry h hs
  obtain ⟨p, xs, i, z, rfl, rfl, hq, he, q⟩ := h
  cases rx
  obtain ⟨t, rfl⟩ := ry
  obtain ⟨its, r, pl, hz⟩ := I.list hq
  obtain ⟨j, h1, h2, h3, h4, h5⟩ := atI_get he
  obtain ⟨w, ew, rw'⟩ := r.get h2
  have hl := r.length
  have hn := line63
  have fin : EP X pins σ Q w s := ⟨z, H, I, rw', q⟩
  by_cases h0 : 0 ≤ i
  · have hj : i.toNat = j := by
      rw [seqIndex_of h0 h5] at h1
      exact Option.some.inj h1
    exact item_listR pl.isList h0 (by omega) (by rw [hj]; simpa using ew) fin hs
  · have hj : (i + (its.toArray.size : Int)).toNat = j := by
      rw [seqIndex_neg (by omega) h4] at h1
      rw [List.size_toArray, ← hl]
      exact Option.some.inj h1
    exact subscriptTail_builtinR (x := w) pl.isList.typeIs slot_list_getitem.lookup
      (wpAny_getItem_list_neg (Q := fun r s' => r = w ∧ EP X pins σ Q r s') pl.isList (by omega) (by rw [List.size_toArray] <;> omega) (by omega) (by rw [hj]; simpa using ew) ⟨rfl, fin⟩) hs
theorem ix_tup : IxR X (rIxT X.K) := by
  intro value slice pins s σ H x y v u Q I rx ry h hs
  obtain ⟨p, xs, i, z, rfl, rfl, hq, he, q⟩ := h
  cases rx
  obtain ⟨t, rfl⟩ := ry
  obtain ⟨its, r, pl, hz⟩ := I.tuple hq
  obtain ⟨j, h1, h2, h3, h4, h5⟩ := atI_get he
  obtain ⟨w, ew, rw'⟩ := r.get h2
  have hl := r.length
  have hn := line63
  have fin : EP X pins σ Q w s := ⟨z, H, I, rw', q⟩
  exact subscriptTail_builtinR (x := w) pl.typeIs slot_tuple_getitem.lookup
    (getItem_tuple (j := j) (Q := fun r s' => r = w ∧ EP X pins σ Q r s') pl (by omega) (by omega) (by rw [List.size_toArray, ← hl]; exact h1) (by simpa using ew) ⟨rfl, fin⟩) hs
theorem mapSeq_set (its : List Value) (n j : Nat) (u : Value) : Obj.mapSeq (·.setIfInBounds j u) { cls := .type "list", data := .seq its.toArray n } = { cls := .type "list", data := .seq (its.set j u).toArray n } := by
  simp [Obj.mapSeq]
theorem Inv.lst {pins : List (Addr × Obj)} {σ : St} {H : Hp} {s : Shared} {p : Addr} {xs : List V} (I : Inv X pins σ H s) (h : H p = some (.lst xs)) :
    ∃ (its : List Value) (n : Nat), Vals xs its ∧ s.heap.get? p = some { cls := .type "list", data := .seq its.toArray n } ∧ xs.length ≤ sizeLine := by
  obtain ⟨z, its, n, r, e⟩ := I.hok p _ h
  exact ⟨its, n, r, e, z⟩
theorem Inv.lstUpd {pins : List (Addr × Obj)} {σ : St} {H : Hp} {s : Shared} {p : Addr} {xs ys : List V} {its its' : List Value} {n n' : Nat} {f : Obj → Obj} (I : Inv X pins σ H s) (h : H p = some (.lst xs))
    (ho : s.heap.get? p = some { cls := .type "list", data := .seq its.toArray n }) (hf : f { cls := .type "list", data := .seq its.toArray n } = { cls := .type "list", data := .seq its'.toArray n' }) (r : Vals ys its') (hz : ys.length ≤ sizeLine) (t : Nat) :
    Inv X pins σ (upd H p (.lst ys)) { s with heap := s.heap.update p f, toks := t } := by
  have e : (s.heap.update p f).get? p = some { cls := .type "list", data := .seq its'.toArray n' } := by
    rw [Heap.get?_update_self f ho (by rw [hf] <;> rfl), hf]
  refine I.write (x := p) (e := p) (by rw [h]; trivial) (.inl rfl) (fun b u hb q => (Heap.get?_update_other _ _ (Ne.symm hb)).trans q) ⟨_, e⟩ ?_
  exact ⟨hz, its', n', r, e⟩
noncomputable def rSetL : V → V → V → Hp → (Hp → Prop) → Prop := fun o i v H Q => ∃ p xs k j, o = .ref p ∧ i = .int k ∧ H p = some (.lst xs) ∧ ixN xs.length k = some j ∧ Q (upd H p (.lst (xs.set j v)))
theorem set_list : PSet X rSetL := by
  intro pins s σ H o i v ov iv u Q I ro ri rv h
  obtain ⟨p, xs, k, j, rfl, rfl, hp, hj, q⟩ := h
  cases ro
  obtain ⟨t, rfl⟩ := ri
  obtain ⟨its, n, r, ho, hz⟩ := I.lst hp
  obtain ⟨h1, h2, h3, h4⟩ := ixN_seq hj
  have hl := r.length
  have hn := line63
  have I' : Inv X pins σ (upd H p (.lst (xs.set j v))) { s with heap := s.heap.update p (Obj.mapSeq (·.setIfInBounds j u)) } :=
    I.lstUpd hp ho (mapSeq_set its n j u) (r.set rv j) (by rw [List.length_set]; exact hz) s.toks
  by_cases h0 : 0 ≤ k
  · have hk : k.toNat = j := by
      rw [seqIndex_of h0 h4] at h1
      exact Option.some.inj h1
    exact PySem.W.ki_setAt ho h0 (by omega) (by rw [List.size_toArray, ← hl]; exact h4) (by rw [hk]; exact ⟨_, I', q⟩)
  · have hk : (k + (its.toArray.size : Int)).toNat = j := by
      rw [seqIndex_neg (by omega) h3] at h1
      rw [List.size_toArray, ← hl]
      exact Option.some.inj h1
    exact PySem.W.ki_setBack ho (by omega) (by rw [List.size_toArray, ← hl]; exact h3) (by omega) (by rw [hk]; exact ⟨_, I', q⟩)
noncomputable def flatV : V → Bool
  | .non => true
  | .bl _ => true
  | .int _ => true
  | .str _ => true
  | _ => false
noncomputable def eqV : V → V → Bool
  | .non, .non => true
  | .bl a, .bl b => a == b
  | .bl a, .int b => (if a then 1 else 0) == b
  | .int a, .bl b => a == (if b then 1 else 0)
  | .int a, .int b => a == b
  | .str a, .str b => a == b
  | _, _ => false
theorem eqAt_V {A : Around} {s : Shared} {y x : V} {u v : Value} (ry : RelV y u) (rx : RelV x v) (fy : flatV y = true) (fx : flatV x = true) : SeqAt.EqAt A s u v (eqV y x) := by
  cases y with
  | non =>
    cases ry
    cases x with
    | non => cases rx; exact SeqAt.EqAt.same _
    | bl b => cases rx; exact SeqAt.EqAt.none_bool b
    | int b => obtain ⟨t, rfl⟩ := rx; exact SeqAt.EqAt.none_int b t
    | str b => obtain ⟨t, rfl⟩ := rx; exact SeqAt.EqAt.none_str b t
    | _ => exact absurd (show false = true from fx) Bool.false_ne_true
  | bl a =>
    cases ry
    cases x with
    | non => cases rx; exact SeqAt.EqAt.bool_none a
    | bl b => cases rx; exact SeqAt.EqAt.bool_bool a b
    | int b => obtain ⟨t, rfl⟩ := rx; exact SeqAt.EqAt.bool_int a b t
    | str b => obtain ⟨t, rfl⟩ := rx; exact SeqAt.EqAt.bool_str a b t
    | _ => exact absurd (show false = true from fx) Bool.false_ne_true
  | int a =>
    obtain ⟨t', rfl⟩ := ry
    cases x with
    | non => cases rx; exact SeqAt.EqAt.int_none a t'
    | bl b => cases rx; exact SeqAt.EqAt.int_bool a t' b
    | int b => obtain ⟨t, rfl⟩ := rx; exact SeqAt.EqAt.int_int a t' b t
    | str b => obtain ⟨t, rfl⟩ := rx; exact SeqAt.EqAt.int_str a t' b t
    | _ => exact absurd (show false = true from fx) Bool.false_ne_true
  | str a =>
    obtain ⟨t', rfl⟩ := ry
    cases x with
    | non => cases rx; exact SeqAt.EqAt.str_none a t'
    | bl b => cases rx; exact SeqAt.EqAt.str_bool a t' b
    | int b => obtain ⟨t, rfl⟩ := rx; exact SeqAt.EqAt.str_int a t' b t
    | str b => obtain ⟨t, rfl⟩ := rx; exact SeqAt.EqAt.str_str a t' b t
    | _ => exact absurd (show false = true from fx) Bool.false_ne_true
  | _ => exact absurd (show false = true from fy) Bool.false_ne_true
theorem call_list_of : CallR X (.type "list") (fun xs H Q => ∃ p ys, xs = [.ref p] ∧ (SqL X.K H p ys ∨ SqT X.K H p ys) ∧ ∀ l, H l = none → Q (.ref l) (upd H l (.lst ys))) := by
  intro pins s σ H xs us Q I r h
  obtain ⟨p, ys, rfl, hq, q⟩ := h
  obtain ⟨u, rfl, rx⟩ := vals1 r
  cases rx
  have fin : ∀ (its : List Value), Vals ys its → ys.length ≤ sizeLine → ∀ (h' : Heap) (c' : Nat), (∀ b o', s.heap.get? b = some o' → h'.get? b = some o') →
      h'.get? s.heap.objs.size = some { cls := .type "list", dict := none, data := .seq its.toArray c', slots := #[] } → EP X pins σ Q (.ref s.heap.objs.size) { s with heap := h' } := fun its r' hz h' c' kp e =>
    ⟨.ref s.heap.objs.size, _, I.laid (t' := s.toks) kp (Nat.le_refl _) (show ObjOk X.prog X.w _ h' _ (.lst ys) from ⟨hz, its, c', r', e⟩), rfl, q _ (I.hok.fresh (Nat.le_refl _))⟩
  rcases hq with hq | hq
  · obtain ⟨its, r', pl, hz⟩ := I.list hq
    have hlen := r'.length
    obtain ⟨o, ho, hc, n, hd⟩ := pl.isList
    exact call_list_seq p (.inl rfl) ho hc hd (fun h' c' kp e => fin its r' hz h' c' kp e) (by simp only [List.size_toArray] <;> omega)
  · obtain ⟨its, r', pl, hz⟩ := I.tuple hq
    have hlen := r'.length
    obtain ⟨o, ho, hc, n, hd⟩ := pl
    exact call_list_seq p (.inr rfl) ho hc hd (fun h' c' kp e => fin its r' hz h' c' kp e) (by simp only [List.size_toArray] <;> omega)
theorem call_tuple_of : CallR X (.type "tuple") (fun xs H Q => ∃ p ys, xs = [.ref p] ∧ ((SqL X.K H p ys ∧ ∀ l, H l = none → Q (.ref l) (upd H l (.tup ys))) ∨ (SqT X.K H p ys ∧ Q (.ref p) H))) := by
  intro pins s σ H xs us Q I r h
  obtain ⟨p, ys, rfl, h⟩ := h
  obtain ⟨u, rfl, rx⟩ := vals1 r
  cases rx
  rcases h with ⟨hq, q⟩ | ⟨hq, q⟩
  · obtain ⟨its, r', pl, hz⟩ := I.list hq
    have hlen := r'.length
    refine call_tuple_list pl.isList (fun h' kp => ?_) (by simp only [List.size_toArray] <;> omega)
    have I1 : Inv X pins σ H { s with heap := h' } := I.kept (t' := s.toks) kp
    have I2 : Inv X pins σ (upd H h'.objs.size (.tup ys)) { s with heap := h'.push { cls := .type "tuple", data := .seq its.toArray } } :=
      I1.laid (t' := s.toks) (fun b o e => Heap.get?_push_of_some _ e) (Nat.le_refl _) (show ObjOk X.prog X.w _ _ _ (.tup ys) from ⟨hz, its, r', IsTup.new _ _⟩)
    exact ⟨.ref h'.objs.size, _, I2, rfl, q _ (I1.hok.fresh (Nat.le_refl _))⟩
  · obtain ⟨its, r', pl, hz⟩ := I.tuple hq
    exact call_tuple_same pl ⟨.ref p, H, I, rfl, q⟩
noncomputable def tyV (K : PySem.W.Frag) (T : String) (x : V) (H : Hp) : Prop := match x with
  | .str _ => T = "str"
  | .int _ => T = "int"
  | .ref p => (T = "list" ∧ ∃ xs, SqL K H p xs) ∨ (T = "tuple" ∧ ∃ o, K.lookup p = some o ∧ o.cls = .type "tuple" ∧ o.dict = none) ∨
      (T = "dict" ∧ ((∃ kvs, H p = some (.dK kvs)) ∨ ∃ kvs, H p = some (.dT kvs))) ∨ (T = "set" ∧ ∃ S n, H p = some (.set S n))
  | _ => False
theorem tyV_is {pins : List (Addr × Obj)} {σ : St} {H : Hp} {s : Shared} {T : String} {x : V} {v : Value} (I : Inv X pins σ H s) (r : RelV x v) (ty : tyV X.K T x H) :
    s.TypeIs v T ∧ ∀ a, v = .ref a → ∃ ob, s.heap.get? a = some ob ∧ ob.dict = none := by
  cases x with
  | str z =>
    obtain ⟨t, rfl⟩ := r
    cases (show T = "str" from ty)
    exact ⟨typeIs_str s z t, fun _ e => nomatch e⟩
  | int i =>
    obtain ⟨t, rfl⟩ := r
    cases (show T = "int" from ty)
    exact ⟨typeIs_int s i t, fun _ e => nomatch e⟩
  | ref p =>
    cases r
    rcases ty with ⟨rfl, xs, hq⟩ | ⟨rfl, o, hk, hc, hd⟩ | ⟨rfl, hk⟩ | ⟨rfl, S, n, hk⟩
    · obtain ⟨its, _, pl, _⟩ := I.list hq
      refine ⟨pl.isList.typeIs, fun a e => ?_⟩
      cases e
      obtain ⟨o, n, e, c, hd, _⟩ := pl
      exact ⟨o, e, hd⟩
    · refine ⟨⟨o, I.kIn p o hk, hc⟩, fun a e => ?_⟩
      cases e
      exact ⟨o, I.kIn _ o hk, hd⟩
    · have z : ∃ o, s.heap.get? p = some o ∧ o.ExactDict := by
        rcases hk with ⟨kvs, hk⟩ | ⟨kvs, hk⟩
        · obtain ⟨_, _, _, _, o, _, _, e, ex, _⟩ := I.hok p _ hk
          exact ⟨o, e, ex⟩
        · obtain ⟨_, _, _, _, o, _, _, e, ex, _⟩ := I.hok p _ hk
          exact ⟨o, e, ex⟩
      obtain ⟨o, e, ex⟩ := z
      refine ⟨⟨o, e, ex.1⟩, fun a e2 => ?_⟩
      cases e2
      exact ⟨o, e, ex.2.1⟩
    · obtain ⟨o, _, _, _, e, ex, _⟩ := I.hok p _ hk
      refine ⟨⟨o, e, ex.1⟩, fun a e2 => ?_⟩
      cases e2
      exact ⟨o, e, ex.2.1⟩
  | _ => exact False.elim ty
noncomputable def tBM (K : PySem.W.Frag) (T : String) (r : V → List V → Hp → VK → Prop) (to : TE) (t : TA) : TE := fun σ H Q => to σ H fun x H1 => tyV K T x H1 ∧ t σ H1 fun xs H2 => r x xs H2 Q
variable {o e : Expr} {es : List Expr} {to : TE} {t : TA} {name : Str} {apos cpos : Pos} {T id : String} {r : V → List V → Hp → VK → Prop}
theorem pe_bm (pa : PlainAttrs T) (slot : Slot T name id) (hty : typeOf (.builtin id) = pure (.type "method_descriptor")) (hm : MtR X id r) (ho : PE X o to) (ha : PA X (e :: es) t)
    (hbase : attributeBase o name X.env (eval o X.env) = eval o X.env := by rfl)
    (hfew : ((backTo cpos (starEach (e :: es) X.env)).all (fun x => !x.1) && (backToKw cpos (keywordEach [] X.env)).all (fun x => x.1.isSome)
      && decide ((e :: es).length + ([] : List Keyword).length + (if ([] : List Keyword).isEmpty then 0 else 1) < 30)) = true := by rfl)
    (hline : (apos.endLine == cpos.line) = true := by rfl) (hs : starEach (e :: es) X.env = (false, eval e X.env) :: starEach es X.env := by rfl) (hplain : (backTo cpos (starEach es X.env)).any (·.1) = false := by rfl) :
    PE X (.Call (.Attribute o name apos) (e :: es) [] cpos) (tBM X.K T r to t) := by
  intro pins s σ H Q I h
  refine wpAny_Call_method_late hbase hfew hline rfl (thn (ho pins s σ H _ I h) fun v s1 ⟨x, H1, I1, r1, ty, q1⟩ => ?_)
  obtain ⟨h1, h2⟩ := tyV_is I1 r1 ty
  refine ⟨T, id, pa, slot, hty, h1, h2, ?_⟩
  have hA := ha cpos pins s1 σ H1 _ I1 q1
  rw [hs] at hA ⊢
  refine Calls.callWith_builtin (by show (false || (backTo cpos (starEach es X.env)).any (·.1)) = false; rw [hplain] <;> rfl) (Calls.evalArgs_plain ?_)
  exact thn hA fun us s2 ⟨vs, H2, I2, r2, q2⟩ => hm pins s2 σ H2 x vs v us Q I2 r1 r2 q2
end
end L2
namespace L2
open PySem PySem.Spec PyProof.Rows
noncomputable def MtM (X : Cx) (id : String) (r : V → List V → Hp → VK → Prop) : Prop :=
  ∀ (pins : List (Addr × Obj)) (s : Shared) (σ : St) (H : Hp) (x : V) (xs : List V) (v : Value) (us : List Value) (Q : VK), Inv X pins σ H s → RelV x v → Vals xs us → r x xs H Q →
    wpAny (model X.prog X.w) X.A (call (.builtin id) (v :: us)) (EP X pins σ Q) X.xe s
theorem Vals.one : ∀ {x : V} {us : List Value}, Vals [x] us → ∃ u, us = [u] ∧ RelV x u
  | _, _, .cons r .nil => ⟨_, rfl, r⟩
theorem Vals.two : ∀ {x y : V} {us : List Value}, Vals [x, y] us → ∃ u v, us = [u, v] ∧ RelV x u ∧ RelV y v
  | _, _, _, .cons r (.cons q .nil) => ⟨_, _, rfl, r, q⟩
section
variable {X : Cx} {pins : List (Addr × Obj)} {σ : St} {H : Hp} {s : Shared} {l b : Addr} {xs ys zs : List V}
theorem Inv.lset {its its' : List Value} {n : Nat} {f : Array Value → Array Value} {t' : Nat} (I : Inv X pins σ H s) (hH : H l = some (.lst xs))
    (e : s.heap.get? l = some { cls := .type "list", data := .seq its.toArray n }) (hf : f its.toArray = its'.toArray) (hv : Vals ys its') (hz : ys.length ≤ sizeLine) :
    Inv X pins σ (upd H l (.lst ys)) { s with heap := s.heap.update l (Obj.mapSeq f), toks := t' } := by
  have q := PySem.IsL.update e f
  rw [hf] at q
  refine I.write (x := l) (e := l) (by rw [hH]; exact trivial) (.inl rfl) (fun b' u hb hu => (Heap.get?_update_other s.heap (Obj.mapSeq f) (Ne.symm hb)).trans hu) ⟨_, q⟩ ?_
  exact ⟨hz, its', _, hv, q⟩
theorem Inv.lnew {its : List Value} {t' : Nat} (I : Inv X pins σ H s) (hv : Vals ys its) (hz : ys.length ≤ sizeLine) :
    Inv X pins σ (upd H s.heap.objs.size (.lst ys)) { s with heap := s.heap.push { cls := .type "list", data := .seq its.toArray }, toks := t' } :=
  I.laid (fun _ _ q => Heap.get?_push_of_some _ q) (Nat.le_refl _) ⟨hz, its, 0, hv, Heap.get?_push_size _ rfl⟩
theorem Inv.fresh (I : Inv X pins σ H s) : H s.heap.objs.size = none := I.hok.fresh (Nat.le_refl _)
theorem Inv.lstM (I : Inv X pins σ H s) (hH : H l = some (.lst xs)) : xs.length ≤ sizeLine ∧ ∃ (its : List Value) (n : Nat), Vals xs its ∧ xs.length = its.length ∧ s.heap.get? l = some { cls := .type "list", data := .seq its.toArray n } := by
  obtain ⟨z, its, n, r, e⟩ := I.hok l _ hH
  exact ⟨z, its, n, r, r.length, e⟩
end
section
variable {X : Cx}
noncomputable def rAppend : V → List V → Hp → VK → Prop := fun x vs H Q => ∃ l xs y, x = .ref l ∧ vs = [y] ∧ H l = some (.lst xs) ∧ xs.length < sizeLine ∧ Q .non (upd H l (.lst (xs ++ [y])))
theorem mt_append : MtM X "list.append" rAppend := by
  intro pins s σ H x vs v us Q I rx rv h
  obtain ⟨l, xs, y, rfl, rfl, hH, hz, q⟩ := h
  cases rx
  obtain ⟨u, rfl, ru⟩ := rv.one
  obtain ⟨z, its, n, r, hl, e⟩ := I.lstM hH
  refine call_meets F.slot_list_append ⟨_, e, rfl⟩ F.entry_list_append (F.args_list_append_2 _ _) (PySem.list_append l its.toArray n u (by rw [List.size_toArray]; omega)) ⟨e, ?_⟩
  refine ⟨.non, _, I.lset (its' := its ++ [u]) hH e (by simp) (r.append (.cons ru .nil)) ?_, rfl, q⟩
  rw [List.length_append, List.length_singleton]
  omega
noncomputable def rCat : R2 := fun x y H Q => ∃ l b xs zs, x = .ref l ∧ y = .ref b ∧ H l = some (.lst xs) ∧ H b = some (.lst zs) ∧ xs.length + zs.length ≤ sizeLine ∧ ∀ p, H p = none → Q (.ref p) (upd H p (.lst (xs ++ zs)))
theorem op_cat : OpR X (binaryOp .Add) rCat := by
  intro pins s σ H x y v u Q I rx ry h
  obtain ⟨l, b, xs, zs, rfl, rfl, hH, hB, hz, q⟩ := h
  cases rx
  cases ry
  obtain ⟨z, its, n, r, hl, e⟩ := I.lstM hH
  obtain ⟨z2, its2, n2, r2, hl2, e2⟩ := I.lstM hB
  refine PySem.P.add_list e e2 ?_ (by rw [List.size_toArray, List.size_toArray]; omega)
  have ea : its.toArray ++ its2.toArray = (its ++ its2).toArray := by simp
  rw [ea]
  exact ⟨.ref _, _, I.lnew (t' := s.toks) (r.append r2) (by rw [List.length_append]; omega), rfl, q _ I.fresh⟩
end
section
variable {prog : Program} {w : World} {A : Around} {E : Value → Shared → Prop} {s : Shared}
set_option maxRecDepth 100000 in
end
section
variable {X : Cx}
end
end L2
namespace L2
open PySem PySem.Spec PyProof.Rows
section
variable {κ : Type} [DecidableEq κ]
noncomputable def valV (kvs : List (κ × V)) (k : κ) : Option V := (kvs.find? fun kv => decide (kv.1 = k)).map (·.2)
noncomputable def putK (kvs : List (κ × V)) (k : κ) (v : V) : List (κ × V) :=
  if (kvs.any fun kv => decide (kv.1 = k)) = true then kvs.map (fun kv => if kv.1 = k then (kv.1, v) else kv) else kvs ++ [(k, v)]
noncomputable def dropK (kvs : List (κ × V)) (k : κ) : List (κ × V) := kvs.filter fun kv => decide (kv.1 ≠ k)
theorem valV_pos {p : κ × V} {r : List (κ × V)} {k : κ} (e : p.1 = k) : valV (p :: r) k = some p.2 := by simp [valV, List.find?_cons, e]
theorem valV_neg {p : κ × V} {r : List (κ × V)} {k : κ} (e : ¬ p.1 = k) : valV (p :: r) k = valV r k := by simp [valV, List.find?_cons, e]
theorem valV_any (k : κ) : ∀ kvs : List (κ × V), (kvs.any fun kv => decide (kv.1 = k)) = (valV kvs k).isSome
  | [] => rfl
  | p :: r => by
    rw [List.any_cons]
    by_cases e : p.1 = k
    · simp only [valV_pos e, decide_eq_true e, Bool.true_or, Option.isSome_some]
    · rw [valV_neg e, decide_eq_false e, Bool.false_or]; exact valV_any k r
theorem length_putK (kvs : List (κ × V)) (k : κ) (v : V) : (putK kvs k v).length ≤ kvs.length + 1 := by
  unfold putK
  split
  · rw [List.length_map]; omega
  · rw [List.length_append, List.length_cons, List.length_nil]; omega
theorem RelO.isSome_eq {o : Option V} {u : Option Value} (r : RelO o u) : o.isSome = u.isSome := by
  cases o with
  | none => cases u with
    | none => rfl
    | some _ => exact (show False from r).elim
  | some _ => cases u with
    | none => exact (show False from r).elim
    | some _ => rfl
theorem KV.val {kvs : List (κ × V)} {vs : List (κ × Value)} (r : KV kvs vs) (k : κ) : RelO (valV kvs k) (valueAt vs k) := by
  unfold KV at r
  induction r with
  | nil => exact True.intro
  | @cons p q ps qs h t ih =>
    obtain ⟨h1, h2⟩ := h
    by_cases e : p.1 = k
    · have e' : q.1 = k := h1.symm.trans e
      have b : valueAt (q :: qs) k = some q.2 := by simp [valueAt, List.find?_cons, e']
      rw [valV_pos e, b]; exact h2
    · have e' : ¬ q.1 = k := fun z => e (h1.trans z)
      have b : valueAt (q :: qs) k = valueAt qs k := by simp [valueAt, List.find?_cons, e']
      rw [valV_neg e, b]; exact ih
theorem KV.any {kvs : List (κ × V)} {vs : List (κ × Value)} (r : KV kvs vs) (k : κ) : (kvs.any fun kv => decide (kv.1 = k)) = vs.any fun kv => decide (kv.1 = k) := by
  unfold KV at r
  induction r with
  | nil => rfl
  | cons h t ih => rw [List.any_cons, List.any_cons, ih, h.1]
theorem KV.repl {kvs : List (κ × V)} {vs : List (κ × Value)} (r : KV kvs vs) (k : κ) {y : V} {u : Value} (ry : RelV y u) :
    KV (kvs.map fun kv => if kv.1 = k then (kv.1, y) else kv) (vs.map fun kv => if kv.1 = k then (kv.1, u) else kv) := by
  unfold KV at r ⊢
  induction r with
  | nil => exact .nil
  | @cons p q ps qs h t ih =>
    rw [List.map_cons, List.map_cons]
    refine .cons ?_ ih
    obtain ⟨h1, h2⟩ := h
    by_cases e : p.1 = k
    · rw [if_pos e, if_pos (h1.symm.trans e)]; exact ⟨h1, ry⟩
    · rw [if_neg e, if_neg (fun z => e (h1.trans z))]; exact ⟨h1, h2⟩
theorem KV.put {kvs : List (κ × V)} {vs : List (κ × Value)} (r : KV kvs vs) (k : κ) {y : V} {u : Value} (ry : RelV y u) : KV (putK kvs k y) (stored vs k u) := by
  unfold putK stored
  rw [r.any k]
  by_cases e : (vs.any fun kv => decide (kv.1 = k)) = true
  · rw [if_pos e, if_pos e]; exact r.repl k ry
  · rw [if_neg e, if_neg e]; exact Paired.snoc r ⟨rfl, ry⟩
theorem KV.length {kvs : List (κ × V)} {vs : List (κ × Value)} (r : KV kvs vs) : kvs.length = vs.length := Paired.length r
theorem dropK_le (kvs : List (κ × V)) (k : κ) : (dropK kvs k).length ≤ kvs.length := List.length_filter_le _ _
end
theorem kV_is {P : Program} {w : World} {k : Key} {u : Value} (r : RelV (kV k) u) : (mixKind P w).is k u = true := by
  cases k with
  | inl i => obtain ⟨t, e⟩ := (show ∃ t, u = Value.int i t from r); subst e; exact mixKind_int P w i t
  | inr x => obtain ⟨t, e⟩ := (show ∃ t, u = Value.str x t from r); subst e; exact mixKind_str P w x t
theorem items_are {P : Program} {w : World} : ∀ {ks : List Key} {us : List Value}, Vals (ks.map kV) us → ItemsAre (mixKind P w) ks us
  | [], _, r => by rw [List.map_nil] at r; cases r; exact .nil
  | k :: ks, _, r => by
    rw [List.map_cons] at r
    cases r with
    | cons h t => exact .cons (kV_is h) (items_are t)
noncomputable abbrev KT (H : Hp) : List (List Key × V) → List (List Key × Addr × Value) → Prop := Paired fun p q => p.1 = q.1 ∧ H q.2.1 = some (.tup (p.1.map kV)) ∧ RelV p.2 q.2.2
theorem KT.val {H : Hp} {kvs : List (List Key × V)} {xs : List (List Key × Addr × Value)} (r : KT H kvs xs) (k : List Key) : RelO (valV kvs k) ((atKey xs k).map (·.2)) := by
  induction r with
  | nil => exact True.intro
  | @cons p q ps qs h t ih =>
    obtain ⟨h1, _, h2⟩ := h
    by_cases e : p.1 = k
    · have e' : q.1 = k := h1.symm.trans e
      have b : atKey (q :: qs) k = some q.2 := by simp [atKey, List.find?_cons, e']
      rw [valV_pos e, b]; exact h2
    · have e' : ¬ q.1 = k := fun z => e (h1.trans z)
      have b : atKey (q :: qs) k = atKey qs k := by simp [atKey, List.find?_cons, e']
      rw [valV_neg e, b]; exact ih
theorem KT.repl {H : Hp} {kvs : List (List Key × V)} {xs : List (List Key × Addr × Value)} (r : KT H kvs xs) (k : List Key) {y : V} {u : Value} (ry : RelV y u) :
    KT H (kvs.map fun kv => if kv.1 = k then (kv.1, y) else kv) (xs.map (putAt k u)) := by
  induction r with
  | nil => exact .nil
  | @cons p q ps qs h t ih =>
    rw [List.map_cons, List.map_cons]
    refine .cons ?_ ih
    obtain ⟨h1, h2, h3⟩ := h
    unfold putAt
    by_cases e : p.1 = k
    · rw [if_pos e, if_pos (h1.symm.trans e)]; exact ⟨h1, h2, ry⟩
    · rw [if_neg e, if_neg (fun z => e (h1.trans z))]; exact ⟨h1, h2, h3⟩
theorem KT.put {H : Hp} {kvs : List (List Key × V)} {xs : List (List Key × Addr × Value)} (r : KT H kvs xs) (k : List Key) {b : Addr} {y : V} {u : Value} (hb : H b = some (.tup (k.map kV))) (ry : RelV y u) :
    KT H (putK kvs k y) (storedH xs k b u) := by
  have e : (kvs.any fun kv => decide (kv.1 = k)) = (atKey xs k).isSome := by
    rw [valV_any, (r.val k).isSome_eq, Option.isSome_map]
  unfold putK storedH
  rw [e]
  by_cases q : (atKey xs k).isSome = true
  · rw [if_pos q, if_pos q]; exact r.repl k ry
  · rw [if_neg q, if_neg q]; exact Paired.snoc r ⟨rfl, hb, ry⟩
theorem KT.keeps {H H' : Hp} {kvs : List (List Key × V)} {xs : List (List Key × Addr × Value)} (r : KT H kvs xs) (ht : ∀ b ys, H b = some (.tup ys) → H' b = some (.tup ys)) : KT H' kvs xs :=
  Paired.mapP r fun _ _ z => ⟨z.1, ht _ _ z.2.1, z.2.2⟩
section
variable {P : Program} {w : World} {H : Hp} {h : Heap} {a : Addr}
theorem rd_of {u : HO} (ok : HOk P w H h) (e : Rd H a u) : ObjOk P w H h a u := e.ok ok
theorem dk_rd {kvs : List (Key × V)} (ok : HOk P w H h) (e : Rd H a (.dK kvs)) : kvs.length ≤ sizeLine ∧ (a == sysModules) = false ∧ ∃ vs, KV kvs vs ∧ h.DictOf (mixKind P w) a vs :=
  show ObjOk P w H h a (.dK kvs) from rd_of ok e
theorem dk_of {kvs : List (Key × V)} (ok : HOk P w H h) (e : H a = some (.dK kvs)) : kvs.length ≤ sizeLine ∧ (a == sysModules) = false ∧ ∃ vs, KV kvs vs ∧ h.DictOf (mixKind P w) a vs := dk_rd ok (.inl e)
theorem key_of {ks : List Key} (ok : HOk P w H h) (e : H a = some (.tup (ks.map kV))) : (tupleKind (mixKind P w)).is h ks a := by
  obtain ⟨_, its, r, o, h1, h2, n, h3⟩ := (show ObjOk P w H h a (.tup (ks.map kV)) from ok a _ e)
  exact ⟨o, its.toArray, n, h1, h2, h3, by simpa using items_are r⟩
theorem dt_rd {kvs : List (List Key × V)} (ok : HOk P w H h) (e : Rd H a (.dT kvs)) : kvs.length ≤ sizeLine ∧ (a == sysModules) = false ∧
    ∃ xs, KT H kvs xs ∧ h.DictOfH (tupleKind (mixKind P w)) a xs := by
  obtain ⟨z, y, xs, r, o, es, ep, h1, h2, h3, h4, h5⟩ := (show ObjOk P w H h a (.dT kvs) from rd_of ok e)
  refine ⟨z, y, xs, r, o, es, ep, h1, h2, h3, h4, fun x hx => ?_, h5⟩
  have all : ∀ {l : List (List Key × V)} {m : List (List Key × Addr × Value)}, KT H l m → ∀ x ∈ m, (tupleKind (mixKind P w)).is h x.1 x.2.1 := by
    intro l m q
    induction q with
    | nil => intro x hx; exact nomatch hx
    | @cons p q ps qs hq t ih =>
      intro x hx
      rcases List.mem_cons.mp hx with e | hx
      · subst e
        exact key_of ok (by rw [← hq.1]; exact hq.2.1)
      · exact ih x hx
  exact all r x hx
theorem dt_of {kvs : List (List Key × V)} (ok : HOk P w H h) (e : H a = some (.dT kvs)) : kvs.length ≤ sizeLine ∧ (a == sysModules) = false ∧
    ∃ xs, KT H kvs xs ∧ h.DictOfH (tupleKind (mixKind P w)) a xs := dt_rd ok (.inl e)
end
noncomputable def DGet (H : Hp) (a : Addr) (y : V) (r : Option V) : Prop :=
  (∃ kvs k, Rd H a (.dK kvs) ∧ y = kV k ∧ r = valV kvs k) ∨ ∃ kvs k b, Rd H a (.dT kvs) ∧ y = .ref b ∧ H b = some (.tup (k.map kV)) ∧ r = valV kvs k
noncomputable def DPut (H : Hp) (a : Addr) (y v : V) (H' : Hp) : Prop :=
  (∃ kvs k, H a = some (.dK kvs) ∧ y = kV k ∧ kvs.length < sizeLine ∧ H' = upd H a (.dK (putK kvs k v))) ∨
  ∃ kvs k b, H a = some (.dT kvs) ∧ y = .ref b ∧ H b = some (.tup (k.map kV)) ∧ kvs.length < sizeLine ∧ H' = upd H a (.dT (putK kvs k v))
theorem DGet.t {H : Hp} {a b : Addr} {kvs : List (List Key × V)} {k : List Key} (e : H a = some (.dT kvs)) (eb : H b = some (.tup (k.map kV))) : DGet H a (.ref b) (valV kvs k) := .inr ⟨kvs, k, b, .inl e, rfl, eb, rfl⟩
theorem DPut.t {H : Hp} {a b : Addr} {kvs : List (List Key × V)} {k : List Key} {v : V} (e : H a = some (.dT kvs)) (eb : H b = some (.tup (k.map kV))) (hl : kvs.length < sizeLine) :
    DPut H a (.ref b) v (upd H a (.dT (putK kvs k v))) := .inr ⟨kvs, k, b, e, rfl, eb, hl, rfl⟩
section
variable {X : Cx} {pins : List (Addr × Obj)} {σ : St} {H : Hp} {s : Shared} {a : Addr} {y v : V} {u r : Value} {o : Option V} {A : Around} {E : Value → Shared → Prop}
theorem Inv.big (I : Inv X pins σ H s) : sysModules < s.heap.objs.size := by
  have h : mainGlobals < s.heap.objs.size := (I.mod.glob.keeps I.bk).lt
  exact Nat.lt_trans (by decide) h
theorem d_getItem {Q : Value → Shared → Prop} (hu : A.units + 1 < cLine) (I : Inv X pins σ H s) (g : DGet H a y (some v)) (ry : RelV y u) (h : ∀ w' s', Inv X pins σ H s' → RelV v w' → Q w' s') :
    wpAny (model X.prog X.w) A (getItem (.ref a) u) Q E s := by
  rcases g with ⟨kvs, k, e, ey, l⟩ | ⟨kvs, k, b, e, ey, eb, l⟩
  · subst ey
    obtain ⟨z, hd, vs, rel, dd⟩ := dk_rd I.hok e
    obtain ⟨w', hw, rw'⟩ := RelO.some_of (v := v) (o := valueAt vs k) (by rw [l]; exact rel.val k)
    exact wpAny_getItem_of (kV_is ry) dd.mapOf hw (h w' _ (I.tok _) rw')
  · subst ey
    cases (show u = Value.ref b from ry)
    obtain ⟨z, hd, xs, rel, dd⟩ := dt_rd I.hok e
    obtain ⟨w', hw, rw'⟩ := RelO.some_of (v := v) (o := (atKey xs k).map (·.2)) (by rw [l]; exact rel.val k)
    obtain ⟨p, hp, hp2⟩ := Option.map_eq_some_iff.mp hw
    refine wpAny_getItem_heap (tupleKind_room_in1 hu) (key_of I.hok eb) dd hp ?_
    rw [hp2]
    exact h w' _ (I.tok _) rw'
theorem d_in {Q : Value → Shared → Prop} (hu : A.units + 1 < cLine) (I : Inv X pins σ H s) (g : DGet H a y o) (ry : RelV y u) (h : ∀ s', Inv X pins σ H s' → Q (.bool o.isSome) s') :
    wpAny (model X.prog X.w) A (compareOp .In u (.ref a)) Q E s := by
  rcases g with ⟨kvs, k, e, ey, l⟩ | ⟨kvs, k, b, e, ey, eb, l⟩
  · subst ey
    obtain ⟨z, hd, vs, rel, dd⟩ := dk_rd I.hok e
    refine wpAny_in_of (kV_is ry) hd dd.mapOf ?_
    rw [← (rel.val k).isSome_eq, ← l]
    exact h _ (I.tok _)
  · subst ey
    cases (show u = Value.ref b from ry)
    obtain ⟨z, hd, xs, rel, dd⟩ := dt_rd I.hok e
    refine wpAny_in_heap (tupleKind_room_in1 hu) (key_of I.hok eb) hd dd ?_
    have q := (rel.val k).isSome_eq
    rw [Option.isSome_map] at q
    rw [← q, ← l]
    exact h _ (I.tok _)
theorem d_notIn {Q : Value → Shared → Prop} (hu : A.units + 1 < cLine) (I : Inv X pins σ H s) (g : DGet H a y o) (ry : RelV y u) (h : ∀ s', Inv X pins σ H s' → Q (.bool (!o.isSome)) s') :
    wpAny (model X.prog X.w) A (compareOp .NotIn u (.ref a)) Q E s := by
  rcases g with ⟨kvs, k, e, ey, l⟩ | ⟨kvs, k, b, e, ey, eb, l⟩
  · subst ey
    obtain ⟨z, hd, vs, rel, dd⟩ := dk_rd I.hok e
    refine wpAny_notIn_of (kV_is ry) hd dd.mapOf ?_
    rw [← (rel.val k).isSome_eq, ← l]
    exact h _ (I.tok _)
  · subst ey
    cases (show u = Value.ref b from ry)
    obtain ⟨z, hd, xs, rel, dd⟩ := dt_rd I.hok e
    refine wpAny_notIn_heap (tupleKind_room_in1 hu) (key_of I.hok eb) hd dd ?_
    have q := (rel.val k).isSome_eq
    rw [Option.isSome_map] at q
    rw [← q, ← l]
    exact h _ (I.tok _)
theorem d_write {h' : Heap} {t' : Nat} {ob : HO} (I : Inv X pins σ H s) (mu : Mut (H a)) (hs : Heap.SameBut a s.heap h') (he : ∃ q, h'.get? a = some q) (new : ObjOk X.prog X.w (upd H a ob) h' a ob) :
    Inv X pins σ (upd H a ob) { s with heap := h', toks := t' } :=
  I.write (x := a) (e := a) mu (.inl rfl) (fun b q hb z => (hs.2 b hb).trans z) he new
theorem dk_new {P : Program} {w : World} {H' : Hp} {h' : Heap} {kvs : List (Key × V)} {vs : List (Key × Value)} (z : kvs.length ≤ sizeLine) (hd : (a == sysModules) = false) (rel : KV kvs vs) (dd : h'.DictOf (mixKind P w) a vs) :
    ObjOk P w H' h' a (.dK kvs) := ⟨z, hd, vs, rel, dd⟩
theorem d_setItem {H' : Hp} {Q : Unit → Shared → Prop} (hu : A.units + 1 < cLine) (I : Inv X pins σ H s) (g : DPut H a y v H') (ry : RelV y u) (rv : RelV v r) (h : ∀ s', Inv X pins σ H' s' → Q () s') :
    wpAny (model X.prog X.w) A (setItem (.ref a) u r) Q E s := by
  rcases g with ⟨kvs, k, e, ey, l, eH⟩ | ⟨kvs, k, b, e, ey, eb, l, eH⟩
  · subst ey eH
    obtain ⟨z, hd, vs, rel, dd⟩ := dk_of I.hok e
    have hz : vs.length ≤ sizeLine := by rw [← rel.length]; exact z
    have hl : (putK kvs k v).length ≤ sizeLine := by have := length_putK kvs k v; omega
    refine wpAny_setItem_pairs (hsz := hz) (kV_is ry) dd fun h' dd' hs => h _ ?_
    have he : ∃ q, h'.get? a = some q := let ⟨q, _, _, hq, _⟩ := dd'; ⟨q, hq⟩
    exact d_write I (by rw [e]; exact True.intro) hs he (dk_new hl hd (rel.put k rv) dd')
  · subst ey eH
    cases (show u = Value.ref b from ry)
    obtain ⟨z, hd, xs, rel, dd⟩ := dt_of I.hok e
    have hz : xs.length ≤ sizeLine := by rw [← Paired.length rel]; exact z
    have hl : (putK kvs k v).length ≤ sizeLine := by have := length_putK kvs k v; omega
    refine wpAny_setItem_heap (hsz := hz) (tupleKind_room_in1 hu) (key_of I.hok eb) dd fun h' dd' hs => h _ ?_
    obtain ⟨q, es, ep, hq, h2, h3, h4, _, h5⟩ := dd'
    refine d_write I (by rw [e]; exact True.intro) hs ⟨q, hq⟩ ⟨hl, hd, _, (rel.put k eb rv).keeps fun c ys ec => ?_, q, es, ep, hq, h2, h3, h4, h5⟩
    rw [upd_ne (ne_of ec e (fun z => nomatch z))]
    exact ec
end
section
variable {X : Cx} {pins : List (Addr × Obj)} {σ : St} {H : Hp} {s : Shared} {a : Addr} {kvs : List (Key × V)} {k : Key} {u : Value} {A : Around} {E : Value → Shared → Prop}
end
noncomputable def NoSl (i : Expr) : Prop := ∀ ov iv, subscripted i false ov iv = operate [ov, iv] (getItem ov iv)
theorem subD_of {prog : Program} {w : World} {A : Around} {E : Value → Shared → Prop} {s : Shared} {env : Env} {value slice : Expr} {pos : Pos} {T id : String} {Q : Value → Shared → Prop}
    (hl : typeLookup (.type T) "__getitem__" = pure (some (.builtin id))) (hs : NoSl slice)
    (h : wpAny (model prog w) A (eval value env) (fun o s₁ => wpAny (model prog w) A (eval slice env) (fun i s₂ => s₂.TypeIs o T ∧ wpAny (model prog w) A (getItem o i) Q E s₂) E s₁) E s) :
    wpAny (model prog w) A (eval (.Subscript value slice pos) env) Q E s := by
  refine Subscript_ (wpAny_mono h (fun o s₁ h₁ => wpAny_mono h₁ (fun i s₂ h₂ => ?_) fun _ _ x => x) fun _ _ x => x)
  obtain ⟨hT, h₂⟩ := h₂
  unfold subscriptTail
  refine wpAny_bind ?_
  rw [getitemInPython_of_ne hT.not_modules]
  refine wpAny_bind (wpAny_specialOf hT hl ?_)
  have fin : wpAny (model prog w) A (subscripted slice false o i) (fun r s₃ => wpAny (model prog w) A (letTemporaryGo value o r >>= fun _ => pure r) Q E s₃) E s₂ := by
    rw [hs o i]
    exact wpAny_operating (wpAny_mono h₂ (fun r s₃ h₃ => wpAny_bind (wpAny_letTemporaryGo (wpAny_pure h₃))) fun _ _ x => x)
  first
    | exact wpAny_pure (wpAny_bind fin)
    | exact wpAny_bind (wpAny_pure (wpAny_bind fin))
    | exact wpAny_bind fin
theorem dict_typeIs {X : Cx} {pins : List (Addr × Obj)} {σ : St} {H : Hp} {s : Shared} {a : Addr} {y : V} {o : Option V} (I : Inv X pins σ H s) (g : DGet H a y o) : s.TypeIs (.ref a) "dict" := by
  rcases g with ⟨kvs, k, e, _, _⟩ | ⟨kvs, k, b, e, _, _, _⟩
  · obtain ⟨_, _, vs, _, dd⟩ := dk_rd I.hok e
    exact dd.typeIs
  · obtain ⟨_, _, xs, _, dd⟩ := dt_rd I.hok e
    exact dd.typeIs
noncomputable def tDGet (td ty : TE) : TE := fun σ H Q => td σ H fun x H1 => ty σ H1 fun y H2 => ∃ a v, x = .ref a ∧ DGet H2 a y (some v) ∧ Q v H2
noncomputable def tDIn (ty td : TE) : TE := fun σ H Q => ty σ H fun y H1 => td σ H1 fun x H2 => ∃ a o, x = .ref a ∧ DGet H2 a y o ∧ Q (.bl o.isSome) H2
noncomputable def tDNotIn (ty td : TE) : TE := fun σ H Q => ty σ H fun y H1 => td σ H1 fun x H2 => ∃ a o, x = .ref a ∧ DGet H2 a y o ∧ Q (.bl (!o.isSome)) H2
noncomputable def sDPut (td ty tv : TE) : TS := fun D σ H => tv σ H fun v H1 => td σ H1 fun x H2 => ty σ H2 fun y H3 => ∃ a H4, x = .ref a ∧ DPut H3 a y v H4 ∧ D.nx σ H4
section
variable {X : Cx} {o i e value : Expr} {pos pos' tpos : Pos} {td ty tv : TE}
theorem pe_dget (hu : X.A.units + 1 < cLine) (ho : PE X o td) (hi : PE X i ty) (hs : NoSl i) : PE X (.Subscript o i pos) (tDGet td ty) := by
  intro pins s σ H Q I h
  refine subD_of PySem.F.slot_dict_getitem.lookup hs (thn (ho pins s σ H _ I h) fun u s1 ⟨x, H1, I1, rx, q1⟩ => thn (hi pins s1 σ H1 _ I1 q1) fun iv s2 ⟨y, H2, I2, ry, a, v, ex, g, q2⟩ => ?_)
  subst ex
  obtain rfl : u = Value.ref a := rx
  exact ⟨dict_typeIs I2 g, d_getItem hu I2 g ry fun w' s3 I3 rw' => ⟨v, H2, I3, rw', q2⟩⟩
theorem pc_din (hu : X.A.units + 1 < cLine) (hi : PE X i ty) (ho : PE X o td) : PC X .In i o (tDIn ty td) := by
  intro pins s σ H Q I h
  refine thn (hi pins s σ H _ I h) fun iv s1 ⟨y, H1, I1, ry, q1⟩ => thn (ho pins s1 σ H1 _ I1 q1) fun u s2 ⟨x, H2, I2, rx, a, ov, ex, g, q2⟩ => ?_
  subst ex
  obtain rfl : u = Value.ref a := rx
  exact d_in hu I2 g ry fun s3 I3 => ⟨.bl ov.isSome, H2, I3, rfl, q2⟩
theorem pc_dnotin (hu : X.A.units + 1 < cLine) (hi : PE X i ty) (ho : PE X o td) : PC X .NotIn i o (tDNotIn ty td) := by
  intro pins s σ H Q I h
  refine thn (hi pins s σ H _ I h) fun iv s1 ⟨y, H1, I1, ry, q1⟩ => thn (ho pins s1 σ H1 _ I1 q1) fun u s2 ⟨x, H2, I2, rx, a, ov, ex, g, q2⟩ => ?_
  subst ex
  obtain rfl : u = Value.ref a := rx
  exact d_notIn hu I2 g ry fun s3 I3 => ⟨.bl (!ov.isSome), H2, I3, rfl, q2⟩
theorem ps_dput (hu : X.A.units + 1 < cLine) (ho : PE X o td) (hi : PE X i ty) (hv : PE X value tv) (hs : swapsWith value (some (.Subscript o i pos')) pos.line X.env = pure false) :
    PS X (.Assign [.Subscript o i pos'] value pos) (sDPut td ty tv) := by
  intro pins s σ H D I h
  refine wpAny_Assign_Subscript (thn (hv pins s σ H _ I h) fun r s1 ⟨v, H1, I1, rv, q1⟩ => thn (ho pins s1 σ H1 _ I1 q1) fun u s2 ⟨x, H2, I2, rx, q2⟩ => thn (hi pins s2 σ H2 _ I2 q2) fun iv s3 ⟨y, H3, I3, ry, a, H4, ex, g, q3⟩ => ?_) hs
  subst ex
  obtain rfl : u = Value.ref a := rx
  exact d_setItem hu I3 g ry rv fun s4 I4 => ⟨σ, H4, I4, q3⟩
end
theorem dt_empty {P : Program} {w : World} {H : Hp} (h : Heap) (hb : sysModules < h.objs.size) : ObjOk P w H (h.push { cls := .type "dict", data := .dict #[] }) h.objs.size (.dT []) :=
  ⟨Nat.zero_le _, beq_eq_false_iff_ne.mpr (Ne.symm (Nat.ne_of_lt hb)), [], .nil, _, #[], 0, Heap.get?_push_size _ rfl, ⟨rfl, rfl, rfl⟩, rfl, rfl, List.nodup_nil⟩
noncomputable def tDNewT : TE := fun _ H Q => ∀ p, H p = none → Q (.ref p) (upd H p (.dT []))
section
variable {X : Cx} {pos : Pos}
theorem pe_dnewT : PE X (.Dict [] [] pos) tDNewT := fun pins s σ H Q I h =>
  wpAny_Dict_empty ⟨.ref s.heap.objs.size, _, I.laid (a := s.heap.objs.size) (o := .dT []) (t' := s.toks) (fun _ _ q => Heap.get?_push_of_some _ q) (Nat.le_refl _) (dt_empty s.heap I.big), rfl, h _ (I.hok.fresh (Nat.le_refl _))⟩
end
structure M1 (X : Cx) (o : Expr) (m : Str) (apos : Pos) (e : Expr) (cpos : Pos) : Prop where
  base : attributeBase o m X.env (eval o X.env) = eval o X.env
  few : ((backTo cpos (starEach [e] X.env)).all (fun x => !x.1) && (backToKw cpos (keywordEach [] X.env)).all (fun x => x.1.isSome)
    && decide (([e] : List Expr).length + ([] : List Keyword).length + (if ([] : List Keyword).isEmpty then 0 else 1) < 30)) = true
  line : (apos.endLine == cpos.line) = true
  trees : backTo cpos (starEach [e] X.env) = [(false, eval e X.env)]
noncomputable def IsD (H : Hp) (a : Addr) : Prop := (∃ kvs, Rd H a (.dK kvs)) ∨ ∃ kvs, Rd H a (.dT kvs)
theorem isD_at {X : Cx} {pins : List (Addr × Obj)} {σ : St} {H : Hp} {s : Shared} {a : Addr} (I : Inv X pins σ H s) (d : IsD H a) :
    s.TypeIs (.ref a) "dict" ∧ (∀ b, Value.ref a = .ref b → ∃ ob, s.heap.get? b = some ob ∧ ob.dict = none) ∧ (a == sysModules) = false := by
  rcases d with ⟨kvs, e⟩ | ⟨kvs, e⟩
  · obtain ⟨_, hd, vs, _, dd⟩ := dk_rd I.hok e
    refine ⟨dd.typeIs, fun b q => ?_, hd⟩
    cases q
    obtain ⟨ob, _, _, h1, h2, _⟩ := dd
    exact ⟨ob, h1, h2.2.1⟩
  · obtain ⟨_, hd, xs, _, dd⟩ := dt_rd I.hok e
    refine ⟨dd.typeIs, fun b q => ?_, hd⟩
    cases q
    obtain ⟨ob, _, _, h1, h2, _⟩ := dd
    exact ⟨ob, h1, h2.2.1⟩
section
variable {X : Cx} {pins : List (Addr × Obj)} {σ : St} {H : Hp} {s : Shared} {a : Addr} {y d : V} {u r : Value} {o : Option V} {A : Around} {E : Value → Shared → Prop}
end
section
variable {X : Cx} {o e f : Expr} {apos cpos : Pos} {td ty tx : TE}
end
section
variable {X : Cx} {pins : List (Addr × Obj)} {σ : St} {H : Hp} {s : Shared} {a : Addr} {kvs : List (Key × V)} {A : Around} {E : Value → Shared → Prop}
end
section
variable {X : Cx} {pins : List (Addr × Obj)} {σ : St} {H : Hp} {s : Shared} {a : Addr} {y : V} {u : Value} {A : Around} {E : Value → Shared → Prop}
end
end L2
namespace Att
open PySem PySem.W PySem.Calls PyProof.Rows
theorem ints_of_wellAll {P : Params} {h : Heap} : ∀ (ns : List Int) (vs : List Value), WellAll P h vs (ns.map WData.int) → IntsAre vs ns := by
  intro ns
  induction ns with
  | nil =>
    intro vs w
    rw [List.map_nil] at w
    cases w
    exact .nil
  | cons n ns ih =>
    intro vs w
    rw [List.map_cons] at w
    cases w with
    | cons a b =>
      cases a
      exact .cons _ _ (ih _ b)
theorem script_of {l : OpenLaw} {n : Nat} (hn : l.most = some n) {P : Params} {h : Heap} {args : List WData} {vals : List Value}
    (hpre : l.row.toRowW.claim.pre args = true) (hwl : WellAll P h vals args) :
    ∃ a vs ns, vals = [Value.ref a] ∧ args = [WData.list (ns.map WData.int)] ∧ h.get? a = some { cls := .type "list", data := .seq vs.toArray } ∧ IntsAre vs ns ∧ ns.length ≤ n := by
  have hsh : WShape.hasAll [] args [.list .int] = true := (pre_splitW hpre).1
  have hc : l.pre.holds [] { args := args } = true := (pre_splitW hpre).2
  obtain ⟨d, r, rfl, h1, h2⟩ := hasAllW_cons hsh
  obtain rfl := hasAllW_nil h2
  obtain ⟨xs, rfl, h3⟩ := hasW_list h1
  obtain ⟨ns, rfl⟩ := items_int h3
  have hlen : ns.length ≤ n := by
    unfold OpenLaw.pre at hc
    have h4 : (WTm.not (.lt (.lit (.int (n : Int))) (.len (.arg 0)))).holds [] { args := [.list (ns.map .int)] } = true := by
      have h4 := (holds_andW hc).1
      rw [hn] at h4
      exact h4
    have h5 := condW_of h4 (w_not (w_lt w_lit (w_len_list (w_arg rfl))))
    rw [List.length_map] at h5
    refine Nat.le_of_not_lt fun q => ?_
    have q' : (n : Int) < ((ns.length : Nat) : Int) := by omega
    first
      | (rw [decide_eq_true q'] at h5; exact absurd h5 (by decide))
      | (simp at h5; omega)
  cases hwl with
  | cons w1 w2 =>
    cases w2
    cases w1 with
    | list ho hall => exact ⟨_, _, ns, rfl, rfl, ho, ints_of_wellAll ns _ hall, hlen⟩
theorem post_true (l : OpenLaw) (args : List WData) : l.row.toRowW.claim.post args (.bool true) args = true :=
  postW_of (r := l.row.toRowW) (X := (true == true))
    (show WShape.has [] (.bool true) .bool = true by first | rfl | decide | simp [WShape.has, WShape.arms, WShape.armsAll])
    (show (WTm.eq .res (.lit (.bool true))).value [] { args := args, res := some (.bool true), after := args } = some (.bool (true == true)) from w_eq_bool (w_res rfl) w_lit) rfl
theorem attach_call {l : OpenLaw} {n : Nat} {q : Program} {loose : List Str} {XP : (Str → Option Value) → Heap → Prop} {YP : World → Heap → Prop} {d : DefRec}
    (hn : l.most = some n) (hdf : d.params.defaults = [])
    (call : ∀ (w : World) (s₀ s₁ : Shared) (mg mb : Str → Option Value) (fa : Addr) (o : Obj) (pm cd doc : Value) (a : Addr) (vs : List Value) (ns : List Int),
      Ground q loose [] XP w s₀ mg mb s₁.heap → YP w s₁.heap →
      s₁.heap.get? fa = some o → o.data = .func (docDef d.name d.params d.body d.scope pm cd doc) → s₁.heap.CodeRec cd d.name → mg d.name = some (.ref fa) →
      s₁.heap.get? a = some { cls := .type "list", data := .seq vs.toArray } → IntsAre vs ns → ns.length ≤ n → s₁.gens = #[] →
      codeAny (model l.prog w) callerA (.call (.ref fa) ⟨[.ref a], []⟩) (fun r s' => r = .ok (.ret (.bool true)) ∧ OldK s₁.heap s'.heap ∧ s'.os = s₁.os ∧ AllBare s'.gens) s₁) :
    WalkO q loose XP YP l.row.toRowW d [] (fun f vs => PySem.call f vs) := by
  intro w s₀ s₁ mg mb G Y fa o pm cd doc dV kV ho hd hcd hD hmg hg args vals as hpre hlay hrd hwl hlo
  obtain rfl : dV = .none := Dflts.none hD hdf
  obtain rfl : kV = .none := Dflts.noKw hD
  obtain ⟨a, vs, ns, rfl, rfl, hobj, hints, hlen⟩ := script_of hn hpre hwl
  refine enter_call (codeAny_mono (call w s₀ s₁ mg mb fa o pm cd doc a vs ns G Y ho (fd_plain hd) hcd hmg hobj hints hlen hg) fun r s' hq => ?_)
  obtain ⟨rfl, h2, h3, h4⟩ := hq
  exact ⟨.inl ⟨.bool true, .bool true, [], rfl, fun _ => rfl, .bool true, post_true l _, fun _ => ⟨List.Pairwise.nil, fun _ hm => (nomatch hm)⟩⟩, h2, h3, h4⟩
section
variable {prog : Program} {w : World} {A : Around} {E : Value → Shared → Prop} {s : Shared} {K : Frag}
noncomputable def noObjs (h : Heap) : Heap := { h with objs := #[] }
theorem noObjs_get (h : Heap) (b : Addr) : (noObjs h).get? b = none := by
  cases e : (noObjs h).get? b with
  | none => rfl
  | some o => exact absurd (Heap.lt_size e) (Nat.not_lt_zero _)
theorem fr_all {h : Heap} {L : Addr} {m : Str → Option Value} (n : h.Ns L m) : Fr (noObjs h) L h m :=
  ⟨n, fun b o e => (by rw [noObjs_get] at e; cases e), Nat.zero_le _⟩
end
end Att
namespace L2
open PySem PySem.Spec PyProof.Rows
theorem vals_ints : ∀ {vs : List Value} {ns : List Int}, IntsAre vs ns → Vals (ns.map V.int) vs
  | _, _, .nil => .nil
  | _, _, .cons n t h => .cons ⟨t, rfl⟩ (vals_ints h)
end L2
namespace L2
open PySem PySem.Spec PyProof.Rows
end L2
namespace L2
open PySem PySem.Spec PyProof.Rows
noncomputable def inClass (s : Stmt) (j : Nat) : Stmt := match s with
  | .ClassDef _ _ _ body _ _ _ _ _ _ _ => body.getD j (.Pass ⟨0, 0, 0, 0⟩)
  | _ => .Pass ⟨0, 0, 0, 0⟩
noncomputable def defArgs (s : Stmt) : Arguments := match s with
  | .FunctionDef _ a _ _ _ _ _ _ _ _ => a
  | _ => { posonlyargs := [], args := [], vararg := none, kwonlyargs := [], kw_defaults := [], kwarg := none, defaults := [] }
noncomputable def defBody (s : Stmt) : List Stmt := match s with
  | .FunctionDef _ _ b _ _ _ _ _ _ _ => b
  | _ => []
noncomputable def defScope (s : Stmt) : Scope := match s with
  | .FunctionDef _ _ _ _ _ _ sc _ _ _ => sc
  | _ => { kind := .function, names := [], isGenerator := false, isCoroutine := false }
noncomputable abbrev CX0 : CXT := fun _ _ _ _ _ _ => False
noncomputable abbrev E0 : XK := fun _ _ _ => False
theorem pass0 {X : Cx} : Passes CX0 X E0 := fun _ _ _ _ _ _ _ h => h.elim
structure Fun (K : PySem.W.Frag) (x qual : Str) (st : Stmt) (f : Addr) (fd : FuncData) : Prop where
  ex : ∃ (oc : Value) (od : Option Addr) (kV doc pm : Value) (an : Option Addr) (cdv ct : Value) (osl : Array (Option Value)),
    fd = PySem.W.fnOf x qual (defArgs st) (defBody st) (defScope st) .none kV doc pm an cdv ct ∧ K.lookup f = some ⟨oc, od, .func fd, osl⟩ ∧ PySem.W.codeIn K cdv qual = true
  kp : PySem.W.keepIn K (.ref f) = true
section
variable {P : Program} {w : World} {K : PySem.W.Frag} {mg : Str → Option Value} {base : Heap}
theorem Fun.ok {x qual : Str} {st : Stmt} {f : Addr} {fd : FuncData} {N ps : List Str} {k : Nat} {sp : Sp} (F : Fun K x qual st f fd) (S : FnScope N ps (defScope st)) (len : ∀ vs H Q E, sp vs H Q E → vs.length = ps.length)
    (hbody : ∀ (cdv : Value) (A : Around) (outer : List Env) (s : Shared) (H : Hp) (vs : List V) (Q : VK) (E : XK), Room k (A.deeper (envOfC qual (defScope st) s.heap.objs.size f cdv)) → sp vs H Q E →
      ∃ t, PSs (cxOf CX0 P w K mg base N qual (defScope st) f cdv A outer s H E).nox (defBody st) t ∧ t { nx := fun _ H' => Q .non H', rt := Q } (start N vs) H) : FnOk P w K mg base CX0 (k + 1) f fd ps sp := by
  obtain ⟨oc, od, kV, doc, pm, an, cdv, ct, osl, rfl, lk, hcd⟩ := F.ex
  refine fn_of lk hcd S len fun A outer s H vs Q E hr hsp => ?_
  obtain ⟨t, h, q⟩ := hbody cdv A outer s H vs Q E hr hsp
  exact ⟨t, h.nox, q⟩
theorem Fun.binds {x qual : Str} {st : Stmt} {f : Addr} {fd : FuncData} {ps : List Str} (F : Fun K x qual st f fd)
    (h : ∀ (kV doc pm : Value) (an : Option Addr) (cdv ct : Value) (us : List Value), us.length = ps.length → bindArgs (PySem.W.fnOf x qual (defArgs st) (defBody st) (defScope st) .none kV doc pm an cdv ct) ⟨us, []⟩ = pure (ps.zip us)) : Binds K fd ps [] := by
  obtain ⟨oc, od, kV, doc, pm, an, cdv, ct, osl, rfl, lk, hcd⟩ := F.ex
  exact .all (h kV doc pm an cdv ct)
theorem fun_mk {x qual : Str} {st : Stmt} {f : Addr} {oc : Value} {od an : Option Addr} {osl : Array (Option Value)} {kV doc pm cdv ct : Value} (l : K.lookup f = some ⟨oc, od, .func (PySem.W.fnOf x qual (defArgs st) (defBody st) (defScope st) .none kV doc pm an cdv ct), osl⟩)
    (c : PySem.W.codeIn K cdv qual = true) (k : PySem.W.keepIn K (.ref f) = true) : Fun K x qual st f (PySem.W.fnOf x qual (defArgs st) (defBody st) (defScope st) .none kV doc pm an cdv ct) := ⟨⟨oc, od, kV, doc, pm, an, cdv, ct, osl, rfl, l, c⟩, k⟩
end
theorem hu_of {A : Around} {k : Nat} (hr : Room k A) : A.units + 1 < cLine := Nat.lt_of_le_of_lt (Nat.add_le_add_left (by decide : 1 ≤ 64) _) hr.units
theorem small1000 {n : Nat} (h : n ≤ 1000) : n < sizeLine := Nat.lt_of_le_of_lt h (by decide)
section
variable {X : Cx}
theorem pv (i : Nat) {x : Str} {pos : Pos} (hN : X.N[i]? = some x := by rfl) (hv : Vis X.env.scope x := by first | exact Or.inl rfl | exact Or.inr (Or.inl rfl) | exact Or.inr (Or.inr rfl)) (hd : (x == ("__debug__" : Str)) = false := by decide)
    (hcd : (x == ("__classdict__" : Str)) = false := by decide) : PE X (.Name x pos) (tVar i) := pe_var hN hv hd hcd
end
theorem iteF {A B : Prop} (h : B) : if false = true then A else B := by
  rw [if_neg Bool.false_ne_true]
  exact h
theorem iteT {A B : Prop} (h : A) : if true = true then A else B := by
  rw [if_pos rfl]
  exact h
theorem ite2 {c A B : Prop} [Decidable c] (h1 : c → A) (h2 : ¬ c → B) : if c then A else B := by
  by_cases h : c
  · rw [if_pos h]
    exact h1 h
  · rw [if_neg h]
    exact h2 h
theorem iteNS {c A B : Prop} [Decidable c] (hc : c) (h : B) : if (!decide c) = true then A else B := by
  rw [decide_eq_true hc]
  exact iteF h
noncomputable def Same (H H' : Hp) : Prop := ∀ b o, H b = some o → H' b = some o
theorem Same.refl (H : Hp) : Same H H := fun _ _ h => h
theorem Same.trans {H H1 H2 : Hp} (a : Same H H1) (b : Same H1 H2) : Same H H2 := fun c o h => b c o (a c o h)
theorem Same.free {H H' : Hp} (e : Same H H') {l : Addr} (h : H' l = Option.none) : H l = Option.none := by
  cases q : H l with
  | none => rfl
  | some o =>
    rw [e l o q] at h
    cases h
theorem Same.seq {K : PySem.W.Frag} {H H' : Hp} {a : Addr} {xs : List V} (e : Same H H') (h : SqL K H a xs) : SqL K H' a xs := by
  rcases h with (h | ⟨o, h⟩) | h
  · exact .inl (.inl (e _ _ h))
  · exact .inl (.inr ⟨o, e _ _ h⟩)
  · exact .inr h
section
variable {κ : Type} [DecidableEq κ]
theorem dropK_pos {p : κ × V} {r : List (κ × V)} {k : κ} (e : p.1 = k) : dropK (p :: r) k = dropK r k := by
  unfold dropK
  rw [List.filter_cons, if_neg (by simp [e])]
theorem dropK_neg {p : κ × V} {r : List (κ × V)} {k : κ} (e : ¬ p.1 = k) : dropK (p :: r) k = p :: dropK r k := by
  unfold dropK
  rw [List.filter_cons, if_pos (by simp [e])]
theorem dropK_no : ∀ {kvs : List (κ × V)} {k : κ}, ¬ k ∈ kvs.map (·.1) → dropK kvs k = kvs
  | [], _, _ => rfl
  | p :: r, k, h => by
    have h' : ¬ k ∈ r.map (·.1) := fun m => by
      obtain ⟨q, hq, e⟩ := List.mem_map.mp m
      exact h (List.mem_map.mpr ⟨q, List.mem_cons.mpr (Or.inr hq), e⟩)
    rw [dropK_neg fun e => h (List.mem_map.mpr ⟨p, List.mem_cons.mpr (Or.inl rfl), e⟩), dropK_no h']
end
end L2
end
section
set_option Elab.async false
set_option linter.all false
set_option maxRecDepth 100000
set_option maxHeartbeats 4000000
namespace L2
open PySem PySem.Spec PyProof.Rows
noncomputable def closeL (env : Env) : List (Str × NameKind) → List (Str × Addr) → List (Str × Addr)
  | [], cs => cs
  | (n, k) :: r, cs => closeL env r (if (k == NameKind.free) = true then (match env.cells.lookup n with | some c => (n, c) :: cs | none => cs) else cs)
theorem closure_run (env : Env) : ∀ (names : List (Str × NameKind)) (cs : List (Str × Addr)), (∀ p ∈ names, p.2 = NameKind.free → ∃ c, env.cells.lookup p.1 = some c) →
    (forIn names cs fun (x : Str × NameKind) (r : List (Str × Addr)) => if (x.2 == NameKind.free) = true then do
        let c ← cellOf env x.1
        pure (ForInStep.yield ((x.1, c) :: r)) else pure (ForInStep.yield r) : Sem (List (Str × Addr))) = pure (closeL env names cs)
  | [], cs, _ => rfl
  | (n, k) :: r, cs, h => by
    rw [List.forIn_cons]
    cases hk : (k == NameKind.free) with
    | false =>
      have e : closeL env ((n, k) :: r) cs = closeL env r cs := by simp [closeL, hk]
      rw [e]
      simp only [hk, Bool.false_eq_true, if_false, pure_bind]
      exact closure_run env r cs fun p hp => h p (List.mem_cons_of_mem _ hp)
    | true =>
      obtain ⟨c, hc⟩ := h (n, k) List.mem_cons_self (by simpa using hk)
      have hc : env.cells.lookup n = some c := hc
      have e : closeL env ((n, k) :: r) cs = closeL env r ((n, c) :: cs) := by simp [closeL, hk, hc]
      have e2 : cellOf env n = pure c := by unfold cellOf; rw [hc]
      rw [e]
      simp only [hk, if_true, e2, pure_bind]
      exact closure_run env r _ fun p hp => h p (List.mem_cons_of_mem _ hp)
theorem closureFor_eq {scope : Scope} {env : Env} (h : ∀ p ∈ scope.names, p.2 = NameKind.free → ∃ c, env.cells.lookup p.1 = some c) : closureFor scope env = pure (closeL env scope.names []) := by
  unfold closureFor
  have := closure_run env scope.names [] h
  simp only [bind_pure]
  exact this
theorem close_step (env : Env) (n : Str) (k : NameKind) (cs : List (Str × Addr)) (x : Str) (c : Addr) (h : (if (k == NameKind.free) = true then (match env.cells.lookup n with | some c => (n, c) :: cs | none => cs) else cs).lookup x = some c) :
    cs.lookup x = some c ∨ env.cells.lookup x = some c := by
  split at h
  · cases e : env.cells.lookup n with
    | none => rw [e] at h; exact .inl h
    | some d =>
      rw [e] at h
      dsimp only at h
      rw [List.lookup_cons] at h
      cases hx : x == n with
      | true =>
        rw [hx] at h
        have hx' : x = n := eq_of_beq hx
        rw [hx']
        exact .inr (e.trans h)
      | false => rw [hx] at h; exact .inl h
  · exact .inl h
theorem closeL_sub (env : Env) : ∀ (names : List (Str × NameKind)) (cs : List (Str × Addr)) (x : Str) (c : Addr), (closeL env names cs).lookup x = some c → cs.lookup x = some c ∨ env.cells.lookup x = some c
  | [], _, _, _, h => .inl h
  | (n, k) :: r, cs, x, c, h => by
    unfold closeL at h
    rcases closeL_sub env r _ x c h with h' | h'
    · exact close_step env n k cs x c h'
    · exact .inr h'
theorem closeL_keep (env : Env) : ∀ (names : List (Str × NameKind)) (cs : List (Str × Addr)) (x : Str), (∃ c, cs.lookup x = some c) → ∃ c, (closeL env names cs).lookup x = some c
  | [], _, _, h => h
  | (n, k) :: r, cs, x, h => by
    unfold closeL
    refine closeL_keep env r _ x ?_
    split
    · cases e : env.cells.lookup n with
      | none => exact h
      | some d =>
        dsimp only
        rw [List.lookup_cons]
        cases hx : x == n with
        | true => exact ⟨d, rfl⟩
        | false => exact h
    · exact h
theorem closeL_has (env : Env) : ∀ (names : List (Str × NameKind)) (cs : List (Str × Addr)) (x : Str), (x, NameKind.free) ∈ names → (∃ c, env.cells.lookup x = some c) → ∃ c, (closeL env names cs).lookup x = some c
  | [], _, _, h, _ => by simp at h
  | (n, k) :: r, cs, x, h, ⟨c, hc⟩ => by
    unfold closeL
    rcases List.mem_cons.mp h with e | h
    · obtain ⟨rfl, rfl⟩ := Prod.mk.inj e
      refine closeL_keep env r _ _ ?_
      rw [hc]
      simp [List.lookup_cons]
    · exact closeL_has env r _ x h ⟨c, hc⟩
noncomputable def lcOk (sc outer : Scope) (x : Str) (M : List Str) : Bool :=
  (sc.kind == .function) && sc.names.all (fun p => p.2 != NameKind.cell) && (sc.names.lookup x == some NameKind.local) && sc.names.all (fun p => p.2 != NameKind.local || sc.names.lookup p.1 == some NameKind.local) &&
  sc.names.all (fun p => p.2 != NameKind.free || (outer.names.lookup p.1 == some NameKind.cell || outer.names.lookup p.1 == some NameKind.free)) && M.all (fun y => sc.names.lookup y != some NameKind.local)
structure LcOk (sc outer : Scope) (x : Str) (M : List Str) : Prop where
  kind : sc.kind = .function
  nocell : ∀ p ∈ sc.names, p.2 ≠ NameKind.cell
  var : sc.names.lookup x = some NameKind.local
  locs : ∀ p ∈ sc.names, p.2 = NameKind.local → sc.names.lookup p.1 = some NameKind.local
  free : ∀ p ∈ sc.names, p.2 = NameKind.free → outer.names.lookup p.1 = some NameKind.cell ∨ outer.names.lookup p.1 = some NameKind.free
  out : ∀ y ∈ M, sc.names.lookup y ≠ some NameKind.local
theorem LcOk.of {sc outer : Scope} {x : Str} {M : List Str} (h : lcOk sc outer x M = true) : LcOk sc outer x M := by
  unfold lcOk at h
  simp only [Bool.and_eq_true, List.all_eq_true] at h
  obtain ⟨⟨⟨⟨⟨h1, h2⟩, h3⟩, h4⟩, h5⟩, h6⟩ := h
  refine ⟨eq_of_beq h1, fun p hp => by simpa using h2 p hp, eq_of_beq h3, fun p hp e => ?_, fun p hp e => ?_, fun y hy => by simpa using h6 y hy⟩
  · have := h4 p hp
    rw [e] at this
    simpa using this
  · have := h5 p hp
    rw [e] at this
    simpa using this
noncomputable def blk (X : Cx) (sc : Scope) (x : Str) (M : List Str) (C : Addr) (s : Shared) (H : Hp) (fp : List Addr) : Cx :=
  { X with env := compEnvC sc (closeL X.env sc.names []) C X.env, N := x :: M, s₀ := s, H₀ := H, outer := X.stack, ex := fp, fn := fun _ => false, pn := [], xe := fun _ _ => False }
theorem mem_of_lookup_relabel {env : Env} {k : NameKind} : ∀ {names : List (Str × NameKind)} {x : Str}, (∀ p ∈ names, p.2 ≠ NameKind.cell) →
    (names.map fun (n, k) => if (k == NameKind.free && env.scope.kind == .function && env.kindOf n == some .cell) then (n, NameKind.cell) else (n, k)).lookup x = some k → k = NameKind.cell ∨ k = NameKind.free → (x, NameKind.free) ∈ names
  | [], _, _, h, _ => by simp at h
  | (n, k') :: r, x, hc, h, hk => by
    have ih := @mem_of_lookup_relabel env k r x (fun p hp => hc p (List.mem_cons_of_mem _ hp))
    have h : List.lookup x ((if (k' == NameKind.free && env.scope.kind == .function && env.kindOf n == some .cell) = true then (n, NameKind.cell) else (n, k')) :: (r.map fun (n, k) => if (k == NameKind.free && env.scope.kind == .function && env.kindOf n == some .cell) then (n, NameKind.cell) else (n, k))) = some k := h
    by_cases hd : (k' == NameKind.free && env.scope.kind == .function && env.kindOf n == some .cell) = true
    · rw [if_pos hd, List.lookup_cons] at h
      cases hx : x == n with
      | true =>
        have e : x = n := eq_of_beq hx
        have e2 : k' = NameKind.free := by
          simp only [Bool.and_eq_true] at hd
          exact eq_of_beq hd.1.1
        rw [e, e2]
        exact List.mem_cons_self
      | false =>
        rw [hx] at h
        exact List.mem_cons_of_mem _ (ih h hk)
    · rw [if_neg hd, List.lookup_cons] at h
      cases hx : x == n with
      | true =>
        rw [hx] at h
        have e : x = n := eq_of_beq hx
        have e2 : k' = k := Option.some.inj h
        rcases hk with hk | hk
        · exact absurd (e2.trans hk) (hc (n, k') List.mem_cons_self)
        · rw [e, ← hk, ← e2]
          exact List.mem_cons_self
      | false =>
        rw [hx] at h
        exact List.mem_cons_of_mem _ (ih h hk)
theorem lookup_relabel_back {env : Env} : ∀ {names : List (Str × NameKind)} {x : Str},
    (names.map fun (n, k) => if (k == NameKind.free && env.scope.kind == .function && env.kindOf n == some .cell) then (n, NameKind.cell) else (n, k)).lookup x = some NameKind.local → names.lookup x = some NameKind.local
  | [], _, h => by simp at h
  | (n, k') :: r, x, h => by
    have ih := @lookup_relabel_back env r x
    have h : List.lookup x ((if (k' == NameKind.free && env.scope.kind == .function && env.kindOf n == some .cell) = true then (n, NameKind.cell) else (n, k')) :: (r.map fun (n, k) => if (k == NameKind.free && env.scope.kind == .function && env.kindOf n == some .cell) then (n, NameKind.cell) else (n, k))) = some NameKind.local := h
    rw [List.lookup_cons]
    by_cases hd : (k' == NameKind.free && env.scope.kind == .function && env.kindOf n == some .cell) = true
    · rw [if_pos hd, List.lookup_cons] at h
      cases hx : x == n with
      | true => rw [hx] at h; cases h
      | false => rw [hx] at h; exact ih h
    · rw [if_neg hd, List.lookup_cons] at h
      cases hx : x == n with
      | true => rw [hx] at h; exact h
      | false => rw [hx] at h; exact ih h
section
variable {X : Cx} {pins : List (Addr × Obj)} {σ : St} {H : Hp} {s : Shared} {sc : Scope} {x : Str} {M : List Str} {C : Addr} {fp : List Addr}
theorem blk_ok (I : Inv X pins σ H s) (ok : LcOk sc X.env.scope x M) (hC : s.heap.objs.size ≤ C) (hf : ∀ b ∈ fp, FpOk X pins H b) (hl : ∀ b ∈ fp, b < s.heap.objs.size) : (blk X sc x M C s H fp).Ok where
  mod := I.ok.mod
  kind := ok.kind
  glob := I.ok.glob
  blt := I.ok.blt
  above := hC
  inj := fun a b c h1 h2 => by
    rcases closeL_sub _ _ _ _ _ h1 with h1 | h1
    · cases h1
    rcases closeL_sub _ _ _ _ _ h2 with h2 | h2
    · cases h2
    exact I.ok.inj a b c h1 h2
  has := fun y hy => by
    have hm : (y, NameKind.free) ∈ sc.names := by
      rcases hy with hy | hy
      · exact mem_of_lookup_relabel ok.nocell hy (.inl rfl)
      · exact mem_of_lookup_relabel ok.nocell hy (.inr rfl)
    exact closeL_has X.env sc.names [] y hm (I.ok.has y (ok.free _ hm rfl))
  cab := fun y c h => by cases h
  hd := I.ok.hd
  frames := I.ok.frames
  stk := .inl rfl
  exf := fun b hb => ⟨Nat.ne_of_lt (Nat.lt_of_lt_of_le (hl b hb) hC), fun y c h => by
    rcases closeL_sub _ _ _ _ _ h with h | h
    · cases h
    · exact (hf b hb).2.2.2.2.1 y c h⟩
  bs := I.bs
  bsz := Nat.le_trans I.ok.bsz I.sz
  noex := fun b o e hb => by
    rcases (hf b hb).2.2.2.1 with z | z
    · exact I.ok.noex b o e z
    · exact absurd (Nat.lt_of_lt_of_le (Heap.lt_size e) (Nat.le_trans I.ok.bsz z)) (Nat.lt_irrefl _)
  exfs := fun b hb hb2 => by
    rcases List.mem_cons.mp (I.stkSub b hb2) with z | z
    · exact (hf b hb).2.1 z
    · exact (hf b hb).2.2.1 z
  funs := I.stack
  frf := I.stkFree
theorem blk_inv {s1 : Shared} {m : Str → Option Value} (I : Inv X pins σ H s) (ok : LcOk sc X.env.scope x M) (hM : ∀ (j : Nat) (y : Str), M[j]? = some y → (∃ p ∈ sc.names, p.1 = y) → X.N[j]? = some y) (hlen : M.length = X.N.length) (hC : s.heap.objs.size ≤ C) (hf : ∀ b ∈ fp, FpOk X pins H b) (hl : ∀ b ∈ fp, b < s.heap.objs.size)
    (hk : ∀ b o, s.heap.get? b = some o → s1.heap.get? b = some o) (hns : s1.heap.Ns C m) (hos : s1.os = s.os) (hg : s1.gens = s.gens) : Inv (blk X sc x M C s H fp) [] (none :: σ) H s1 where
  ok := blk_ok I ok hC hf hl
  os := hos
  bare := by rw [hg]; exact I.bare
  base := Un.kept hk
  loc := ⟨m, hns, fun i y v h1 h2 h3 => by
    cases i with
    | zero => cases h2
    | succ j =>
      have h1 : M[j]? = some y := by
        have h1 : (x :: M)[j + 1]? = some y := h1
        simpa using h1
      have h2 : σ[j]? = some (some v) := by simpa using h2
      have hm : (y, NameKind.free) ∈ sc.names := by
        rcases h3 with h3 | h3 | h3
        · exact absurd (lookup_relabel_back h3) (ok.out y (List.mem_of_getElem? h1))
        · exact mem_of_lookup_relabel ok.nocell h3 (.inl rfl)
        · exact mem_of_lookup_relabel ok.nocell h3 (.inr rfl)
      obtain ⟨m0, hn0, hl0⟩ := I.loc
      have ko := ok.free _ hm rfl
      obtain ⟨u, r, lk⟩ := hl0 j y v (hM j y h1 ⟨_, hm, rfl⟩) h2 (.inr ko)
      refine ⟨u, r, .inr ⟨?_, ?_⟩⟩
      · rcases h3 with h3 | h3 | h3
        · exact absurd (lookup_relabel_back h3) (ok.out y (List.mem_of_getElem? h1))
        · exact .inl h3
        · exact .inr h3
      · rcases lk with ⟨k, _⟩ | ⟨_, c, hc, z⟩
        · have k : X.env.scope.names.lookup y = some .local := k
          rcases ko with q | q
          · rw [q] at k; cases k
          · rw [q] at k; cases k
        · obtain ⟨c', hc'⟩ := closeL_has X.env sc.names [] y hm ⟨c, hc⟩
          have e : c' = c := by
            rcases closeL_sub _ _ _ _ _ hc' with q | q
            · cases q
            · rw [hc] at q; exact (Option.some.inj q).symm
          exact ⟨c, e ▸ hc', z.keeps hk⟩⟩
  cell := fun y c h => by
    rcases closeL_sub _ _ _ _ _ h with h | h
    · cases h
    · obtain ⟨v, z⟩ := I.cell y c h
      exact ⟨v, z.keeps hk⟩
  free := I.hok.fresh hC
  freeC := fun y c h => by
    rcases closeL_sub _ _ _ _ _ h with h | h
    · cases h
    · exact I.freeC y c h
  pin := fun p hp => absurd (show p ∈ ([] : List (Addr × Obj)) from hp) (by simp)
  hok := I.hok.kept hk
  len := by
    show (none :: σ).length = (x :: M).length
    rw [List.length_cons, List.length_cons, hlen, I.len]
end
end L2
end
section
set_option Elab.async false
set_option linter.all false
set_option maxRecDepth 100000
set_option maxHeartbeats 4000000
namespace L2
open PySem PySem.Spec PyProof.Rows
section
variable {P : Program} {w : World} {H : Hp} {h : Heap} {a : Addr} {o : HO}
theorem HOk.track (x : HOk P w H h) (hn : H a = none) (new : ObjOk P w (upd H a o) h a o) : HOk P w (upd H a o) h := fun b u e => by
  by_cases hb : b = a
  · subst hb; rw [upd_same] at e; cases e; exact new
  · rw [upd_ne hb] at e
    exact (x b u e).stay (fun c v _ q => q) (fun c q => by rw [upd_ne (ne_of_none q hn)]; exact q) fun c xs q => by rw [upd_ne (ne_of_none q hn)]; exact q
end
section
variable {X : Cx} {pins : List (Addr × Obj)} {σ : St} {H : Hp} {s : Shared}
theorem Inv.track {a : Addr} {o : HO} (I : Inv X pins σ H s) (hf : FpOk X pins H a) (ha : X.s₀.heap.objs.size ≤ a) (new : ObjOk X.prog X.w (upd H a o) s.heap a o) : Inv X pins σ (upd H a o) s := by
  obtain ⟨hn, hL, hfs, hs, hc, hp⟩ := hf
  refine ⟨I.ok, I.os, I.bare, ⟨I.base.keep, I.base.slot, fun b ob e n x => ?_, I.base.there, fun b xs e => ?_, fun b ob u e => ?_, fun b ps e => ?_⟩, I.loc, I.cell, ?_, fun y c e => ?_, fun p q => ?_, I.hok.track hn new, I.len⟩
  · rw [upd_ne (Nat.ne_of_lt (Nat.lt_of_lt_of_le (Heap.lt_size e) ha))]
    exact I.base.free b ob e n x
  · rw [upd_ne (ne_of_none (I.base.tups b xs e) hn)]; exact I.base.tups b xs e
  · rw [upd_ne (ne_of_none (I.base.frzs b ob u e) hn)]; exact I.base.frzs b ob u e
  · obtain ⟨mr, q⟩ := I.base.tbls b ps e
    exact ⟨mr, by rw [upd_ne (ne_of_none q hn)]; exact q⟩
  · rw [upd_ne (Ne.symm hL)]; exact I.free
  · rw [upd_ne (hc y c e)]; exact I.freeC y c e
  · obtain ⟨e, n, ne, nf, d⟩ := I.pin p q
    exact ⟨e, by rw [upd_ne (hp p q)]; exact n, ne, nf, d⟩
end
noncomputable def PF (X : Cx) (ifs : List Expr) (t : TT) : Prop :=
  ∀ (pins : List (Addr × Obj)) (s : Shared) (σ : St) (H : Hp) (Q : Bool → Hp → Prop), Inv X pins σ H s → t σ H Q →
    wpAny (model X.prog X.w) X.A (forIn ifs true fun c r => if r = true then do let ok ← isTrue c X.env (eval c X.env); pure (ForInStep.yield ok) else pure (ForInStep.yield r)) (TP X pins σ Q) X.xe s
noncomputable def tAlways : TT := fun _ H Q => Q true H
theorem pf_nil {X : Cx} : PF X [] tAlways := fun _ _ _ H _ I h => wpAny_tests_nil ⟨H, I, h⟩
theorem pf_one {X : Cx} {c : Expr} {t : TT} (h : PT X c t) : PF X [c] t := fun pins s σ H Q I q => wpAny_tests_one (h pins s σ H Q I q)
noncomputable def LcW (J : It) (σ : St) (tt : TT) (te : TE) (R : List V → Hp → Prop) (H1 : Hp) : Prop :=
  ∃ W : Nat → Nat → List V → Hp → Prop, (∃ m, W 0 m [] H1) ∧ ∀ i m ys H, W i m ys H →
    (J.stop i H ∧ ys.length ≤ sizeLine ∧ R ys H) ∨ (J.go i H ∧ ys.length < sizeLine ∧ ∃ N : List V → Hp → Prop, (∀ ys' H', N ys' H' → ∃ m', m' < m ∧ W (i + 1) m' ys' H') ∧
      ∀ x H', J.yld i H x H' → tt (some x :: σ) H' fun b H2 => if b = true then te (some x :: σ) H2 fun y H3 => N (ys ++ [y]) H3 else N ys H2)
structure TurnQ (q : Cx → Prop) (P : Program) (w : World) (K : PySem.W.Frag) (tg : Expr) (J : It) (fp : List Addr) (it : Addr) (tn : Nat → Heap → Prop) : Prop where
  obj : ∀ i h, tn i h → ∀ b ∈ fp, ∃ o, h.get? b = some o ∧ ∀ v, o.data ≠ .cell v
  keep : ∀ i h h', tn i h → (∀ b ∈ fp, ∀ o, h.get? b = some o → h'.get? b = some o) → tn i h'
  item : ∀ (X : Cx), X.prog = P → X.w = w → X.K = K → q X → ∀ (i : Nat) (pins : List (Addr × Obj)) (s : Shared) (σ : St) (H : Hp) (E : Value → Shared → Prop), Inv X pins σ H s → (∀ b ∈ fp, FpOk X pins H b) → tn i s.heap → J.go i H →
    wpAny (model P w) X.A (pyNext (.ref it)) (fun r s1 => ∃ u, r = some u ∧
      wpAny (model P w) X.A (letOwnedTupleGo tg (.ref it) u) (fun _ s2 => ∃ x H', Inv X pins σ H' s2 ∧ RelV x u ∧ J.yld i H x H' ∧ tn (i + 1) s2.heap ∧ ∀ b ∈ fp, H' b = none) E s1) E s
  done : ∀ (X : Cx), X.prog = P → X.w = w → X.K = K → q X → ∀ (i : Nat) (pins : List (Addr × Obj)) (s : Shared) (σ : St) (H : Hp) (E : Value → Shared → Prop), Inv X pins σ H s → (∀ b ∈ fp, FpOk X pins H b) → tn i s.heap → J.stop i H →
    wpAny (model P w) X.A (pyNext (.ref it)) (fun r s1 => r = none ∧ Inv X pins σ H s1) E s
  self : ∀ (A : Around) (i : Nat) (s : Shared) (Q : Value → Shared → Prop) (E : Value → Shared → Prop), tn i s.heap → Q (.ref it) s → wpAny (model P w) A (pyIter (.ref it)) Q E s
theorem Turn.q {P : Program} {w : World} {K : PySem.W.Frag} {tg : Expr} {J : It} {fp : List Addr} {it : Addr} {tn : Nat → Heap → Prop} (T : Turn P w K tg J fp it tn) : TurnQ (fun X => X.calm = true) P w K tg J fp it tn := ⟨T.obj, T.keep, T.item, T.done, T.self⟩
section
variable {X : Cx} {pins : List (Addr × Obj)} {σ : St} {H : Hp} {s : Shared} {sc : Scope} {x : Str} {M : List Str} {fp : List Addr} {J : It} {it : Addr} {tn : Nat → Heap → Prop} {px pos : Pos} {elt iter : Expr} {ifs : List Expr} {tt : TT} {te : TE} {R : List V → Hp → Prop}
theorem lc_block {E : Value → Shared → Prop} {RR : Value → Addr → Result → Shared → Prop} (I : Inv X pins σ H s) (ok : LcOk sc X.env.scope x M) (hM : ∀ (j : Nat) (y : Str), M[j]? = some y → (∃ p ∈ sc.names, p.1 = y) → X.N[j]? = some y) (hlen : M.length = X.N.length) (hnd : (x :: M).Nodup) {q : Cx → Prop} (hq : ∀ C, q (blk X sc x M C s H fp))
    (T : TurnQ q X.prog X.w X.K (.Name x px) J fp it tn) (st : tn 0 s.heap) (hf : ∀ b ∈ fp, FpOk X pins H b)
    (ht : ∀ C s H fp, PF (blk X sc x M C s H fp) ifs tt) (he : ∀ C s H fp, PE (blk X sc x M C s H fp) elt te) (h : LcW J σ tt te R H)
    (hRR : ∀ D C ys H' s' m, R ys H' → H' D = none → Inv X pins σ (upd H' D (.lst ys)) s' → FpOk X pins (upd H' D (.lst ys)) C → s'.heap.Ns C m → RR (.ref D) C (.ok .next) s') :
    wpAny (model X.prog X.w) X.A (newList []) (fun acc s₃ => wpAny (model X.prog X.w) X.A (newFunctionEnv sc X.env.globals (closeL X.env sc.names []) [] X.env.qual none .none (some X.env)) (fun cenv s₄ =>
      codeAny (model X.prog X.w) X.A (.compStart (.ListComp elt [⟨.Name x px, iter, ifs, 0⟩] sc pos) 0 (.ref it) acc { cenv with scope := relabel sc X.env }) (RR acc cenv.locals) s₄) E s₃) E s := by
  refine wpAny_newObj_type (wpAny_newFunctionEnv ok.nocell (by intro y hy; simp at hy) (fun h₁ hns₁ hsb₁ => ?_) ok.kind)
  dsimp only at hns₁ hsb₁ ⊢
  generalize hH2 : s.heap.push { cls := .type "list", dict := none, data := .seq ([] : List Value).toArray } = H2 at hns₁ hsb₁ ⊢
  have hC : H2.objs.size = s.heap.objs.size + 1 := by rw [← hH2, Heap.size_push]
  have hDC : s.heap.objs.size ≠ H2.objs.size := by rw [hC]; exact Nat.ne_of_lt (Nat.lt_succ_self _)
  have hCle : s.heap.objs.size ≤ H2.objs.size := by rw [hC]; exact Nat.le_succ _
  have hl : ∀ b ∈ fp, b < s.heap.objs.size := fun b hb => by
    obtain ⟨o, e, _⟩ := T.obj 0 _ st b hb
    exact Heap.lt_size e
  have old : ∀ b o, s.heap.get? b = some o → h₁.get? b = some o := fun b o e =>
    (hsb₁.2 b (by rw [hC]; exact Nat.ne_of_lt (Nat.lt_succ_of_lt (Heap.lt_size e)))).trans (Heap.get?_push_of_some _ (hH2 ▸ Heap.get?_push_of_some _ e))
  have hacc : h₁.get? s.heap.objs.size = some { cls := .type "list", data := .seq ([] : List Value).toArray } :=
    (hsb₁.2 _ hDC).trans (Heap.get?_push_of_some _ (hH2 ▸ Heap.get?_push_size _ rfl))
  have fsD : s.heap.objs.size ∉ frs X.stack := fun z => by
    rcases List.mem_cons.mp (I.stkSub _ z) with q | q
    · exact absurd I.lt (by rw [← q]; exact Nat.lt_irrefl _)
    · exact I.nofs (Nat.le_refl _) q
  have fsF : ∀ b ∈ fp, b ∉ frs X.stack := fun b hb z => by
    rcases List.mem_cons.mp (I.stkSub b z) with q | q
    · exact (hf b hb).2.1 q
    · exact (hf b hb).2.2.1 q
  have I0 : Inv (blk X sc x M H2.objs.size s H fp) [] (none :: σ) H { s with heap := h₁, toks := s.toks + ([] : List (Str × Value)).length } := blk_inv I ok hM hlen hCle hf hl old hns₁ rfl rfl
  obtain ⟨W, ⟨m0, w0⟩, turn⟩ := h
  have cne : ∀ y c, (closeL X.env sc.names []).lookup y = some c → c < s.heap.objs.size := fun y c e => by
    rcases closeL_sub _ _ _ _ _ e with q | q
    · cases q
    · obtain ⟨v, z⟩ := I.cell y c q
      exact z.lt
  have fx : ∀ {od : Obj} {H' : Hp}, (∀ b ∈ fp, H' b = none) → ∀ b ∈ fp, FpOk (blk X sc x M H2.objs.size s H fp) [(s.heap.objs.size, od)] H' b := fun {od H'} hn b hb =>
    ⟨hn b hb, Nat.ne_of_lt (Nat.lt_of_lt_of_le (hl b hb) hCle), fsF b hb, .inl hb, ((blk_ok I ok hCle hf hl).exf b hb).2, fun p hp => by
      have hp : p ∈ [(s.heap.objs.size, od)] := hp
      rw [List.mem_singleton.mp hp]
      exact Ne.symm (Nat.ne_of_lt (hl b hb))⟩
  have loop : ∀ s₃ : Shared, s₃ = { s with heap := h₁, toks := s.toks + ([] : List (Str × Value)).length } →
      codeAny (model X.prog X.w) X.A (.compLoop (.ListComp elt [⟨.Name x px, iter, ifs, 0⟩] sc pos) 0 (.ref it) (.ref s.heap.objs.size) (compEnvC sc (closeL X.env sc.names []) H2.objs.size X.env))
        (RR (.ref s.heap.objs.size) H2.objs.size) s₃ := by
    rintro s₃ rfl
    refine codeAny_compLoop_tests (fun n s' => ∃ i ys H' v0 its k, Inv (blk X sc x M H2.objs.size s H fp) [] (v0 :: σ) H' s' ∧ tn i s'.heap ∧ (∀ b ∈ fp, H' b = none) ∧ H' s.heap.objs.size = none ∧
      s'.heap.get? s.heap.objs.size = some { cls := .type "list", data := .seq (its : List Value).toArray k } ∧ Vals ys its ∧ W i n ys H') ?_ m0
      ⟨0, [], H, none, [], 0, I0, T.keep 0 _ _ st fun b hb o e => old b o e, fun b hb => (hf b hb).1, I.hok.fresh (Nat.le_refl _), hacc, .nil, w0⟩
    rintro n s3 ⟨i, ys, H3, v0, its, k, I3, st3, fr3, hD3, hD, rv, w3⟩
    have I3' : Inv (blk X sc x M H2.objs.size s H fp) [(s.heap.objs.size, { cls := .type "list", data := .seq its.toArray k })] (v0 :: σ) H3 s3 := I3.pins_of fun p hp => by
      rw [List.mem_singleton.mp hp]
      exact ⟨hD, hD3, hDC, fsD, fun v z => nomatch z⟩
    rcases turn i n ys H3 w3 with ⟨stop, hz, qn⟩ | ⟨go, hz, N, hN, step⟩
    · refine thn (T.done (blk X sc x M H2.objs.size s H fp) rfl rfl rfl (hq _) i _ s3 _ H3 _ I3' (fx fr3) st3 stop) fun r s4 ⟨hr, I4⟩ => ?_
      subst hr
      dsimp only
      have hD4 : s4.heap.get? s.heap.objs.size = some { cls := .type "list", data := .seq its.toArray k } := (I4.pin _ (List.mem_append_right _ (List.mem_singleton.mpr rfl))).1
      have I5 : Inv X pins σ H3 s4 := I.call' (ch := fp) I4.os I4.base I4.hok I4.bare fun b hb => ⟨(hf b hb).2.2.2.1, (hf b hb).2.1, (hf b hb).2.2.2.2.1, (hf b hb).2.2.2.2.2⟩
      obtain ⟨m, hn, _⟩ := I4.loc
      have I6 : Inv X pins σ (upd H3 s.heap.objs.size (.lst ys)) s4 := I5.track (I.fpOk (Nat.le_refl _) hD3) I.sz ⟨hz, its, k, rv, hD4⟩
      refine hRR _ _ ys H3 s4 m qn hD3 I6 (I.fpOk hCle ?_) hn
      rw [upd_ne (Ne.symm hDC)]
      exact I4.free
    · refine thn (T.item (blk X sc x M H2.objs.size s H fp) rfl rfl rfl (hq _) i _ s3 _ H3 _ I3' (fx fr3) st3 go) fun r s4 ⟨u, hr, h4⟩ => ?_
      subst hr
      dsimp only
      show wpAny (model X.prog X.w) X.A (letOwnedTupleGo (.Name x px) (.ref it) u >>= fun _ => assign (.Name x px) (compEnvC sc (closeL X.env sc.names []) H2.objs.size X.env) u) _ _ s4
      refine wpAny_bind (thn h4 fun _ s5 ⟨z, H5, I5, r5, y5, st5, fr5⟩ => ?_)
      have I5' := I5.pinned (fx fr5) (T.obj _ _ st5)
      refine wpAny_assign_Name ?_
      refine store_ok (X := blk X sc x M H2.objs.size s H fp) (i := 0) I5' hnd rfl (.inl (lookup_relabel_local ok.var)) r5 (fun s6 I6 => ?_) (.inr (lookup_relabel_local ok.var))
      have I6 : Inv (blk X sc x M H2.objs.size s H fp) ([(s.heap.objs.size, { cls := .type "list", data := .seq its.toArray k })] ++ pinsAt fp s5.heap) (some z :: σ) H5 s6 := I6
      have back : ∀ {H7 : Hp} {s7 : Shared}, Inv (blk X sc x M H2.objs.size s H fp) ([(s.heap.objs.size, { cls := .type "list", data := .seq its.toArray k })] ++ pinsAt fp s5.heap) (some z :: σ) H7 s7 →
          tn (i + 1) s7.heap ∧ (∀ b ∈ fp, H7 b = none) ∧ H7 s.heap.objs.size = none ∧ s7.heap.get? s.heap.objs.size = some { cls := .type "list", data := .seq its.toArray k } := fun {H7 s7} I7 => by
        refine ⟨T.keep _ _ _ st5 fun b hb o e => (I7.pin (b, o) (List.mem_append_right _ (List.mem_append_right _ (mem_pinsAt hb e)))).1, fun b hb => ?_, (I7.pin _ (List.mem_append_right _ (List.mem_append_left _ (List.mem_singleton.mpr rfl)))).2.1, (I7.pin _ (List.mem_append_right _ (List.mem_append_left _ (List.mem_singleton.mpr rfl)))).1⟩
        obtain ⟨o, e, d⟩ := T.obj _ _ st5 b hb
        exact (I7.pin (b, o) (List.mem_append_right _ (List.mem_append_right _ (mem_pinsAt hb e)))).2.1
      refine wpAny_mono (ht _ _ _ _ _ s6 _ H5 _ I6 (step z H5 y5)) (fun b s7 ⟨H7, I7, q7⟩ => ?_) fun _ _ f => f.elim
      cases b with
      | false =>
        simp only [Bool.false_eq_true, if_false] at q7 ⊢
        obtain ⟨m', hm, w7⟩ := hN _ _ q7
        obtain ⟨b1, b2, b3, b4⟩ := back I7
        exact ⟨m', hm, i + 1, ys, H7, some z, its, k, I7.pins_of (fun p hp => absurd hp (by simp)), b1, b2, b3, b4, rv, w7⟩
      | true =>
        simp only [if_true] at q7 ⊢
        refine wpAny_mono (he _ _ _ _ _ s7 _ H7 _ I7 q7) (fun u8 s8 ⟨v8, H8, I8, r8, q8⟩ => ?_) fun _ _ f => f.elim
        obtain ⟨m', hm, w8⟩ := hN _ _ q8
        obtain ⟨b1, b2, b3, b4⟩ := back I8
        refine append_at b4 (fun h' hs' hD' => ?_) (by rw [List.size_toArray, ← rv.length]; exact Nat.le_of_lt hz)
        refine ⟨m', hm, i + 1, ys ++ [v8], H8, some z, its ++ [u8], k + 1, ?_, ?_, b2, b3, ?_, rv.append (.cons r8 .nil), w8⟩
        · have I9 : Inv (blk X sc x M H2.objs.size s H fp) [] (some z :: σ) H8 s8 := I8.pins_of (fun p hp => absurd hp (by simp))
          exact I9.turned (t' := s8.toks) (it := s.heap.objs.size) (fun b o hb e => (hs'.2 b hb).trans e) b3 hDC (.inr (Nat.le_refl _)) (fun y c e z => absurd (cne y c e) (by rw [z]; exact Nat.lt_irrefl _)) fun p hp => absurd (show p ∈ ([] : List (Addr × Obj)) from hp) (by simp)
        · exact T.keep _ _ _ b1 fun b hb o e => (hs'.2 b (Nat.ne_of_lt (hl b hb))).trans e
        · rw [hD']
          simp
  exact codeAny_compStart_list (loop _ rfl) (T.self X.A 0 _ _ _ (T.keep 0 _ _ st fun b hb o e => old b o e) (loop _ rfl))
end
theorem lc_by {J : It} {σ : St} {tt : TT} {te : TE} {R : List V → Hp → Prop} {H : Hp} (n : Nat) (Pv : Nat → List V → Hp → Prop) (h0 : Pv 0 [] H) (hz : ∀ i ys H, i ≤ n → Pv i ys H → ys.length ≤ i) (hn : n ≤ sizeLine) (hgo : ∀ i ys H, i < n → Pv i ys H → J.go i H)
    (hs : ∀ i ys H x H', i < n → Pv i ys H → J.yld i H x H' → tt (some x :: σ) H' fun b H2 => if b = true then te (some x :: σ) H2 fun y H3 => Pv (i + 1) (ys ++ [y]) H3 else Pv (i + 1) ys H2)
    (hd : ∀ ys H, Pv n ys H → J.stop n H ∧ R ys H) : LcW J σ tt te R H := by
  refine ⟨fun i m ys H => m = n - i ∧ i ≤ n ∧ Pv i ys H, ⟨n, by simp, Nat.zero_le _, h0⟩, ?_⟩
  rintro i m ys H ⟨rfl, hi, p⟩
  have hl := hz i ys H hi p
  by_cases hlt : i < n
  · exact .inr ⟨hgo i ys H hlt p, by omega, Pv (i + 1), fun ys' H' p' => ⟨n - (i + 1), by omega, rfl, hlt, p'⟩, fun x H' y => hs i ys H x H' hlt p y⟩
  · have e : i = n := by omega
    subst e
    exact .inl ⟨(hd ys H p).1, by omega, (hd ys H p).2⟩
theorem alw {σ σ' : St} {H : Hp} {te : TE} {A : VK} {B : Hp → Prop} (h : te σ' H A) : tAlways σ H fun b H2 => if b = true then te σ' H2 A else B H2 := by
  show if true = true then te σ' H A else B H
  rw [if_pos rfl]
  exact h
end L2
end
section
set_option Elab.async false
set_option linter.all false
set_option maxRecDepth 100000
set_option maxHeartbeats 4000000
namespace L2
open PySem PySem.Spec PyProof.Rows
noncomputable def tLc (wi : TI) (tt : TT) (te : TE) : TE := fun σ H Q => wi σ H fun J H1 => LcW J σ tt te (fun ys H2 => ∀ D, H2 D = none → Q (.ref D) (upd H2 D (.lst ys))) H1
section
variable {X : Cx} {sc : Scope} {x : Str} {px pos : Pos} {elt iter : Expr} {ifs : List Expr} {tt : TT} {te : TE} {wi : TI}
theorem clos_of {pins : List (Addr × Obj)} {σ : St} {H : Hp} {s : Shared} {M : List Str} (I : Inv X pins σ H s) (ok : LcOk sc X.env.scope x M) : closureFor sc X.env = pure (closeL X.env sc.names []) :=
  closureFor_eq fun p hp e => I.ok.has p.1 (ok.free p hp e)
theorem pe_lcM (M : List Str) (hc : X.calm = true) (ok : lcOk sc X.env.scope x M = true) (hM : ∀ (j : Nat) (y : Str), M[j]? = some y → (∃ p ∈ sc.names, p.1 = y) → X.N[j]? = some y) (hlen : M.length = X.N.length) (hnd : (x :: M).Nodup)
    (hi : PI X (.Name x px) iter wi) (ht : ∀ C s H fp, PF (blk X sc x M C s H fp) ifs tt) (he : ∀ C s H fp, PE (blk X sc x M C s H fp) elt te)
    (hs : ∀ x, foldedSetIterable iter X.env x = pure x := by intro _; rfl) : PE X (.ListComp elt [⟨.Name x px, iter, ifs, 0⟩] sc pos) (tLc wi tt te) := by
  intro pins s σ H Q I h
  have ok := LcOk.of ok
  rw [eval_ListComp]
  refine wpAny_comprehension_free (use := none) rfl hs (clos_of I ok) ok.kind ok.locs (thn (hi pins s σ H _ I h) fun v s1 h1 => thn h1 fun itv s2 h2 => ?_)
  obtain ⟨it, fp, tn, J, H2, e, I2, T, st2, f2, lw⟩ := h2
  subst e
  refine lc_block (RR := fun acc C => compPost (model X.prog X.w) X.A X.xe none (EP X pins σ Q) acc C) I2 ok hM hlen hnd (fun _ => hc) T.q st2 f2 ht he lw ?_
  intro D C ys H' s' m q hD I' fC hn
  exact ⟨m, hn, fun h' hs' => ⟨.ref D, _, I'.turned (t' := s'.toks) (it := C) (fun b o hb e => (hs'.2 b hb).trans e) fC.1 fC.2.1 fC.2.2.2.1 fC.2.2.2.2.1 fC.2.2.2.2.2, rfl, q D hD⟩⟩
theorem pe_lc (hc : X.calm = true) (ok : lcOk sc X.env.scope x X.N = true) (hnd : (x :: X.N).Nodup)
    (hi : PI X (.Name x px) iter wi) (ht : ∀ C s H fp, PF (blk X sc x X.N C s H fp) ifs tt) (he : ∀ C s H fp, PE (blk X sc x X.N C s H fp) elt te)
    (hs : ∀ x, foldedSetIterable iter X.env x = pure x := by intro _; rfl) : PE X (.ListComp elt [⟨.Name x px, iter, ifs, 0⟩] sc pos) (tLc wi tt te) :=
  pe_lcM X.N hc ok (fun _ _ h _ => h) rfl hnd hi ht he hs
noncomputable def tLcSet (i : Nat) (t : TE) : TS := fun D σ H => t σ H fun v H1 => D.nx (σ.set i (some v)) H1
theorem ps_lcM (M : List Str) {y : Str} {py spos : Pos} {i : Nat} (hc : X.calm = true) (hN : X.N.Nodup) (hiy : X.N[i]? = some y) (hy : X.env.scope.names.lookup y = some .local) (hsw : swapsWith (.ListComp elt [⟨.Name x px, iter, ifs, 0⟩] sc pos) (some (.Name y py)) spos.line X.env = pure true)
    (ok : lcOk sc X.env.scope x M = true) (hM : ∀ (j : Nat) (y : Str), M[j]? = some y → (∃ p ∈ sc.names, p.1 = y) → X.N[j]? = some y) (hlen : M.length = X.N.length) (hnd : (x :: M).Nodup)
    (hi : PI X (.Name x px) iter wi) (ht : ∀ C s H fp, PF (blk X sc x M C s H fp) ifs tt) (he : ∀ C s H fp, PE (blk X sc x M C s H fp) elt te)
    (hs : ∀ x, foldedSetIterable iter X.env x = pure x := by intro _; rfl) : PS X (.Assign [.Name y py] (.ListComp elt [⟨.Name x px, iter, ifs, 0⟩] sc pos) spos) (tLcSet i (tLc wi tt te)) := by
  intro pins s σ H D I h
  have ok := LcOk.of ok
  rw [exec_Assign_Name_used _ _ _ _ hsw]
  refine wpAny_bind (wpAny_standAt (wpAny_bind ?_))
  show wpAny _ X.A (do let _ ← comprehension (.ListComp elt [⟨.Name x px, iter, ifs, 0⟩] sc pos) sc X.env _ (newList []) false (eval iter X.env) (some (assign (.Name y py) X.env))) _ _ s
  refine wpAny_bind (wpAny_mono (wpAny_comprehension_free (use := some (assign (.Name y py) X.env)) (Q := fun _ s' => SP X pins D .next s') rfl hs (clos_of I ok) ok.kind ok.locs
    (thn (hi pins s σ H _ I h) fun v s1 h1 => thn h1 fun itv s2 h2 => ?_)) (fun _ s' hq => wpAny_pure (wpAny_pure hq)) fun _ _ e => e)
  obtain ⟨it, fp, tn, J, H2, e, I2, T, st2, f2, lw⟩ := h2
  subst e
  refine lc_block (RR := fun acc C => compPost (model X.prog X.w) X.A X.xe (some (assign (.Name y py) X.env)) (fun _ s' => SP X pins D .next s') acc C) I2 ok hM hlen hnd (fun _ => hc) T.q st2 f2 ht he lw ?_
  intro L C ys H' s' m q hD I' fC hn
  show wpAny _ X.A (assign (.Name y py) X.env (.ref L)) _ _ _
  refine wpAny_assign_Name (store_ok2 (v := .ref L) I' hN hiy (.inl hy) rfl (fun s2 I2 hs2 => ?_) (.inr hy))
  obtain ⟨a, sb, ha⟩ := hs2
  have hCa : C ≠ a := by
    rcases ha with e | e
    · rw [e]; exact fC.2.1
    · exact Ne.symm (fC.2.2.2.2.1 _ _ e)
  exact ⟨m, hn.sameBut sb hCa, fun h' hs' => ⟨_, _, I2.turned (t' := s2.toks) (it := C) (fun b o hb e => (hs'.2 b hb).trans e) fC.1 fC.2.1 fC.2.2.2.1 fC.2.2.2.2.1 fC.2.2.2.2.2, q L hD⟩⟩
theorem ps_lc {y : Str} {py spos : Pos} {i : Nat} (hc : X.calm = true) (hN : X.N.Nodup) (hiy : X.N[i]? = some y) (hy : X.env.scope.names.lookup y = some .local) (hsw : swapsWith (.ListComp elt [⟨.Name x px, iter, ifs, 0⟩] sc pos) (some (.Name y py)) spos.line X.env = pure true)
    (ok : lcOk sc X.env.scope x X.N = true) (hnd : (x :: X.N).Nodup)
    (hi : PI X (.Name x px) iter wi) (ht : ∀ C s H fp, PF (blk X sc x X.N C s H fp) ifs tt) (he : ∀ C s H fp, PE (blk X sc x X.N C s H fp) elt te)
    (hs : ∀ x, foldedSetIterable iter X.env x = pure x := by intro _; rfl) : PS X (.Assign [.Name y py] (.ListComp elt [⟨.Name x px, iter, ifs, 0⟩] sc pos) spos) (tLcSet i (tLc wi tt te)) :=
  ps_lcM X.N hc hN hiy hy hsw ok (fun _ _ h _ => h) rfl hnd hi ht he hs
end
end L2
end
section
set_option Elab.async false
set_option linter.all false
set_option maxRecDepth 100000
set_option maxHeartbeats 4000000
namespace L2
open PySem PySem.Spec PyProof.Rows PySem.SeqAt
noncomputable def Cmp (K : PySem.W.Frag) (H : Hp) (n : Nat) (x y : V) (b : Bool) : Prop :=
  ∀ (X : Cx) (pins : List (Addr × Obj)) (σ : St) (s : Shared) (A : Around) (u v : Value), X.K = K → Inv X pins σ H s → RelV x u → RelV y v → A.units + n < cLine → EqAt A s u v b ∧ RcAt A s u v b ∧ RcNeAt A s u v (!b)
theorem cmp_flat {K : PySem.W.Frag} {H : Hp} {n : Nat} {x y : V} (fx : flatV x = true) (fy : flatV y = true) : Cmp K H n x y (eqV x y) := by
  intro X pins σ s A u v _ I rx ry _
  refine ⟨eqAt_V rx ry fx fy, ?_⟩
  cases x with
  | non =>
    cases rx
    cases y with
    | non => cases ry; exact ⟨RcAt.none_none, RcNeAt.none_none⟩
    | bl b => cases ry; exact ⟨RcAt.none_bool b, RcNeAt.none_bool b⟩
    | int b => obtain ⟨t, rfl⟩ := ry; exact ⟨RcAt.none_int b t, RcNeAt.none_int b t⟩
    | str b => obtain ⟨t, rfl⟩ := ry; exact ⟨RcAt.none_str b t, RcNeAt.none_str b t⟩
    | _ => cases fy
  | bl a =>
    cases rx
    cases y with
    | non => cases ry; exact ⟨RcAt.bool_none a, RcNeAt.bool_none a⟩
    | bl b => cases ry; exact ⟨RcAt.bool_bool a b, RcNeAt.bool_bool a b⟩
    | int b => obtain ⟨t, rfl⟩ := ry; exact ⟨RcAt.bool_int a b t, RcNeAt.bool_int a b t⟩
    | str b => obtain ⟨t, rfl⟩ := ry; exact ⟨RcAt.bool_str a b t, RcNeAt.bool_str a b t⟩
    | _ => cases fy
  | int a =>
    obtain ⟨ta, rfl⟩ := rx
    cases y with
    | non => cases ry; exact ⟨RcAt.int_none a ta, RcNeAt.int_none a ta⟩
    | bl b => cases ry; exact ⟨RcAt.int_bool a ta b, RcNeAt.int_bool a ta b⟩
    | int b => obtain ⟨t, rfl⟩ := ry; exact ⟨RcAt.int_int a ta b t, RcNeAt.int_int a ta b t⟩
    | str b => obtain ⟨t, rfl⟩ := ry; exact ⟨RcAt.int_str a ta b t, RcNeAt.int_str a ta b t⟩
    | _ => cases fy
  | str a =>
    obtain ⟨ta, rfl⟩ := rx
    cases y with
    | non => cases ry; exact ⟨RcAt.str_none a ta, RcNeAt.str_none a ta⟩
    | bl b => cases ry; exact ⟨RcAt.str_bool a ta b, RcNeAt.str_bool a ta b⟩
    | int b => obtain ⟨t, rfl⟩ := ry; exact ⟨RcAt.str_int a ta b t, RcNeAt.str_int a ta b t⟩
    | str b => obtain ⟨t, rfl⟩ := ry; exact ⟨RcAt.str_str a ta b t, RcNeAt.str_str a ta b t⟩
    | _ => cases fy
  | _ => cases fx
section
variable {K : PySem.W.Frag} {H : Hp} {n : Nat} {a b : Addr} {xs ys : List V} {e : Nat → Bool}
theorem vals_at {xs : List V} {its : List Value} (r : Vals xs its) {j : Nat} (h : j < its.toArray.size) : ∃ x, xs[j]? = some x ∧ RelV x its.toArray[j] := by
  have hl : j < its.length := by simpa using h
  cases q : xs[j]? with
  | none =>
    have := List.getElem?_eq_none_iff.mp q
    rw [r.length] at this
    omega
  | some x =>
    obtain ⟨u, hu, ru⟩ := r.get q
    refine ⟨x, rfl, ?_⟩
    obtain ⟨_, e⟩ := List.getElem?_eq_some_iff.mp hu
    have : its.toArray[j] = u := by simpa using e
    rw [this]; exact ru
theorem in1_units (A : Around) : A.in1.units = A.units + 1 := rfl
theorem cmp_lists (ha : SqL K H a xs) (hb : SqL K H b ys) (hl : xs.length = ys.length) (hab : a = b → (List.range xs.length).all e = true) (he : ∀ j x y, xs[j]? = some x → ys[j]? = some y → Cmp K H n x y (e j)) :
    Cmp K H (n + 1) (.ref a) (.ref b) ((List.range xs.length).all e) := by
  intro X pins σ s A u v hK I rx ry hu
  subst hK
  cases rx; cases ry
  obtain ⟨its, r1, p1, _⟩ := I.list ha
  obtain ⟨its2, r2, p2, _⟩ := I.list hb
  have hsz : its.toArray.size = its2.toArray.size := by simp [← r1.length, ← r2.length, hl]
  have es : xs.length = its.toArray.size := by simp [← r1.length]
  have items : ∀ j (h1 : j < its.toArray.size) (h2 : j < its2.toArray.size), EqAt A.in1 s its.toArray[j] its2.toArray[j] (e j) := fun j h1 h2 => by
    obtain ⟨x, e1, q1⟩ := vals_at r1 h1
    obtain ⟨y, e2, q2⟩ := vals_at r2 h2
    exact (he j x y e1 e2 X pins σ s A.in1 _ _ rfl I q1 q2 (by rw [in1_units]; omega)).1
  have rc : RcAt A s (.ref a) (.ref b) ((List.range xs.length).all e) := by rw [es]; exact RcAt.lists p1.isList p2.isList hsz (by omega) items
  refine ⟨?_, rc, ?_⟩
  · by_cases h : a = b
    · rw [hab h, h]; exact EqAt.same _
    · exact .of_refs h rc
  · rw [es]; exact RcNeAt.lists p1.isList p2.isList hsz (by omega) items
theorem cmp_lists_len (ha : SqL K H a xs) (hb : SqL K H b ys) (hl : xs.length ≠ ys.length) : Cmp K H n (.ref a) (.ref b) false := by
  intro X pins σ s A u v hK I rx ry hu
  subst hK
  cases rx; cases ry
  obtain ⟨its, r1, p1, _⟩ := I.list ha
  obtain ⟨its2, r2, p2, _⟩ := I.list hb
  have hsz : (its.toArray.size != its2.toArray.size) = true := by simp [← r1.length, ← r2.length, hl]
  have rc : RcAt A s (.ref a) (.ref b) false := RcAt.lists_lengths p1.isList p2.isList hsz (by omega)
  refine ⟨.of_refs (fun h => ?_) rc, rc, RcNeAt.lists_lengths p1.isList p2.isList hsz (by omega)⟩
  subst h
  exact hl (by rw [I.list_inj ha hb])
theorem cmp_tuples (ha : SqT K H a xs) (hb : SqT K H b ys) (hab : a = b → ((List.range (min xs.length ys.length)).all e && xs.length == ys.length) = true) (he : ∀ j x y, xs[j]? = some x → ys[j]? = some y → Cmp K H n x y (e j)) :
    Cmp K H (n + 1) (.ref a) (.ref b) ((List.range (min xs.length ys.length)).all e && xs.length == ys.length) := by
  intro X pins σ s A u v hK I rx ry hu
  subst hK
  cases rx; cases ry
  obtain ⟨its, r1, p1, _⟩ := I.tuple ha
  obtain ⟨its2, r2, p2, _⟩ := I.tuple hb
  have es : xs.length = its.toArray.size := by simp [← r1.length]
  have es2 : ys.length = its2.toArray.size := by simp [← r2.length]
  have items : ∀ j (h1 : j < its.toArray.size) (h2 : j < its2.toArray.size), EqAt A.in1 s its.toArray[j] its2.toArray[j] (e j) := fun j h1 h2 => by
    obtain ⟨x, e1, q1⟩ := vals_at r1 h1
    obtain ⟨y, e2, q2⟩ := vals_at r2 h2
    exact (he j x y e1 e2 X pins σ s A.in1 _ _ rfl I q1 q2 (by rw [in1_units]; omega)).1
  have p1 : s.heap.IsTuple a its.toArray := p1
  have p2 : s.heap.IsTuple b its2.toArray := p2
  have rc : RcAt A s (.ref a) (.ref b) ((List.range (min xs.length ys.length)).all e && xs.length == ys.length) := by rw [es, es2]; exact RcAt.tuples p1 p2 (by omega) items
  refine ⟨?_, rc, ?_⟩
  · by_cases h : a = b
    · rw [hab h, h]; exact EqAt.same _
    · exact .of_refs h rc
  · rw [es, es2]; exact RcNeAt.tuples p1 p2 (by omega) items
theorem all_range_true {k : Nat} : (List.range k).all (fun _ => true) = true := by simp
theorem cmp_same_lists (ha : SqL K H a xs) (hb : SqL K H b ys) (hl : xs.length = ys.length) (he : ∀ (j : Nat) x y, xs[j]? = some x → ys[j]? = some y → Cmp K H n x y true) : Cmp K H (n + 1) (.ref a) (.ref b) true := by
  have := cmp_lists (e := fun _ => true) ha hb hl (fun _ => all_range_true) he
  rwa [all_range_true] at this
theorem cmp_same_tuples (ha : SqT K H a xs) (hb : SqT K H b ys) (hl : xs.length = ys.length) (he : ∀ (j : Nat) x y, xs[j]? = some x → ys[j]? = some y → Cmp K H n x y true) : Cmp K H (n + 1) (.ref a) (.ref b) true := by
  have q : ((List.range (min xs.length ys.length)).all (fun _ => true) && xs.length == ys.length) = true := by simp [hl]
  have := cmp_tuples (e := fun _ => true) ha hb (fun _ => q) he
  rwa [q] at this
theorem map_inj_str : ∀ {ps qs : List Str}, ps.map V.str = qs.map V.str → ps = qs
  | [], [], _ => rfl
  | [], _ :: _, h => by cases h
  | _ :: _, [], h => by cases h
  | p :: ps, q :: qs, h => by
    have h1 := List.cons.inj h
    rw [V.str.inj h1.1, map_inj_str h1.2]
theorem all_get_eq : ∀ (ps qs : List Str), ((List.range (min ps.length qs.length)).all (fun j => ps[j]?.getD default == qs[j]?.getD default) && ps.length == qs.length) = decide (ps = qs) := by
  intro ps qs
  by_cases h : ps = qs
  · subst h
    simp
  · rw [decide_eq_false h]
    rw [Bool.eq_false_iff]
    intro q
    rw [Bool.and_eq_true, List.all_eq_true] at q
    obtain ⟨q1, q2⟩ := q
    have hl : ps.length = qs.length := by simpa using q2
    apply h
    apply List.ext_getElem?
    intro j
    by_cases hj : j < ps.length
    · have hj2 : j < qs.length := by omega
      have := q1 j (by simp; omega)
      rw [List.getElem?_eq_getElem hj, List.getElem?_eq_getElem hj2] at this ⊢
      have := eq_of_beq this
      simpa using this
    · rw [List.getElem?_eq_none (by omega), List.getElem?_eq_none (by omega)]
theorem cmp_strs {ps qs : List Str} (ha : SqT K H a (ps.map V.str)) (hb : SqT K H b (qs.map V.str)) : Cmp K H 1 (.ref a) (.ref b) (decide (ps = qs)) := by
  intro X pins σ s A u v hK I
  have q : a = b → ps = qs := fun h => by
    subst h
    subst hK
    exact map_inj_str (I.tuple_inj ha hb)
  have := cmp_tuples (n := 0) (e := fun j => ps[j]?.getD default == qs[j]?.getD default) ha hb (fun h => by
    rw [List.length_map, List.length_map, all_get_eq]
    exact decide_eq_true (q h)) (fun j x y h1 h2 => by
      rw [List.getElem?_map] at h1 h2
      obtain ⟨p, e1, rfl⟩ := Option.map_eq_some_iff.mp h1
      obtain ⟨q, e2, rfl⟩ := Option.map_eq_some_iff.mp h2
      rw [e1, e2]
      exact cmp_flat rfl rfl)
  rw [List.length_map, List.length_map, all_get_eq] at this
  exact this X pins σ s A u v hK I
end
section
variable {X : Cx} {n : Nat}
noncomputable def rEqC (K : PySem.W.Frag) (n : Nat) : R2 := fun x y H Q => ∃ b, Cmp K H n x y b ∧ Q (.bl b) H
noncomputable def rNeC (K : PySem.W.Frag) (n : Nat) : R2 := fun x y H Q => ∃ b, Cmp K H n x y b ∧ Q (.bl (!b)) H
theorem op_eqC (hu : X.A.units + n < cLine) : OpR X (compareOp .Eq) (rEqC X.K n) := by
  intro pins s σ H x y v u Q I rx ry h
  obtain ⟨b, c, q⟩ := h
  exact (c X pins σ s X.A _ _ rfl I rx ry hu).2.1 _ _ _ _ ⟨.bl b, H, I, rfl, q⟩
theorem op_neC (hu : X.A.units + n < cLine) : OpR X (compareOp .NotEq) (rNeC X.K n) := by
  intro pins s σ H x y v u Q I rx ry h
  obtain ⟨b, c, q⟩ := h
  exact (c X pins σ s X.A _ _ rfl I rx ry hu).2.2 _ _ _ _ ⟨.bl (!b), H, I, rfl, q⟩
end
end L2
end
section
set_option Elab.async false
set_option linter.all false
set_option maxRecDepth 100000
set_option maxHeartbeats 4000000
namespace L2
open PySem PySem.Spec PyProof.Rows PySem.SeqAt
section
variable {X : Cx}
theorem op_mulX : OpR X (binaryOp .Mult) (rI IntMulOk fun i j => .int (i * j)) := opI fun _ _ _ _ _ _ _ hc q => PyProof.Rows.mul_int q hc
noncomputable def CDivX (i j : Int) : Prop := 0 < j ∧ j.natAbs.log2 < 9000
theorem op_fdivX : OpR X (binaryOp .FloorDiv) (rI CDivX fun i j => .int (i / j)) := opI fun i j _ _ _ _ _ hc q => by
  have h1 : (0 : Int) < j := hc.1
  exact floordiv_int (by omega) (by rw [Int.fdiv_eq_ediv_of_nonneg i (by omega)]; exact q) (.inl (PyProof.noPylong_of_log2 hc.2))
noncomputable def rIsi (K : PySem.W.Frag) : List V → Hp → VK → Prop := fun xs H Q => ∃ x c t cv b, xs = [x, c] ∧ RelV c cv ∧ (∀ u, RelV c u → u = cv) ∧ TyOf K H x t ∧ PySem.W.kitOne K t cv = some b ∧ Q (.bl b) H
theorem call_isi : CallR X (.builtin "isinstance") (rIsi X.K) := by
  intro pins s σ H xs us Q I r h
  obtain ⟨x, c, t, cv, b, rfl, rc, uc, ty, e, q⟩ := h
  obtain ⟨u, v, rfl, ru, rv⟩ := vals2 r
  cases uc v rv
  exact isinst_ok I ru ty e fun tk => ⟨.bl b, H, I.tok tk, rfl, q⟩
theorem cat_tup0 {prog : Program} {w : World} {A : Around} {E : Value → Shared → Prop} {s : Shared} {t b : Addr} {vs ws : List Value} {Q : Value → Shared → Prop} (ht : IsTup s.heap t vs.toArray) (hb : IsTup s.heap b ws.toArray) (hv : vs = [])
    (h1 : Q (.ref b) s) : wpAny (model prog w) A (binaryOp .Add (.ref t) (.ref b)) Q E s := by
  obtain ⟨⟨c1, d1, dt1, sl1⟩, ho, hc, n, hd⟩ := id ht
  obtain ⟨⟨c2, d2, dt2, sl2⟩, ho2, hc2, n2, hd2⟩ := id hb
  simp only at hc hd hc2 hd2
  subst hc hd hc2 hd2
  exact concat_meets ⟨_, ho, rfl⟩ ⟨_, ho2, rfl⟩ noFill_tuple_add seq_tuple_add PySem.F.slot_tuple_add PySem.F.entry_tuple_add (PySem.F.args_tuple_add_2 _ _)
    (tuple_addW0 t b vs.toArray ws.toArray n n2 d1 d2 sl1 sl2 (by simp [hv])) ⟨ho, ho2, h1⟩
noncomputable def rCatA (K : PySem.W.Frag) : R2 := fun x y H Q => ∃ a b xs ys, x = .ref a ∧ y = .ref b ∧ SqT K H a xs ∧ SqT K H b ys ∧ xs.length + ys.length ≤ sizeLine ∧
  (xs = [] → Q (.ref b) H) ∧ (xs ≠ [] → ys = [] → Q (.ref a) H) ∧ (xs ≠ [] → ys ≠ [] → ∀ p, H p = none → Q (.ref p) (upd H p (.tup (xs ++ ys))))
theorem op_catA : OpR X (binaryOp .Add) (rCatA X.K) := by
  intro pins s σ H x y v u Q I rx ry h
  obtain ⟨a, b, xs, ys, rfl, rfl, ha, hb, hz, h0, h1, h2⟩ := h
  cases rx; cases ry
  obtain ⟨its, r1, p1, _⟩ := I.tuple ha
  obtain ⟨its2, r2, p2, _⟩ := I.tuple hb
  by_cases hx : xs = []
  · exact cat_tup0 p1 p2 (r1.nil_iff.mpr hx) ⟨.ref b, H, I, rfl, h0 hx⟩
  · refine HT.cat_tup p1 p2 (fun z => hx (r1.nil_iff.mp z)) (fun z => ⟨.ref a, H, I, rfl, h1 hx (r2.nil_iff.mp z)⟩) (fun z => ?_) (by rw [← r1.length, ← r2.length]; exact hz)
    refine ⟨.ref s.heap.objs.size, _, I.laid (o := .tup (xs ++ ys)) (t' := s.toks) (fun c o e => Heap.get?_push_of_some _ e) (Nat.le_refl _) ?_, rfl, h2 hx (fun q => z (r2.nil_iff.mpr q)) _ I.fresh⟩
    exact ⟨by rw [List.length_append]; exact hz, its ++ its2, r1.append r2, ⟨_, Heap.get?_push_size _ rfl, rfl, _, rfl⟩⟩
noncomputable def rAll (K : PySem.W.Frag) : List V → Hp → VK → Prop := fun xs H Q => ∃ (a : Addr) (bs : List Bool), xs = [.ref a] ∧ SqL K H a (bs.map V.bl) ∧ Q (.bl (bs.all id)) H
theorem call_allL (hc : X.calm = true) : CallR X (.builtin "all") (rAll X.K) := by
  intro pins s σ H xs us Q I r h
  obtain ⟨a, bs, rfl, ha, q⟩ := h
  obtain ⟨u, rfl, ru⟩ := vals1 r
  cases ru
  obtain ⟨its, r1, p1, hz⟩ := I.list ha
  refine call_all_walk ?_
  refine wpAny_pyIter_list p1.isList ?_
  have hne : a ≠ s.heap.objs.size := fun z => by
    obtain ⟨o, n, e, _⟩ := p1
    exact absurd (Heap.lt_size e) (by rw [z]; exact Nat.lt_irrefl _)
  refine ⟨s.heap.objs.size, _, _, its.toArray.size, _, _, fun i => bs.getD i true, rfl, Walks.list (A := X.A.in1) (I.ok.hd hc) _ a hne its.toArray, ⟨⟨_, Heap.get?_push_size _ rfl, rfl, rfl⟩, ?_⟩, fun i v s' Q' E' hP hQ => ?_, fun h' tk hk => ?_⟩
  · obtain ⟨o, n, e, c, _, d⟩ := p1
    exact ⟨o, Heap.get?_push_of_some _ e, c, n, d⟩
  · have hi : its[i]? = some v := by simpa using hP
    have hl := r1.length
    rw [List.length_map] at hl
    have hlt : i < bs.length := by
      have := (List.getElem?_eq_some_iff.mp hi).1
      omega
    obtain ⟨w', hw, rw'⟩ := r1.get (i := i) (x := V.bl bs[i]) (by rw [List.getElem?_map, List.getElem?_eq_getElem hlt]; rfl)
    rw [hi] at hw
    cases hw
    cases rw'
    refine wpAny_truthy_bool ?_
    have : bs.getD i true = bs[i] := by simp [hlt]
    rw [← this]
    exact hQ
  · refine ⟨.bl _, H, I.kept (t' := tk) (fun b o e => hk b o (fun z => ?_) (Heap.get?_push_of_some _ e)), rfl, ?_⟩
    · have : b = s.heap.objs.size := by simpa using z
      exact absurd (Heap.lt_size e) (by rw [this]; exact Nat.lt_irrefl _)
    · have : (List.range its.toArray.size).all (fun i => bs.getD i true) = bs.all id := by
        have hl : its.toArray.size = bs.length := by
          have := r1.length
          rw [List.length_map] at this
          simpa using this.symm
        rw [hl, Bool.eq_iff_iff, List.all_eq_true, List.all_eq_true]
        constructor
        · intro h b hb
          obtain ⟨i, hi, rfl⟩ := List.getElem_of_mem hb
          have := h i (by simpa using hi)
          simpa [hi] using this
        · intro h i hi
          have hi : i < bs.length := by simpa using hi
          have := h bs[i] (List.getElem_mem hi)
          simpa [hi] using this
      rw [this]
      exact q
noncomputable def Its (x : Str) : It := ⟨fun i _ => i < x.cps.size, fun i H y H' => H' = H ∧ ∃ c, x.cps[i]? = some c ∧ y = .str ⟨#[c]⟩, fun i _ => x.cps.size ≤ i⟩
noncomputable def iStr (tl : TE) : TI := fun σ H R => tl σ H fun x H1 => ∃ z, x = .str z ∧ R (Its z) H1
theorem turn_str {P : Program} {w : World} {K : PySem.W.Frag} {y : Str} {py : Pos} {z : Str} {t : Tok} {ty : String} (it : Addr) (W : ∀ A' : Around, A'.handled = none → Walks P w A' it [it] [it] z.cps.size (SignAt z) (fun i h => h.IsStrIter it ty z t i)) (hs : ∀ (A : Around) (i : Nat) (s : Shared) (Q : Value → Shared → Prop) (E : Value → Shared → Prop), s.heap.IsStrIter it ty z t i → Q (.ref it) s → wpAny (model P w) A (pyIter (.ref it)) Q E s) :
    Turn P w K (.Name y py) (Its z) [it] it (fun i h => h.IsStrIter it ty z t i ∧ i ≤ z.cps.size) where
  mem := by simp
  obj := fun i h st b hb => by
    have e : b = it := by simpa using hb
    subst e
    obtain ⟨⟨o, e, c, d⟩, _⟩ := st
    exact ⟨o, e, fun v z => by rw [d] at z; cases z⟩
  keep := fun i h h' st k => by
    obtain ⟨⟨o, e, r⟩, q⟩ := st
    exact ⟨⟨o, k it (by simp) o e, r⟩, q⟩
  item := by
    intro X hP hw hK hc i pins s σ H E I hf st hg
    subst hP hw hK
    obtain ⟨f0, f1, f2, f3, f4, f5⟩ := hf it (by simp)
    refine (W X.A (I.ok.hd hc)).item i s _ _ hg st.1 fun v h' tk hv st' hk => ?_
    obtain ⟨c, u, e1, rfl⟩ := hv
    have I1 : Inv X pins σ H { s with heap := h', toks := tk } := I.turned (t' := tk) (fun b o hb e => hk b o (by simpa using hb) e) f0 f1 f3 f4 f5
    refine ⟨_, rfl, ?_⟩
    show wpAny _ _ (pure ()) _ _ _
    exact wpAny_pure ⟨.str ⟨#[c]⟩, H, I1, ⟨_, rfl⟩, ⟨rfl, c, e1, rfl⟩, ⟨st', hg⟩, fun b hb => (hf b hb).1⟩
  done := by
    intro X hP hw hK hc i pins s σ H E I hf st hg
    subst hP hw hK
    obtain ⟨f0, f1, f2, f3, f4, f5⟩ := hf it (by simp)
    have e : i = z.cps.size := Nat.le_antisymm st.2 hg
    subst e
    exact (W X.A (I.ok.hd hc)).done s _ _ st.1 fun h' tk hk => ⟨rfl, I.turned (t' := tk) (fun b o hb e => hk b o (by simpa using hb) e) f0 f1 f3 f4 f5⟩
  self := fun A i s Q E st h => hs A i s Q E st.1 h
theorem pi_str {l : Expr} {tl : TE} {y : Str} {py : Pos} (hl : PE X l tl) : PI X (.Name y py) l (iStr tl) := by
  intro pins s σ H R I h
  refine thn (hl pins s σ H _ I h) fun v s1 ⟨x, H1, I1, r1, q1⟩ => ?_
  obtain ⟨z, rfl, q⟩ := q1
  obtain ⟨t, rfl⟩ := r1
  have fo : ∀ b ∈ [s1.heap.objs.size], FpOk X pins H1 b := fun b hb => by
    have e : b = s1.heap.objs.size := by simpa using hb
    subst e
    exact I1.fpOk (Nat.le_refl _) (I1.hok.fresh (Nat.le_refl _))
  cases ha : z.cps.all (· < 128) with
  | false => exact wpAny_pyIter_wide ha ⟨s1.heap.objs.size, [s1.heap.objs.size], _, Its z, H1, rfl, I1.kept (t' := s1.toks) fun b o e => Heap.get?_push_of_some _ e, turn_str _ (fun A' hA => Walks.strWide hA _ z t) (fun _ _ _ _ _ st h => wpAny_pyIter_striter_wide st h), ⟨⟨_, Heap.get?_push_size _ rfl, rfl, rfl⟩, Nat.zero_le _⟩, fo, q⟩
  | true => exact wpAny_pyIter_ascii ha ⟨s1.heap.objs.size, [s1.heap.objs.size], _, Its z, H1, rfl, I1.kept (t' := s1.toks) fun b o e => Heap.get?_push_of_some _ e, turn_str _ (fun A' hA => Walks.strAscii hA _ z t) (fun _ _ _ _ _ st h => wpAny_pyIter_striter_ascii st h), ⟨⟨_, Heap.get?_push_size _ rfl, rfl, rfl⟩, Nat.zero_le _⟩, fo, q⟩
end
end L2
end
section
set_option Elab.async false
set_option linter.all false
set_option maxRecDepth 100000
set_option maxHeartbeats 4000000
namespace L2
open PySem PySem.Spec PyProof.Rows PySem.SeqAt
section
variable {prog : Program} {w : World} {A : Around} {E : Value → Shared → Prop} {s : Shared} {it d : Addr} {i n ep : Nat} {od : Obj} {es : Array DictEntry}
theorem next_key {Q : Option Value → Shared → Prop} (hit : s.heap.IsKeyIter it d i n ep) (hd : s.heap.get? d = some od) (hdd : od.data = .dict es ep) (hn : es.size = n) (hi : i < es.size)
    (hQ : ∀ h', h'.IsKeyIter it d (i + 1) n ep → Heap.SameBut it s.heap h' → Q (some es[i].key) { s with heap := h' }) : wpAny (model prog w) A (pyNext (.ref it)) Q E s := by
  obtain ⟨oi, hoi, hci, hdi⟩ := id hit
  subst hn
  unfold pyNext
  refine wpAny_bind (wpAny_attempt (wpAny_callSpecial?_slot (name := Str.ofString "__next__") hit.typeIs F.slot_dict_keyiterator_next (wpAny_call_entry F.slot_dict_keyiterator_next hit.typeIs F.entry_dict_keyiterator_next ?tree (F.args_dict_keyiterator_next_1 _))))
  refine wpAny_bind (wpAny_pure (wpAny_bind (wpAny_bind ?_)))
  first | refine wpAny_bind (wpAny_typeNameOfWhole_keyiter hit.typeIs (wpAny_pure ?_)) | refine wpAny_bind (wpAny_typeNameOf_keyiter hit.typeIs (wpAny_pure ?_))
  refine wpAny_bind (wpAny_fieldsOf hoi hdi ?_)
  simp only [show Builtin.Dict_items.ownsTuple "dict_keyiterator" = false by decide, Bool.false_eq_true, if_false]
  show wpAny _ _ (if (Value.ref d == Value.none) = true then _ else _) _ _ s
  rw [if_neg (show ¬ ((Value.ref d == Value.none) = true) from Bool.false_ne_true)]
  refine wpAny_bind (wpAny_pure (wpAny_bind (wpAny_dictEntries hd hdd ?_)))
  rw [if_neg (by simp)]
  refine wpAny_bind (wpAny_pure (wpAny_bind (wpAny_dictEpoch hd hdd ?_)))
  rw [if_neg (by simp)]
  refine wpAny_pure ?_
  simp only [show ¬ ((i : Int) < 0) from by omega, if_false, Int.toNat_natCast, Array.getElem?_eq_getElem hi]
  refine wpAny_bind ?_
  first | refine wpAny_bind (wpAny_typeNameOfWhole_keyiter hit.typeIs (wpAny_pure ?_)) | refine wpAny_bind (wpAny_typeNameOf_keyiter hit.typeIs (wpAny_pure ?_))
  refine wpAny_bind (wpAny_isOneOf_keyiter hit.typeIs ?_)
  show wpAny _ _ (setField (.ref it) 1 (rawInt ((i : Int) + 1)) >>= _) _ _ s
  refine wpAny_bind (wpAny_setField hoi hdi (by simp) ?_)
  have hx : (s.heap.update it (Obj.mapFields (·.setIfInBounds 1 (rawInt ((i : Int) + 1))))).IsKeyIter it d (i + 1) es.size ep :=
    ⟨_, Heap.get?_update_self _ hoi (Obj.isFreed_of_fields (Obj.data_mapFields hdi _)), (Obj.cls_mapFields ..).trans hci, by rw [Obj.data_mapFields hdi]; simp [rawInt]⟩
  refine wpAny_bind (wpAny_holding (wpAny_bind (wpAny_isOneOf_keyiter (s := { s with heap := s.heap.update it (Obj.mapFields (·.setIfInBounds 1 (rawInt ((i : Int) + 1)))) }) hx.typeIs ?_)))
  show wpAny _ _ (pure es[i].key) _ _ _
  exact wpAny_pure (wpAny_pure ⟨_, rfl, wpAny_pure (hQ _ hx (Heap.SameBut.update ..))⟩)
theorem next_end {Q : Option Value → Shared → Prop} (hh : A.handled = none) (hit : s.heap.IsKeyIter it d i n ep) (hd : s.heap.get? d = some od) (hdd : od.data = .dict es ep) (hn : es.size = n) (hi : es.size ≤ i)
    (hQ : ∀ h', Heap.ExtBut it s.heap h' → Q none { s with heap := h' }) : wpAny (model prog w) A (pyNext (.ref it)) Q E s := by
  obtain ⟨oi, hoi, hci, hdi⟩ := id hit
  subst hn
  unfold pyNext
  refine wpAny_bind (wpAny_attempt (wpAny_callSpecial?_slot (name := Str.ofString "__next__") hit.typeIs F.slot_dict_keyiterator_next (wpAny_call_entry F.slot_dict_keyiterator_next hit.typeIs F.entry_dict_keyiterator_next ?tree (F.args_dict_keyiterator_next_1 _))))
  refine wpAny_bind (wpAny_pure (wpAny_bind (wpAny_bind ?_)))
  first | refine wpAny_bind (wpAny_typeNameOfWhole_keyiter hit.typeIs (wpAny_pure ?_)) | refine wpAny_bind (wpAny_typeNameOf_keyiter hit.typeIs (wpAny_pure ?_))
  refine wpAny_bind (wpAny_fieldsOf hoi hdi ?_)
  simp only [show Builtin.Dict_items.ownsTuple "dict_keyiterator" = false by decide, Bool.false_eq_true, if_false]
  show wpAny _ _ (if (Value.ref d == Value.none) = true then _ else _) _ _ s
  rw [if_neg (show ¬ ((Value.ref d == Value.none) = true) from Bool.false_ne_true)]
  refine wpAny_bind (wpAny_pure (wpAny_bind (wpAny_dictEntries hd hdd ?_)))
  rw [if_neg (by simp)]
  refine wpAny_bind (wpAny_pure (wpAny_bind (wpAny_dictEpoch hd hdd ?_)))
  rw [if_neg (by simp)]
  refine wpAny_pure ?_
  simp only [show ¬ ((i : Int) < 0) from by omega, if_false, Int.toNat_natCast, Array.getElem?_eq_none hi]
  refine wpAny_bind ?_
  first | refine wpAny_bind (wpAny_typeNameOfWhole_keyiter hit.typeIs (wpAny_pure ?_)) | refine wpAny_bind (wpAny_typeNameOf_keyiter hit.typeIs (wpAny_pure ?_))
  show wpAny _ _ (setField (.ref it) 0 .none >>= _) _ _ s
  refine wpAny_bind (wpAny_setField hoi hdi (by simp) ?_)
  show wpAny _ _ (newExc (.type "StopIteration") [] >>= _) _ _ _
  refine wpAny_bind ?_
  simp only [newExc, newTuple]
  refine wpAny_bind (wpAny_newObj_type ?_ (by size_fits))
  refine wpAny_bind (m := firstArgMember _ _) (wpAny_of_eq (a := Value.none) (by first | rfl | (simp only [firstArgMember]; rfl)) ?_)
  refine wpAny_newObj_type ?_ (by size_fits)
  simp only [raiseNew]
  refine wpAny_bind (wpAny_handled ?_)
  rw [show A.in1.handled = none from hh]
  refine wpAny_bind (wpAny_pure (wpAny_throw ?thrown))
  refine wpAny_bind (wpAny_isInstance (T := "StopIteration") (b := true) ⟨_, Heap.get?_push_size _ rfl, rfl⟩ isSubtype_stop ?_)
  exact wpAny_pure (hQ _ (((Heap.SameBut.update ..).extBut.push _).push _))
theorem iter_keys {Q : Value → Shared → Prop} (hs : (d == sysModules) = false) (hd : s.heap.get? d = some od) (hx : od.ExactDict) (hdd : od.data = .dict es ep)
    (hQ : Q (.ref s.heap.objs.size) { s with heap := s.heap.push { cls := .type "dict_keyiterator", data := .fields #[.ref d, .int 0 0, .int es.size 0, .int ep 0] } }) : wpAny (model prog w) A (pyIter (.ref d)) Q E s := by
  have hT : s.TypeIs (.ref d) "dict" := ⟨od, hd, hx.1⟩
  refine wpAny_pyIter_slot hT F.slot_dict_iter (wpAny_call_entry F.slot_dict_iter hT F.entry_dict_iter ?_ (F.args_dict_iter_1 _))
  unfold Builtin.«dict.__iter__» Builtin.Dict.dictSlotNone
  refine wpAny_bind (wpAny_bind (wpAny_notOrdered_dict hT ?_))
  show wpAny _ _ (pure (Value.ref d)) _ _ s
  refine wpAny_pure ?_
  show wpAny _ _ (Builtin.Dict.showsAll d >>= _) _ _ s
  unfold Builtin.Dict.showsAll
  rw [if_neg (by rw [hs]; exact Bool.false_ne_true)]
  refine wpAny_bind (wpAny_pure (wpAny_bind (wpAny_dictEntries hd hdd (wpAny_bind (wpAny_dictEpoch hd hdd ?_)))))
  refine wpAny_bind (wpAny_newObj_type (wpAny_pure ⟨_, rfl, "dict_keyiterator", _, ⟨_, Heap.get?_push_size _ rfl, rfl⟩, F.slot_dict_keyiterator_next.lookup, ?_⟩))
  simpa [rawInt] using hQ
end
end L2
end
section
set_option Elab.async false
set_option linter.all false
set_option maxRecDepth 100000
set_option maxHeartbeats 4000000
namespace L2
open PySem PySem.Spec PyProof.Rows PySem.SeqAt
section
variable {prog : Program} {w : World} {A : Around} {E : Value → Shared → Prop} {s : Shared} {d : Addr} {ep : Nat} {od : Obj} {es : Array DictEntry}
theorem walks_keys (hh : A.handled = none) (it : Addr) (hne : d ≠ it) (hdd : od.data = .dict es ep) :
    Walks prog w A it [it, d] [it] es.size (fun i v => es[i]?.map (·.key) = some v) (fun i h => h.IsKeyIter it d i es.size ep ∧ h.get? d = some od) where
  sub := fun b hb => by simp at hb; simp [hb]
  frame := fun _ _ _ st hk => ⟨st.1.at fun o e => hk it (by simp) o e, hk d (by simp) _ st.2⟩
  item := fun i s Q E hi st hQ => by
    refine next_key st.1 st.2 hdd rfl hi fun h' hit' sb => ?_
    exact hQ es[i].key h' s.toks (by simp [hi]) ⟨hit', (sb.2 d hne).trans st.2⟩ fun b o hb e => (sb.2 b fun z => hb (by simp [z])).trans e
  done := fun s Q E st hQ => next_end hh st.1 st.2 hdd rfl (Nat.le_refl _) fun h' he' => hQ h' s.toks fun b o hb e => he' b o (fun z => hb (by simp [z])) e
  self := fun _ _ _ _ st hQ => wpAny_pyIter_keyiter st.1 hQ
theorem src_keys (lo : (d == sysModules) = false) (hx : od.ExactDict) (hdd : od.data = .dict es ep) : PySem.W.KdlSrc prog w "dict" d d es.size (fun i v => es[i]?.map (·.key) = some v) (fun h => h.get? d = some od) where
  type := fun _ hm => ⟨od, hm, hx.1⟩
  there := fun _ hm => ⟨Heap.lt_size hm, Heap.lt_size hm⟩
  keep := fun _ _ hm hk => hk d (.inl rfl) _ hm
  notList := by decide
  notTuple := by decide
  hint := fun _ _ _ _ hm hq => PySem.W.kdl_hint_dict ⟨od, hm, hx.1⟩ hq
  iter := fun _ _ hh hm => ⟨_, _, (fun _ _ hq => iter_keys lo hm hx hdd hq), walks_keys hh _ (Nat.ne_of_lt (Heap.lt_size hm)) hdd, ⟨⟨_, Heap.get?_push_size _ rfl, rfl, rfl⟩, Heap.get?_push_of_some _ hm⟩⟩
end
section
variable {prog : Program} {w : World} {A : Around} {E : Value → Shared → Prop} {s : Shared} {d : Addr} {ep : Nat} {od : Obj} {es : Array DictEntry}
theorem meets_len_raw (lo : (d == sysModules) = false) (hdd : od.data = .dict es ep) :
    MeetsIn prog w (Builtin.«dict.__len__» ⟨[.ref d], []⟩) (fun _ R s => s.heap.get? d = some od ∧ R (.ok (.ret (.int es.size s.toks))) { s with toks := s.toks + 1 }) :=
  .of_wp fun A R s ⟨ho, h⟩ => by
    show wpAny _ _ (dictSize d >>= _) _ _ s
    unfold dictSize
    refine wpAny_bind (wpAny_bind (wpAny_dictEntries ho hdd (wpAny_pure ?_)))
    show wpAny _ _ (Builtin.Dict.pendingCount d >>= _) _ _ s
    exact wpAny_bind (wpAny_pendingCount_other lo (wpAny_ret_mkInt (by rw [Nat.add_zero]; exact h)))
theorem len_raw {Q : Value → Shared → Prop} (lo : (d == sysModules) = false) (ho : s.heap.get? d = some od) (hx : od.ExactDict) (hdd : od.data = .dict es ep) (hfit : (es.size : Int) < 2 ^ 63)
    (h : Q (.int es.size (s.toks + 1)) { s with toks := s.toks + 1 + 1 }) : wpAny (model prog w) A (Builtin.«len» ⟨[.ref d], []⟩) (fun fin s' => ∃ r, fin = .done (.ret r) ∧ Q r s') E s := by
  have hT : s.TypeIs (.ref d) "dict" := ⟨od, ho, hx.1⟩
  unfold Builtin.«len»
  refine wpAny_bind (m := oneArg "len" _) (wpAny_pure ?_)
  refine wpAny_bind (m := callSpecial? (.ref d) (Str.ofString "__len__")) (wpAny_callSpecial?_slot (name := Str.ofString "__len__") hT PySem.F.slot_dict_len (call_meetsIn PySem.F.slot_dict_len hT PySem.F.entry_dict_len (PySem.F.args_dict_len_1 _) (meets_len_raw lo hdd) ⟨ho, ?_⟩))
  show wpAny _ _ _ _ _ { s with toks := s.toks + 1 }
  refine wpAny_bind (wpAny_holding (wpAny_pure (wpAny_bind (wpAny_letGo ?_))))
  show wpAny _ _ (if ((es.size : Nat) : Int) < 0 then _ else _) _ _ _
  rw [if_neg (by omega)]
  show wpAny _ _ (if ((es.size : Nat) : Int) ≥ 2 ^ 63 then _ else _) _ _ _
  rw [if_neg (by omega)]
  exact wpAny_bind (wpAny_mkInt (wpAny_pure ⟨_, rfl, h⟩))
end
section
variable {X : Cx} {pins : List (Addr × Obj)} {σ : St} {H : Hp} {s : Shared} {a : Addr} {kvs : List (List Key × V)} {k : List Key}
theorem dt_raw (I : Inv X pins σ H s) (e : Rd H a (.dT kvs)) : ∃ (od : Obj) (es : Array DictEntry) (ep : Nat), s.heap.get? a = some od ∧ od.ExactDict ∧ od.data = .dict es ep ∧ (a == sysModules) = false ∧ es.size = kvs.length ∧ kvs.length ≤ sizeLine ∧
    ∀ (i : Nat) (p : List Key × V), kvs[i]? = some p → ∃ b, es[i]?.map (·.key) = some (.ref b) ∧ H b = some (.tup (p.1.map kV)) := by
  obtain ⟨z, hd, xs, rel, o, es, ep, h1, h2, h3, h4, h5⟩ := (show ObjOk X.prog X.w H s.heap a (.dT kvs) from e.ok I.hok)
  have hl : kvs.length = xs.length := Paired.length rel
  refine ⟨o, es, ep, h1, h2, h3, hd, by rw [size_of_entries h4, hl], z, fun i p hp => ?_⟩
  have all : ∀ {l : List (List Key × V)} {m : List (List Key × Addr × Value)}, KT H l m → ∀ (i : Nat) p, l[i]? = some p → ∃ q, m[i]? = some q ∧ H q.2.1 = some (.tup (p.1.map kV)) := by
    intro l m q
    induction q with
    | nil => intro i p h; simp at h
    | @cons p' q' ps qs hq t ih =>
      intro i p h
      cases i with
      | zero =>
        have : p' = p := by simpa using h
        subst this
        exact ⟨q', by simp, hq.2.1⟩
      | succ i => obtain ⟨q2, e1, e2⟩ := ih i p (by simpa using h); exact ⟨q2, by simpa using e1, e2⟩
  obtain ⟨q, e1, e2⟩ := all rel i p hp
  refine ⟨q.2.1, ?_, e2⟩
  rw [entry_at h4 i, e1]
  rfl
theorem call_lenT : CallR X (.builtin "len") (fun xs H Q => ∃ a kvs, xs = [V.ref a] ∧ Rd H a (.dT kvs) ∧ Q (.int (kvs.length : Nat)) H) := by
  intro pins s σ H xs us Q I r h
  obtain ⟨a, kvs, rfl, ha, q⟩ := h
  obtain ⟨u, rfl, ru⟩ := vals1 r
  cases ru
  obtain ⟨od, es, ep, h1, h2, h3, h4, h5, h6, h7⟩ := dt_raw I ha
  refine Calls.call_function_entry PySem.kind_len PySem.plain_len PySem.entry_len (PySem.args_len1 _) (len_raw h4 h1 h2 h3 (by rw [h5]; rw [sizeLine_eq] at h6; omega) ?_)
  exact ⟨.int (kvs.length : Nat), H, I.tok _, ⟨_, by rw [h5]⟩, q⟩
theorem map_erase {α β : Type} (f : α → β) : ∀ (l : List α) (i : Nat), (l.map f).eraseIdx i = (l.eraseIdx i).map f
  | [], _ => rfl
  | _ :: _, 0 => rfl
  | x :: r, i + 1 => by
    show f x :: (r.map f).eraseIdx i = f x :: (r.eraseIdx i).map f
    rw [map_erase f r i]
theorem take_out {prog : Program} {w : World} {κ : Type} [DecidableEq κ] {knd : HeapKind prog w κ} {A : Around} {E : Value → Shared → Prop} {s : Shared} {d b : Addr} {xs : List (κ × Addr × Value)} {j : Nat} {key : κ} {p : Addr × Value} {Q : Option DictEntry → Shared → Prop} (hu : knd.room A) (hkey : knd.is s.heap key b)
    (hm : s.heap.DictOfH knd d xs) (hj : xs[j]? = some (key, p)) (hz : xs.length ≤ sizeLine)
    (hQ : ∀ h', h'.DictOfH knd d (xs.eraseIdx j) → Heap.SameBut d s.heap h' → Q (some (entryOfKey knd (key, p))) { s with heap := h', toks := s.toks + knd.draws key }) : wpAny (model prog w) A (Builtin.Dict.takeOut d (.ref b)) Q E s := by
  obtain ⟨o, es, ep, ho, hc, hd, he, his, hn⟩ := hm
  unfold Builtin.Dict.takeOut
  try with_reducible refine wpAny_holding ?_
  refine wpAny_bind (knd.pyHash hu hkey (wpAny_bind (wpAny_dictFind_heap (s := { s with toks := s.toks + knd.draws key }) hu hkey ho hd he his hn (fun no => absurd hj (no j p)) fun i q hi => ?_)))
  have e : i = j := idxH_unique hn hi hj
  subst e
  refine wpAny_bind (wpAny_dictEntries (s := { s with toks := s.toks + knd.draws key }) ho hd ?_)
  rw [entry_at he i, hj]
  refine wpAny_bind (wpAny_updateDictKeys (hz := by have := size_of_entries he; omega) (s := { s with toks := s.toks + knd.draws key }) ho hd (wpAny_pure (hQ _ ⟨_, _, ep + 1, Heap.get?_update_self _ ho (Obj.isFreed_of_dict (Obj.data_mapDictKeys hd _)), hc.mapDictKeys _, Obj.data_mapDictKeys hd _, ?_, fun x hx => ?_, ?_⟩ (Heap.SameBut.update ..))))
  · have hi' : i < es.size := by
      rw [size_of_entries he]
      exact (List.getElem?_eq_some_iff.mp hj).1
    rw [Array.eraseIdxIfInBounds, dif_pos hi']
    simp [he, map_erase]
  · exact knd.keeps (his x (List.mem_of_mem_eraseIdx hx)) ho hd (Heap.SameBut.update ..)
  · exact hn.sublist ((List.eraseIdx_sublist _ _).map _)
end
end L2
end
section
set_option Elab.async false
set_option linter.all false
set_option maxRecDepth 100000
set_option maxHeartbeats 4000000
namespace L2
open PySem PySem.Spec PyProof.Rows PySem.SeqAt
section
variable {κ : Type} [DecidableEq κ]
theorem dropK_erase : ∀ {kvs : List (κ × V)} {j : Nat} {k : κ} {v : V}, (kvs.map (·.1)).Nodup → kvs[j]? = some (k, v) → dropK kvs k = kvs.eraseIdx j
  | [], _, _, _, _, h => by simp at h
  | p :: r, 0, k, v, nd, h => by
    have e : p = (k, v) := by simpa using h
    subst e
    have nd : (k :: r.map (·.1)).Nodup := nd
    rw [dropK_pos rfl, dropK_no (List.nodup_cons.mp nd).1]
    rfl
  | p :: r, j + 1, k, v, nd, h => by
    have nd : (p.1 :: r.map (·.1)).Nodup := nd
    have h : r[j]? = some (k, v) := by simpa using h
    have ne : ¬ p.1 = k := fun e => (List.nodup_cons.mp nd).1 (e ▸ List.mem_map.mpr ⟨(k, v), List.mem_of_getElem? h, rfl⟩)
    rw [dropK_neg ne, dropK_erase (List.nodup_cons.mp nd).2 h]
    rfl
theorem valV_at {kvs : List (κ × V)} {k : κ} {v : V} (h : valV kvs k = some v) : ∃ j : Nat, kvs[j]? = some (k, v) := by
  unfold valV at h
  obtain ⟨p, hp, e⟩ := Option.map_eq_some_iff.mp h
  have h1 := List.find?_some hp
  have h2 := List.mem_of_find?_eq_some hp
  obtain ⟨j, hj, e2⟩ := List.getElem_of_mem h2
  refine ⟨j, ?_⟩
  rw [List.getElem?_eq_getElem hj, e2]
  have : p.1 = k := of_decide_eq_true h1
  rw [← this, ← e]
end
theorem paired_erase {α β : Type} {F : α → β → Prop} : ∀ {l : List α} {m : List β} (i : Nat), Paired F l m → Paired F (l.eraseIdx i) (m.eraseIdx i)
  | _, _, _, .nil => .nil
  | _, _, 0, .cons _ t => t
  | _, _, i + 1, .cons h t => .cons h (paired_erase i t)
theorem paired_at {α β : Type} {F : α → β → Prop} : ∀ {l : List α} {m : List β} {i : Nat} {x : α}, Paired F l m → l[i]? = some x → ∃ y, m[i]? = some y ∧ F x y
  | _, _, _, _, .nil, h => by simp at h
  | _, b :: _, 0, x, .cons (a := a) h _, e => ⟨b, by simp, by
      have e : a = x := by simpa using e
      rw [← e]; exact h⟩
  | _, _, i + 1, x, .cons _ t, e => by
    obtain ⟨y, e1, e2⟩ := paired_at (i := i) (x := x) t (by simpa using e)
    exact ⟨y, by simpa using e1, e2⟩
section
variable {X : Cx} {pins : List (Addr × Obj)} {σ : St} {H : Hp} {s : Shared} {a b : Addr} {kvs : List (List Key × V)} {k : List Key} {A : Around} {E : Value → Shared → Prop}
theorem kt_keys {xs : List (List Key × Addr × Value)} : ∀ {kvs : List (List Key × V)} {xs : List (List Key × Addr × Value)}, KT H kvs xs → kvs.map (·.1) = xs.map (·.1)
  | _, _, .nil => rfl
  | _, _, .cons h t => by rw [List.map_cons, List.map_cons, h.1, kt_keys (xs := []) t]
theorem dt_take {v : V} {Q : Option DictEntry → Shared → Prop} (hu : A.units < cLine) (I : Inv X pins σ H s) (e : H a = some (.dT kvs)) (eb : H b = some (.tup (k.map kV))) (l : valV kvs k = some v)
    (h : ∀ en s', Inv X pins σ (upd H a (.dT (dropK kvs k))) s' → RelV v en.val → Q (some en) s') (hr : (tupleKind (mixKind X.prog X.w)).room A) : wpAny (model X.prog X.w) A (Builtin.Dict.takeOut a (.ref b)) Q E s := by
  obtain ⟨z, hd, xs, rel, dd⟩ := dt_of I.hok e
  obtain ⟨j, hj⟩ := valV_at l
  obtain ⟨q, hq, q1, q2, q3⟩ := paired_at rel hj
  have nd : (kvs.map (·.1)).Nodup := by
    obtain ⟨_, _, _, _, _, _, _, _, n⟩ := dd
    rw [kt_keys (xs := xs) rel]
    exact n
  obtain ⟨qk, qa, qv⟩ := q
  cases q1
  refine take_out (j := j) hr (key_of I.hok eb) dd hq (by rw [← Paired.length rel]; exact z) fun h' dd' hs => ?_
  obtain ⟨o, es, ep, ho, h2, h3, h4, _, h5⟩ := dd'
  refine h _ _ (d_write (t' := s.toks + (tupleKind (mixKind X.prog X.w)).draws k) I (by rw [e]; exact True.intro) hs ⟨o, ho⟩ ⟨?_, hd, xs.eraseIdx j, ?_, o, es, ep, ho, h2, h3, h4, h5⟩) q3
  · exact Nat.le_trans (dropK_le kvs k) z
  · rw [dropK_erase nd hj]
    refine KT.keeps (paired_erase j rel) fun c ys ec => ?_
    rw [upd_ne (ne_of ec e (fun z => nomatch z))]
    exact ec
theorem d_delT {v : V} {Q : Unit → Shared → Prop} (hu : A.units + 2 < cLine) (I : Inv X pins σ H s) (e : H a = some (.dT kvs)) (eb : H b = some (.tup (k.map kV))) (l : valV kvs k = some v) (h : ∀ s', Inv X pins σ (upd H a (.dT (dropK kvs k))) s' → Q () s') :
    wpAny (model X.prog X.w) A (delItem (.ref a) (.ref b)) Q E s := by
  obtain ⟨z, hd, xs, rel, dd⟩ := dt_of I.hok e
  refine wpAny_delItem_slot dd.typeIs (by decide) PySem.F.slot_dict_delitem (wpAny_call_entry PySem.F.slot_dict_delitem dd.typeIs PySem.F.entry_dict_delitem ?_ (PySem.F.args_dict_delitem_2 _ _))
  unfold Builtin.«dict.__delitem__»
  refine wpAny_bind ?_
  unfold Builtin.Dict.dictSlotArgs
  refine wpAny_bind (wpAny_notOrdered_dict dd.typeIs ?_)
  show wpAny _ _ (pure (Value.ref a, Value.ref b)) _ _ s
  refine wpAny_pure ?_
  show wpAny _ _ (Builtin.Dict.takeOut a (.ref b) >>= _) _ _ s
  refine wpAny_bind (dt_take (by rw [in1_units]; omega) I e eb l (fun en s' I' r => ?_) (tupleKind_room_in1 (by omega)))
  exact wpAny_bind (wpAny_letGo (wpAny_pure ⟨.none, rfl, h s' I'⟩))
theorem d_popT {v : V} {Q : Value → Shared → Prop} (hu : A.units + 2 < cLine) (I : Inv X pins σ H s) (e : H a = some (.dT kvs)) (eb : H b = some (.tup (k.map kV))) (l : valV kvs k = some v)
    (h : ∀ w' s', Inv X pins σ (upd H a (.dT (dropK kvs k))) s' → RelV v w' → Q w' s') : wpAny (model X.prog X.w) A (call (.builtin "dict.pop") [.ref a, .ref b]) Q E s := by
  obtain ⟨z, hd, xs, rel, dd⟩ := dt_of I.hok e
  refine wpAny_call_entry PySem.F.slot_dict_pop dd.typeIs PySem.F.entry_dict_pop ?_ (PySem.F.args_dict_pop_2 _ _)
  unfold Builtin.«dict.pop»
  refine wpAny_bind ?_
  unfold Builtin.Dict.keyAndDefault
  refine wpAny_bind (wpAny_notOrdered_dict dd.typeIs ?_)
  show wpAny _ _ (pure (a, Value.ref b, none)) _ _ s
  refine wpAny_pure ?_
  obtain ⟨od, es, ep, h1, h2, h3, h4, h5, h6, h7⟩ := dt_raw I (.inl e)
  have ne : es.isEmpty = false := by
    obtain ⟨j, hj⟩ := valV_at l
    have := (List.getElem?_eq_some_iff.mp hj).1
    rw [Array.isEmpty_eq_false_iff]
    intro z
    rw [z] at h5
    simp at h5
    omega
  simp only [show (keyPart (Value.ref b)).isSome = false from rfl, Bool.false_eq_true, if_false]
  refine wpAny_bind (wpAny_dictEntries h1 h3 (wpAny_bind (wpAny_pure ?_)))
  simp only [ne, Bool.false_eq_true, if_false]
  refine wpAny_bind (dt_take (by rw [in1_units]; omega) I e eb l (fun en s' I' r => ?_) (tupleKind_room_in1 (by omega)))
  simp only [Option.isNone_some, Bool.false_eq_true, if_false]
  exact wpAny_bind (wpAny_letGo (wpAny_pure ⟨en.val, rfl, h _ s' I' r⟩))
end
noncomputable def sDDelT (td ty : TE) : TS := fun D σ H => td σ H fun x H1 => ty σ H1 fun y H2 => ∃ a b kvs k v, x = .ref a ∧ y = .ref b ∧ H2 a = some (.dT kvs) ∧ H2 b = some (.tup (k.map kV)) ∧ valV kvs k = some v ∧ D.nx σ (upd H2 a (.dT (dropK kvs k)))
noncomputable def tDPopT (td ty : TE) : TE := fun σ H Q => td σ H fun x H1 => ∃ a, x = .ref a ∧ IsD H1 a ∧ ty σ H1 fun y H2 => ∃ b kvs k v, y = .ref b ∧ H2 a = some (.dT kvs) ∧ H2 b = some (.tup (k.map kV)) ∧ valV kvs k = some v ∧ Q v (upd H2 a (.dT (dropK kvs k)))
section
variable {X : Cx} {o i e : Expr} {td ty : TE} {pos tpos apos cpos : Pos}
theorem ps_ddelT (hu : X.A.units + 2 < cLine) (ho : PE X o td) (hi : PE X i ty) : PS X (.Delete [.Subscript o i tpos] pos) (sDDelT td ty) := by
  intro pins s σ H D I h
  refine wpAny_Delete (wpAny_deleteEach_cons (wpAny_delete_Subscript (thn (ho pins s σ H _ I h) fun u s1 ⟨x, H1, I1, rx, q1⟩ => thn (hi pins s1 σ H1 _ I1 q1) fun iv s2 ⟨y, H2, I2, ry, a, b, kvs, k, v, ex, ey, e, eb, l, q2⟩ => ?_)))
  subst ex ey
  obtain rfl : u = Value.ref a := rx
  obtain rfl : iv = Value.ref b := ry
  exact d_delT hu I2 e eb l fun s' I' => wpAny_deleteEach_nil ⟨σ, _, I', q2⟩
theorem pe_dpopT (hu : X.A.units + 2 < cLine) (ho : PE X o td) (he : PE X e ty) (m : M1 X o "pop" apos e cpos) : PE X (.Call (.Attribute o "pop" apos) [e] [] cpos) (tDPopT td ty) := by
  intro pins s σ H Q I h
  refine wpAny_Call_method m.base m.few m.line PySem.F.plainAttrs_dict PySem.F.slot_dict_pop PySem.F.type_dict_pop (thn (ho pins s σ H _ I h) fun u s1 ⟨x, H1, I1, rx, a, ex, d, q1⟩ => ?_)
  subst ex
  obtain rfl : u = Value.ref a := rx
  obtain ⟨t1, t2, _⟩ := isD_at I1 d
  refine ⟨t1, t2, ?_⟩
  rw [m.trees]
  refine Calls.callWith_builtin rfl (Calls.evalArgs_plain (Calls.spliced_cons (thn (he pins s1 σ H1 _ I1 q1) fun iv s2 ⟨y, H2, I2, ry, b, kvs, k, v, ey, ea, eb, l, q2⟩ => Calls.spliced_nil ?_)))
  subst ey
  obtain rfl : iv = Value.ref b := ry
  exact d_popT hu I2 ea eb l fun w' s3 I3 rw' => ⟨v, _, I3, rw', q2⟩
end
end L2
end
section
set_option Elab.async false
set_option linter.all false
set_option maxRecDepth 100000
set_option maxHeartbeats 4000000
namespace L2
open PySem PySem.Spec PyProof.Rows PySem.SeqAt
section
variable {X : Cx} {pins : List (Addr × Obj)} {σ : St} {H : Hp} {s : Shared} {d : Addr} {od : Obj} {kvs : List (List Key × V)}
theorem Inv.freeze (I : Inv X pins σ H s) (e : H d = some (.dT kvs)) (he : s.heap.get? d = some od) : Inv X pins σ (upd H d (.frz od (.dT kvs))) s := by
  have nn : ∀ b, H b = none → b ≠ d := fun b n z => by rw [z, e] at n; cases n
  have stay : ∀ {b : Addr} {o : HO}, ObjOk X.prog X.w H s.heap b o → ObjOk X.prog X.w (upd H d (.frz od (.dT kvs))) s.heap b o := fun {b o} x =>
    x.stay (fun _ _ _ q => q) (fun c q => by rw [upd_ne (ne_of q e (fun z => nomatch z))]; exact q) fun c xs q => by rw [upd_ne (ne_of q e (fun z => nomatch z))]; exact q
  refine ⟨I.ok, I.os, I.bare, ⟨I.base.keep, I.base.slot, fun b ob q n x => ?_, I.base.there, fun b xs q => ?_, fun b ob u q => ?_, fun b ps q => ?_⟩, I.loc, I.cell, ?_, fun y c q => ?_, fun p q => ?_, fun b u q => ?_, I.len⟩
  · rw [upd_ne (nn b (I.base.free b ob q n x))]; exact I.base.free b ob q n x
  · rw [upd_ne (ne_of (I.base.tups b xs q) e (fun z => nomatch z))]; exact I.base.tups b xs q
  · rw [upd_ne (ne_of (I.base.frzs b ob u q) e (fun z => nomatch z))]; exact I.base.frzs b ob u q
  · obtain ⟨mr, q'⟩ := I.base.tbls b ps q
    exact ⟨mr, by rw [upd_ne (ne_of q' e (fun z => nomatch z))]; exact q'⟩
  · rw [upd_ne (nn _ I.free)]; exact I.free
  · rw [upd_ne (nn _ (I.freeC y c q))]; exact I.freeC y c q
  · obtain ⟨h1, h2, h3, h4, h5⟩ := I.pin p q
    exact ⟨h1, by rw [upd_ne (nn _ h2)]; exact h2, h3, h4, h5⟩
  · by_cases hb : b = d
    · subst hb
      rw [upd_same] at q
      cases q
      exact ⟨he, stay (I.hok _ _ e)⟩
    · rw [upd_ne hb] at q
      exact stay (I.hok b u q)
theorem Inv.thaw (I : Inv X pins σ H s) (e : H d = some (.frz od (.dT kvs))) (n0 : ∀ o u, X.H₀ d ≠ some (.frz o u)) : Inv X pins σ (upd H d (.dT kvs)) s := by
  have nn : ∀ b, H b = none → b ≠ d := fun b n z => by rw [z, e] at n; cases n
  have stay : ∀ {b : Addr} {o : HO}, ObjOk X.prog X.w H s.heap b o → ObjOk X.prog X.w (upd H d (.dT kvs)) s.heap b o := fun {b o} x =>
    x.stay (fun _ _ _ q => q) (fun c q => by rw [upd_ne (ne_of q e (fun z => nomatch z))]; exact q) fun c xs q => by rw [upd_ne (ne_of q e (fun z => nomatch z))]; exact q
  refine ⟨I.ok, I.os, I.bare, ⟨I.base.keep, I.base.slot, fun b ob q n x => ?_, I.base.there, fun b xs q => ?_, fun b ob u q => ?_, fun b ps q => ?_⟩, I.loc, I.cell, ?_, fun y c q => ?_, fun p q => ?_, fun b u q => ?_, I.len⟩
  · rw [upd_ne (nn b (I.base.free b ob q n x))]; exact I.base.free b ob q n x
  · rw [upd_ne (ne_of (I.base.tups b xs q) e (fun z => nomatch z))]; exact I.base.tups b xs q
  · have hb : b ≠ d := fun z => by rw [z] at q; exact n0 _ _ q
    rw [upd_ne hb]; exact I.base.frzs b ob u q
  · obtain ⟨mr, q'⟩ := I.base.tbls b ps q
    exact ⟨mr, by rw [upd_ne (ne_of q' e (fun z => nomatch z))]; exact q'⟩
  · rw [upd_ne (nn _ I.free)]; exact I.free
  · rw [upd_ne (nn _ (I.freeC y c q))]; exact I.freeC y c q
  · obtain ⟨h1, h2, h3, h4, h5⟩ := I.pin p q
    exact ⟨h1, by rw [upd_ne (nn _ h2)]; exact h2, h3, h4, h5⟩
  · by_cases hb : b = d
    · subst hb
      rw [upd_same] at q
      cases q
      exact stay (I.hok _ _ e).2
    · rw [upd_ne hb] at q
      exact stay (I.hok b u q)
end
noncomputable def sThaw (H0 : Hp) (t : TS) : TS := fun D σ H => t { D with nx := fun σ' H' => ∃ d o kvs, H' d = some (.frz o (.dT kvs)) ∧ (∀ o u, H0 d ≠ some (.frz o u)) ∧ D.nx σ' (upd H' d (.dT kvs)) } σ H
theorem ps_thaw {X : Cx} {st : Stmt} {t : TS} (h : PS X st t) : PS X st (sThaw X.H₀ t) := fun pins s σ H D I q =>
  thn (h pins s σ H _ I q) fun f s1 z => by
    cases f with
    | next =>
      obtain ⟨σ', H', I', d, o, kvs, e1, n0, q1⟩ := z
      exact ⟨σ', _, I'.thaw e1 n0, q1⟩
    | brk => exact z
    | cont => exact z
    | ret u => exact z
noncomputable def Itd (d : Addr) (od : Obj) (kvs : List (List Key × V)) : It :=
  ⟨fun i H => H d = some (.frz od (.dT kvs)) ∧ i < kvs.length, fun i H x H' => H' = H ∧ ∃ b p, kvs[i]? = some p ∧ x = .ref b ∧ H b = some (.tup (p.1.map kV)), fun i H => H d = some (.frz od (.dT kvs)) ∧ kvs.length ≤ i⟩
theorem turn_dict {P : Program} {w : World} {K : PySem.W.Frag} {tg : Expr} {d : Addr} {od : Obj} {es : Array DictEntry} {ep : Nat} {kvs : List (List Key × V)} (it : Addr) (hdd : od.data = .dict es ep) :
    Turn P w K tg (Itd d od kvs) [it] it (fun i h => h.IsKeyIter it d i es.size ep) where
  mem := by simp
  obj := fun i h st b hb => by
    have e : b = it := by simpa using hb
    subst e
    obtain ⟨o, e, c, q⟩ := st
    exact ⟨o, e, fun v z => by rw [q] at z; cases z⟩
  keep := fun i h h' st k => st.at fun o e => k it (by simp) o e
  item := by
    intro X hP hw hK hc i pins s σ H E I hf st hg
    subst hP hw hK
    obtain ⟨hd, hi⟩ := hg
    obtain ⟨f0, f1, f2, f3, f4, f5⟩ := hf it (by simp)
    obtain ⟨od', es', ep', h1, h2, h3, h4, h5, h6, h7⟩ := dt_raw I (.inr ⟨od, hd⟩)
    have h0 : s.heap.get? d = some od := (I.hok d _ hd).1
    rw [h0] at h1
    cases h1
    rw [hdd] at h3
    cases h3
    obtain ⟨b, e1, e2⟩ := h7 i kvs[i] (by simp [hi])
    have hi' : i < es.size := by rw [h5]; exact hi
    refine next_key st h0 hdd rfl hi' fun h' st' sb => ?_
    have I1 : Inv X pins σ H { s with heap := h' } := I.turned (t' := s.toks) (fun b o hb e => (sb.2 b hb).trans e) f0 f1 f3 f4 f5
    obtain ⟨o, e, c, q⟩ := id st'
    have ek : es[i].key = .ref b := by
      rw [Array.getElem?_eq_getElem hi'] at e1
      exact Option.some.inj e1
    refine ⟨_, rfl, ?_⟩
    rw [ek]
    exact go_of (s := { s with heap := h' }) e c q (by decide) ⟨.ref b, H, I1, rfl, ⟨rfl, b, kvs[i], by simp [hi], rfl, e2⟩, st', fun b hb => (hf b hb).1⟩
  done := by
    intro X hP hw hK hc i pins s σ H E I hf st hg
    subst hP hw hK
    obtain ⟨hd, hi⟩ := hg
    obtain ⟨f0, f1, f2, f3, f4, f5⟩ := hf it (by simp)
    obtain ⟨od', es', ep', h1, h2, h3, h4, h5, h6, h7⟩ := dt_raw I (.inr ⟨od, hd⟩)
    have h0 : s.heap.get? d = some od := (I.hok d _ hd).1
    rw [h0] at h1
    cases h1
    rw [hdd] at h3
    cases h3
    exact next_end (I.ok.hd hc) st h0 hdd rfl (by rw [h5]; exact hi) fun h' eb => ⟨rfl, I.turned (t' := s.toks) (fun b o hb e => eb b o hb e) f0 f1 f3 f4 f5⟩
  self := fun _ _ _ _ _ st h => wpAny_pyIter_keyiter st h
noncomputable def iDict (tl : TE) : TI := fun σ H R => tl σ H fun x H1 => ∃ d kvs, x = .ref d ∧ H1 d = some (.dT kvs) ∧ ∀ od, R (Itd d od kvs) (upd H1 d (.frz od (.dT kvs)))
theorem pi_dict {X : Cx} {tg l : Expr} {tl : TE} (hl : PE X l tl) : PI X tg l (iDict tl) := by
  intro pins s σ H R I h
  refine thn (hl pins s σ H _ I h) fun v s1 ⟨x, H1, I1, r1, q1⟩ => ?_
  obtain ⟨d, kvs, rfl, e, q⟩ := q1
  cases r1
  obtain ⟨od, es, ep, h1, h2, h3, h4, h5, h6, h7⟩ := dt_raw I1 (.inl e)
  refine iter_keys h4 h1 h2 h3 ?_
  have I2 : Inv X pins σ H1 { s1 with heap := s1.heap.push { cls := .type "dict_keyiterator", data := .fields #[.ref d, .int 0 0, .int es.size 0, .int ep 0] } } := I1.kept (t' := s1.toks) fun b o e => Heap.get?_push_of_some _ e
  have nd : s1.heap.objs.size ≠ d := fun z => absurd (Heap.lt_size h1) (by rw [← z]; exact Nat.lt_irrefl _)
  refine ⟨s1.heap.objs.size, [s1.heap.objs.size], _, _, _, rfl, I2.freeze e (Heap.get?_push_of_some _ h1), turn_dict _ h3, ⟨_, Heap.get?_push_size _ rfl, rfl, rfl⟩, fun b hb => ?_, q od⟩
  have z : b = s1.heap.objs.size := by simpa using hb
  subst z
  exact I1.fpOk (Nat.le_refl _) (by rw [upd_ne nd]; exact I1.hok.fresh (Nat.le_refl _))
end L2
end
section
set_option Elab.async false
set_option linter.all false
set_option maxRecDepth 100000
set_option maxHeartbeats 4000000
namespace L2
open PySem PySem.Spec PyProof.Rows PySem.SeqAt
section
variable {X : Cx} {pos : Pos}
theorem call_lenO {CX : CXT} {k : Nat} {f C : Addr} {fd : FuncData} {ps : List Str} {sp : Sp} {E : XK} (hm : Meth X.K C "__len__" f) (F : FnOk X.prog X.w X.K X.mg X.base CX k f fd ps sp) (hr : Room (k + 1) X.A) (hb : Binds X.K fd ps []) (hx : Passes CX X E) :
    CallR X (.builtin "len") (fun xs H Q => ∃ a dx fs, xs = [V.ref a] ∧ H a = some (.ins C dx fs) ∧ sp [.ref a] H (fun v H' => ∃ n : Nat, v = .int n ∧ n ≤ sizeLine ∧ Q (.int n) H') E) := by
  intro pins s σ H xs us Q I r h
  obtain ⟨a, dx, fs, rfl, ha, q⟩ := h
  obtain ⟨u, rfl, ru⟩ := vals1 r
  cases ru
  obtain ⟨mA, O, _⟩ := ins_get I.hok ha
  obtain ⟨od, J, _⟩ := O.look
  obtain ⟨m, Fr'⟩ := I.fr
  refine PySem.W.len_K Fr' I.mod.kin J hm.at_ hm.fn (wpAny_call (codeAny_mono (F.run X.A.in1 X.stack s H ⟨[.ref a], []⟩ [.ref a] [.ref a] _ E hr.in1 I.env0.in1 ?_ (.cons rfl .nil) q) fun r s' hq => ?_))
  · have := hb s [.ref a] I.kIn (by simpa using F.len _ _ _ _ q)
    simpa using this
  · cases r with
    | error e => exact hx pins σ H s e s' I hq
    | ok fl =>
      cases fl with
      | ret u =>
        obtain ⟨v, H', I', r', n, rfl, hn, q'⟩ := I.after hq
        obtain ⟨t, rfl⟩ := r'
        rw [sizeLine_eq] at hn
        exact ⟨⟨by omega, by omega⟩, .int n, H', I'.tok _, ⟨_, rfl⟩, q'⟩
      | next => exact False.elim hq
      | brk => exact False.elim hq
      | cont => exact False.elim hq
end
inductive Kn where | non | bl | int | str | tup | lst
noncomputable def Kn.ty : Kn → String
  | .non => "NoneType" | .bl => "bool" | .int => "int" | .str => "str" | .tup => "tuple" | .lst => "list"
noncomputable def shapeV : V → Kn → Bool
  | .non, .non => true
  | .bl _, .bl => true
  | .int _, .int => true
  | .str _, .str => true
  | .ref _, .tup => true
  | .ref _, .lst => true
  | _, _ => false
structure KindV (K : PySem.W.Frag) (H : Hp) (v : V) (k : Kn) : Prop where
  ty : TyOf K H v (.type k.ty)
  sh : shapeV v k = true
section
variable {K : PySem.W.Frag} {H : Hp}
theorem kn_int (i : Int) : KindV K H (.int i) .int := ⟨.int i, rfl⟩
theorem kn_str (x : Str) : KindV K H (.str x) .str := ⟨.str x, rfl⟩
theorem kn_tup {a : Addr} {xs : List V} (e : H a = some (.tup xs)) : KindV K H (.ref a) .tup := ⟨.tup e, rfl⟩
theorem kn_lst {a : Addr} {xs : List V} (e : H a = some (.lst xs)) : KindV K H (.ref a) .lst := ⟨.lst e, rfl⟩
end
theorem kind_int {K : PySem.W.Frag} {H : Hp} {v : V} (h : KindV K H v .int) : ∃ i, v = .int i := by
  have h := h.sh
  cases v with
  | int i => exact ⟨i, rfl⟩
  | _ => cases h
noncomputable def isInt : Kn → Bool | .int => true | .bl => true | _ => false
noncomputable def isBl : Kn → Bool | .bl => true | _ => false
noncomputable def isStr : Kn → Bool | .str => true | _ => false
noncomputable def isTup : Kn → Bool | .tup => true | _ => false
noncomputable def isLst : Kn → Bool | .lst => true | _ => false
theorem kit_int (K : PySem.W.Frag) (k : Kn) : PySem.W.kitOne K (.type k.ty) (.type "int") = some (isInt k) := by cases k <;> with_unfolding_all rfl
theorem kit_bool (K : PySem.W.Frag) (k : Kn) : PySem.W.kitOne K (.type k.ty) (.type "bool") = some (isBl k) := by cases k <;> with_unfolding_all rfl
theorem kit_str (K : PySem.W.Frag) (k : Kn) : PySem.W.kitOne K (.type k.ty) (.type "str") = some (isStr k) := by cases k <;> with_unfolding_all rfl
theorem kit_tuple (K : PySem.W.Frag) (k : Kn) : PySem.W.kitOne K (.type k.ty) (.type "tuple") = some (isTup k) := by cases k <;> with_unfolding_all rfl
theorem kit_list (K : PySem.W.Frag) (k : Kn) : PySem.W.kitOne K (.type k.ty) (.type "list") = some (isLst k) := by cases k <;> with_unfolding_all rfl
section
variable {X : Cx}
noncomputable def rIsiK (K : PySem.W.Frag) (f : Kn → Bool) (T : String) : List V → Hp → VK → Prop := fun xs H Q => ∃ x k, xs = [x, .ty T] ∧ KindV K H x k ∧ Q (.bl (f k)) H
theorem call_isiK {T : String} {f : Kn → Bool} (hk : ∀ k, PySem.W.kitOne X.K (.type k.ty) (.type T) = some (f k)) : CallR X (.builtin "isinstance") (rIsiK X.K f T) := by
  intro pins s σ H xs us Q I r h
  obtain ⟨x, k, rfl, kn, q⟩ := h
  exact call_isi pins s σ H _ us Q I r ⟨x, .ty T, _, .type T, _, rfl, rfl, fun _ z => z, kn.ty, hk k, q⟩
end
end L2
end
section
set_option Elab.async false
set_option linter.all false
set_option maxRecDepth 100000
set_option maxHeartbeats 4000000
namespace L2
open PySem
structure Lft (fs : List Addr) (e : Addr) (oe : Obj) (vs : Array Value) (T : Addr) (h h' : Heap) : Prop where
  keep : ∀ b o, h.get? b = some o → b ≠ e → b ∉ fs → h'.get? b = some o
  slot : ∀ b o, h.get? b = some o → b ∈ fs → ∃ sl, h'.get? b = some { o with slots := sl }
  exc : h'.get? e = some { oe with data := .fields (vs.setIfInBounds 1 (.ref T)) }
  new : h.get? T = none
  trc : ∃ oT ts, h'.get? T = some oT ∧ oT.data = .fields ts ∧ ts[3]? = some .none
section
variable {M : Model} {A : Around} {E : Value → Shared → Prop} {s : Shared}
theorem mapF {o : Obj} {vs : Array Value} (hd : o.data = .fields vs) (f : Array Value → Array Value) : o.mapFields f = { o with data := .fields (f vs) } := by
  obtain ⟨c, d, dt, sl⟩ := o
  have hd : dt = .fields vs := hd
  subst hd
  rfl
theorem mapF_same {o : Obj} {vs : Array Value} {i : Nat} {x : Value} (hd : o.data = .fields vs) (hx : vs[i]? = some x) : o.mapFields (·.setIfInBounds i x) = o := by
  rw [mapF hd]
  have e : vs.setIfInBounds i x = vs := by
    obtain ⟨hi, hxi⟩ := Array.getElem?_eq_some_iff.mp hx
    rw [Array.setIfInBounds_def, dif_pos hi, ← hxi, Array.set_getElem_self]
  rw [e, ← hd]
theorem lft_new {base : Heap} {env : Env} {outer : List Env} {L e : Addr} {oe : Obj} {vs : Array Value} {head : Value} {had : Bool} {Q : Unit → Shared → Prop} (fr : A.frames = some (env :: outer)) (fl : s.heap.FunFrames base (env :: outer))
    (hL : env.frame = some L) (he : s.heap.get? e = some oe) (hd : oe.data = .fields vs) (hsz : 1 < vs.size) (k : ∀ h' T, Lft ((env :: outer).filterMap (·.frame)) e oe vs T s.heap h' → Q () { s with heap := h' }) :
    wpAny M A (do let a ← frameOf env; let pl ← entryPlaceOf L had; let b ← EntryCells.newEntry head a .none (rawInt L) .none pl; setField (.ref e) 1 b) (fun _ s1 => wpAny M A (setFlight (.ref e) none) Q E s1) E s := by
  have ne : e ∉ (env :: outer).filterMap (·.frame) := fun z => by
    obtain ⟨_, o, ho, nf⟩ := fl.mem z
    rw [he] at ho
    cases ho
    exact nf vs hd
  refine wpAny_bind (wpAny_frameOf_fun fr fl hL fun h1 S1 => ?_)
  refine wpAny_bind (wpAny_entryPlaceOf fun pl ip => ?_)
  unfold EntryCells.newEntry newFields
  refine wpAny_bind (wpAny_newObj_type ?_ (ip.sizeOk5 _ _ _ _ _))
  have e1 : h1.get? e = some oe := (S1.2.1 e ne).trans he
  generalize ho : ({ cls := .type "traceback", dict := none, data := .fields ([head, .ref L, .none, rawInt L, .none] ++ (if pl.isEmpty then List.replicate 6 Value.none else pl)).toArray } : Obj) = oT
  have hoT : oT.data = .fields ([head, .ref L, .none, rawInt L, .none] ++ (if pl.isEmpty then List.replicate 6 Value.none else pl)).toArray := by rw [← ho]
  have fT : oT.isFreed = false := by rw [← ho]; rfl
  have e2 : (h1.push oT).get? e = some oe := Heap.get?_push_of_some oT e1
  refine wpAny_setField e2 hd hsz ?_
  have nT : h1.objs.size ≠ e := Nat.ne_of_gt (Heap.lt_size e1)
  have e3 := Heap.get?_update_self (Obj.mapFields (·.setIfInBounds 1 (Value.ref h1.objs.size))) e2 (Obj.isFreed_of_fields (Obj.data_mapFields hd _))
  have t3 : ((h1.push oT).update e (Obj.mapFields (·.setIfInBounds 1 (Value.ref h1.objs.size)))).get? h1.objs.size = some oT := by
    rw [Heap.get?_update_other _ _ (Ne.symm nT)]
    exact Heap.get?_push_size h1 fT
  unfold setFlight
  refine wpAny_bind (wpAny_field e3 (Obj.data_mapFields hd _) (x := .ref h1.objs.size) (by simp [hsz]) ?_)
  rw [if_pos (by simp)]
  refine wpAny_setField t3 hoT (by simp only [List.size_toArray, List.length_append, List.length_cons, List.length_nil] <;> omega) (k _ h1.objs.size ?_)
  have lt : s.heap.objs.size = h1.objs.size := S1.1.symm
  refine ⟨fun b o hb nb nf => ?_, fun b o hb bf => ?_, ?_, ?_, ?_⟩
  · have b1 : h1.get? b = some o := (S1.2.1 b nf).trans hb
    rw [Heap.get?_update_other _ _ (Nat.ne_of_gt (Heap.lt_size b1)), Heap.get?_update_other _ _ (Ne.symm nb)]
    exact Heap.get?_push_of_some _ b1
  · obtain ⟨sl, b1⟩ := S1.2.2 b o hb
    refine ⟨sl, ?_⟩
    rw [Heap.get?_update_other _ _ (Nat.ne_of_gt (Heap.lt_size b1)), Heap.get?_update_other _ _ (fun z => ne (by rw [z]; exact bf))]
    exact Heap.get?_push_of_some _ b1
  · rw [Heap.get?_update_other _ _ nT, e3, mapF hd]
  · rw [← lt]
    exact Heap.get?_none_of_le (Nat.le_refl _)
  · refine ⟨_, _, Heap.get?_update_self _ t3 (Obj.isFreed_of_fields (Obj.data_mapFields hoT _)), Obj.data_mapFields hoT _, ?_⟩
    first
      | (simp; done)
      | (rcases ip with rfl | ⟨_, _, _, _, _, _, _, rfl⟩ <;> simp)
noncomputable def Trc (h : Heap) (e : Addr) (vs : Array Value) : Prop := vs[1]? = some .none ∨ ∃ T oT ts, vs[1]? = some (.ref T) ∧ T ≠ e ∧ h.get? T = some oT ∧ oT.data = .fields ts ∧ ts[3]? = some .none
theorem lft_note {base : Heap} {env : Env} {outer : List Env} {L e : Addr} {oe : Obj} {vs : Array Value} {Q : Unit → Shared → Prop} (fr : A.frames = some (env :: outer)) (fl : s.heap.FunFrames base (env :: outer))
    (hL : env.frame = some L) (he : s.heap.get? e = some oe) (hd : oe.data = .fields vs) (ht : Trc s.heap e vs) (k : ∀ h' T, Lft ((env :: outer).filterMap (·.frame)) e oe vs T s.heap h' → Q () { s with heap := h' }) :
    wpAny M A (noteFrame (.ref e) env) (fun _ s1 => wpAny M A (setFlight (.ref e) none) Q E s1) E s := by
  unfold noteFrame
  simp only [hL]
  rcases ht with h1 | ⟨T, oT, ts, h1, nT, hT, dT, h3⟩
  · refine wpAny_bind (wpAny_field he hd h1 ?_)
    rw [if_neg (by decide)]
    exact lft_new fr fl hL he hd (Array.getElem?_eq_some_iff.mp h1).1 k
  · refine wpAny_bind (wpAny_field he hd h1 ?_)
    rw [if_pos (by simp)]
    refine wpAny_bind (wpAny_field hT dT h3 ?_)
    rw [if_neg (by simp [rawInt])]
    refine wpAny_bind (wpAny_setField hT dT (Array.getElem?_eq_some_iff.mp h3).1 ?_)
    have same : ∀ b o, s.heap.get? b = some o → (s.heap.update T (Obj.mapFields (·.setIfInBounds 3 Value.none))).get? b = some o := fun b o hb => by
      by_cases z : b = T
      · subst z
        rw [hT] at hb
        cases hb
        rw [Heap.get?_update_self _ hT (Obj.isFreed_of_fields (Obj.data_mapFields dT _)), mapF_same dT h3]
      · rw [Heap.get?_update_other _ _ (Ne.symm z)]; exact hb
    have back : ∀ b, s.heap.get? b = none → (s.heap.update T (Obj.mapFields (·.setIfInBounds 3 Value.none))).get? b = none := fun b hb => by
      rw [Heap.get?_update_other _ _ (fun z => by rw [z, hb] at hT; cases hT)]; exact hb
    have back' : ∀ b, (s.heap.update T (Obj.mapFields (·.setIfInBounds 3 Value.none))).get? b = none → s.heap.get? b = none := fun b hb => by
      cases z : s.heap.get? b with
      | none => rfl
      | some o => rw [same b o z] at hb; cases hb
    refine lft_new (s := { s with heap := s.heap.update T (Obj.mapFields (·.setIfInBounds 3 Value.none)) }) fr (fl.of_keeps fun b o hb _ => ⟨o, same b o hb, rfl⟩) hL (same e oe he) hd (Array.getElem?_eq_some_iff.mp h1).1 fun h' T' l => k h' T' ?_
    exact ⟨fun b o hb => l.keep b o (same b o hb), fun b o hb => l.slot b o (same b o hb), l.exc, back' _ l.new, l.trc⟩
theorem lft_leave {base : Heap} {env : Env} {outer : List Env} {L e : Addr} {oe : Obj} {vs : Array Value} {Q : Unit → Shared → Prop} (fr : A.frames = some (env :: outer)) (fl : s.heap.FunFrames base (env :: outer))
    (hL : env.frame = some L) (he : s.heap.get? e = some oe) (hd : oe.data = .fields vs) (ht : Trc s.heap e vs) (k : ∀ h' T, Lft ((env :: outer).filterMap (·.frame)) e oe vs T s.heap h' → Q () { s with heap := h' }) :
    wpAny M A (leaving env (.ref e)) Q E s := by
  unfold leaving
  exact wpAny_bind (lft_note fr fl hL he hd ht k)
end
end L2
end
section
set_option Elab.async false
set_option linter.all false
set_option maxRecDepth 100000
set_option maxHeartbeats 4000000
namespace L2
open PySem PySem.Spec PyProof.Rows
theorem ObjOk.there {P : Program} {w : World} {H : Hp} {h : Heap} {a : Addr} {o : HO} (x : ObjOk P w H h a o) : ∃ ob, h.get? a = some ob := by
  cases o with
  | lst xs => obtain ⟨_, _, _, _, e⟩ := x; exact ⟨_, e⟩
  | tup xs => obtain ⟨_, _, _, ob, e, _⟩ := x; exact ⟨_, e⟩
  | dK kvs => obtain ⟨_, _, _, _, o, _, _, e, _⟩ := x; exact ⟨_, e⟩
  | dT kvs => obtain ⟨_, _, _, _, o, _, _, e, _⟩ := x; exact ⟨_, e⟩
  | set S n => obtain ⟨o, _, _, _, e, _⟩ := x; exact ⟨_, e⟩
  | ins C dx fs => obtain ⟨_, _, _, e, _⟩ := x; exact ⟨_, e⟩
  | own y => exact x
  | xd fs => obtain ⟨_, ⟨_, _, _, e, _⟩, _⟩ := x; exact ⟨_, e⟩
  | rng lo hi => obtain ⟨_, _, _, e⟩ := x; exact ⟨_, e⟩
  | frz ob u => obtain ⟨e, _⟩ := x; exact ⟨_, e⟩
  | tbl ps => exact ⟨_, x⟩
  | met f y => exact ⟨_, x⟩
  | ext φ => exact x.2.1
theorem HOk.free {P : Program} {w : World} {H : Hp} {h : Heap} {a : Addr} (x : HOk P w H h) (e : h.get? a = none) : H a = none := by
  cases q : H a with
  | none => rfl
  | some o =>
    obtain ⟨ob, z⟩ := (x a o q).there
    rw [e] at z
    cases z
noncomputable def CXF (P : Program) (w : World) : CXT := fun outer H s E e s' => ∃ (a C : Addr) (dx : Option Addr) (H' : Hp) (o : Obj) (vs : Array Value), e = .ref a ∧ s'.os = s.os ∧ AllBare s'.gens ∧ Un (frs outer) [] H H' s.heap s'.heap ∧ HOk P w H' s'.heap ∧
  s.heap.get? a = none ∧ H' a = none ∧ s'.heap.get? a = some o ∧ o.cls = .ref C ∧ o.dict = dx ∧ o.data = .fields vs ∧ vs[2]? = some .none ∧ Trc s'.heap a vs ∧ E (.ref C) dx H'
noncomputable def Flies (X : Cx) (E : XK) : Prop := ∀ (pins : List (Addr × Obj)) (σ : St) (H : Hp) (s : Shared) (a C : Addr) (dx : Option Addr) (o : Obj) (vs : Array Value), Inv X pins σ H s → X.s₀.heap.get? a = none → H a = none → s.heap.get? a = some o → o.cls = .ref C → o.dict = dx →
  o.data = .fields vs → vs[2]? = some .none → Trc s.heap a vs → E (.ref C) dx H → X.xe (.ref a) s
theorem Inv.gone {X : Cx} {pins : List (Addr × Obj)} {σ : St} {H : Hp} {s : Shared} {a : Addr} (I : Inv X pins σ H s) (hx : X.ex = []) (e : s.heap.get? a = none) : X.s₀.heap.get? a = none := by
  cases q : X.s₀.heap.get? a with
  | none => rfl
  | some o =>
    obtain ⟨o', z⟩ := I.base.there a o q (by rw [hx]; simp)
    rw [e] at z
    cases z
theorem isCell_slots {h h' : Heap} {c : Addr} {v : Option Value} (x : h.IsCell c v) (k : ∀ o, h.get? c = some o → ∃ sl, h'.get? c = some { o with slots := sl }) : h'.IsCell c v := by
  obtain ⟨o, e, d⟩ := x
  obtain ⟨sl, e'⟩ := k o e
  exact ⟨_, e', d⟩
section
variable {X : Cx} {pins : List (Addr × Obj)} {σ : St} {H : Hp} {s : Shared}
theorem Inv.lft {a T : Addr} {o : Obj} {vs : Array Value} {h' : Heap} (I : Inv X pins σ H s) (l : Lft (frs X.stack) a o vs T s.heap h') (ha : s.heap.get? a = some o) (hd : o.data = .fields vs) (haH : H a = none) (h0 : X.s₀.heap.get? a = none) (hp : ∀ p ∈ X.pn ++ pins, p.1 ≠ a) : Inv X pins σ H { s with heap := h' } := by
  have na : ∀ b ob, X.s₀.heap.get? b = some ob → b ≠ a := fun b ob e z => by rw [z, h0] at e; cases e
  have nl : ∀ b ob, X.s₀.heap.get? b = some ob → b ≠ X.env.locals := fun b ob e => Nat.ne_of_lt (Nat.lt_of_lt_of_le (Heap.lt_size e) I.ok.above)
  have any : ∀ b ob, s.heap.get? b = some ob → b ≠ a → ∃ sl, h'.get? b = some { ob with slots := sl } := fun b ob e n => by
    by_cases z : b ∈ frs X.stack
    · exact l.slot b ob e z
    · exact ⟨ob.slots, l.keep b ob e n z⟩
  have cel : ∀ c v, s.heap.IsCell c v → h'.IsCell c v := fun c v x => by
    refine isCell_slots x fun ob e => any c ob e fun z => ?_
    obtain ⟨oc, e1, d1⟩ := x
    rw [z, ha] at e1
    cases e1
    rw [hd] at d1
    cases d1
  refine ⟨I.ok, I.os, I.bare, ⟨fun b ob e n hb hx => ?_, fun b ob e n hb hx => ?_, I.base.free, fun b ob e hx => ?_, I.base.tups, I.base.frzs, I.base.tbls⟩, ?_, fun x c e => ?_, I.free, I.freeC, fun p q => ?_, fun b u q => ?_, I.len⟩
  · refine l.keep b ob (I.base.keep b ob e n hb hx) (na b ob e) fun z => ?_
    rcases List.mem_cons.mp (I.stkSub b z) with z | z
    · exact nl b ob e z
    · exact hb z
  · obtain ⟨sl, e1⟩ := I.base.slot b ob e n hb hx
    obtain ⟨sl2, e2⟩ := any b _ e1 (na b ob e)
    exact ⟨sl2, e2⟩
  · obtain ⟨o', e1⟩ := I.base.there b ob e hx
    obtain ⟨sl2, e2⟩ := any b _ e1 (na b ob e)
    exact ⟨_, e2⟩
  · obtain ⟨m, ⟨ol, es, ep, e, d, r⟩, q⟩ := I.loc
    have nla : X.env.locals ≠ a := fun z => by
      rw [z, ha] at e
      cases e
      rw [hd] at d
      cases d
    obtain ⟨sl, e2⟩ := any _ _ e nla
    refine ⟨m, ⟨_, es, ep, e2, d, r⟩, fun i x v h1 h2 vis => ?_⟩
    obtain ⟨u, rv, lk⟩ := q i x v h1 h2 vis
    refine ⟨u, rv, ?_⟩
    rcases lk with lk | ⟨k1, c, k2, k3⟩
    · exact .inl lk
    · exact .inr ⟨k1, c, k2, cel c _ k3⟩
  · obtain ⟨v, z⟩ := I.cell x c e
    exact ⟨v, cel c v z⟩
  · obtain ⟨e, n, ne, nf, d⟩ := I.pin p q
    refine ⟨l.keep _ _ e (hp p q) fun z => ?_, n, ne, nf, d⟩
    rcases List.mem_cons.mp (I.stkSub _ z) with z | z
    · exact ne z
    · exact nf z
  · refine (I.hok b u q).stay (fun c v hc r => l.keep c v r (fun z => ?_) fun z => ?_) (fun _ r => r) fun _ _ r => r
    · rcases hc with hc | hc
      · rw [hc] at z; rw [z, haH] at q; cases q
      · rw [z, haH] at hc; cases hc
    · have := I.stkFree c z
      rcases hc with hc | hc
      · rw [hc, q] at this; cases this
      · rw [hc] at this; cases this
end
theorem flies_of {X : Cx} {E : XK} (hex : X.ex = []) (hpn : X.pn = []) (hst : X.stack = X.env :: X.outer) (hfr : X.env.frame = some X.env.locals)
    (hxe : ∀ e s', wpAny (model X.prog X.w) X.A (leaving X.env e) (fun _ s'' => CXF X.prog X.w X.outer X.H₀ X.s₀ E e s'') (fun e' s'' => CXF X.prog X.w X.outer X.H₀ X.s₀ E e' s'') s' → X.xe e s') : Flies X E := by
  intro pins σ H s1 a C dx o vs I ha0 haH he hc hdx hd h2 ht hE
  apply hxe
  refine lft_leave (base := X.base) (env := X.env) (outer := X.outer) (by rw [← hst]; exact I.ok.frames) (by rw [← hst]; exact I.stack) hfr he hd ht fun h' T l => ?_
  have l' : Lft (frs X.stack) a o vs T s1.heap h' := by rw [hst]; exact l
  have I0 : Inv X [] σ H s1 := I.pins_of fun p hp => absurd hp (by simp)
  have J := I0.lft l' he hd haH ha0 fun p hp => absurd hp (by rw [hpn]; simp)
  have h1 : 1 < vs.size := by
    rcases ht with z | ⟨_, _, _, z, _⟩ <;> exact (Array.getElem?_eq_some_iff.mp z).1
  have jb := J.base
  rw [hex] at jb
  refine ⟨a, C, dx, H, _, _, rfl, J.os, J.bare, jb, J.hok, ha0, haH, l.exc, hc, hdx, rfl, ?_, ?_, hE⟩
  · rw [Array.getElem?_setIfInBounds_ne (by decide)]; exact h2
  · obtain ⟨oT, ts, t1, t2, t3⟩ := l.trc
    refine .inr ⟨T, oT, ts, by simp [h1], fun z => ?_, t1, t2, t3⟩
    have := l.new
    rw [z, he] at this
    cases this
theorem flies_cxOf {P : Program} {w : World} {K : PySem.W.Frag} {mg : Str → Option Value} {base : Heap} {N : List Str} {qual : Str} {scope : Scope} {f : Addr} {cd : Value} {A : Around} {outer : List Env} {s : Shared} {H₀ : Hp} {E : XK} :
    Flies (cxOf (CXF P w) P w K mg base N qual scope f cd A outer s H₀ E) E := flies_of rfl rfl rfl rfl fun _ _ h => h
theorem passF {X : Cx} {E : XK} (h : Flies X E) (hx : X.ex = [] := by rfl) : Passes (CXF X.prog X.w) X E := by
  rintro pins σ H s e s' I ⟨a, C, dx, H', o, vs, rfl, os, bare, un, hok, ha, haH, he, hc, hdx, hd, h2, ht, hE⟩
  have I' : Inv X pins σ H' s' := I.call' os un hok bare (fun b z => absurd z (by simp))
  exact h pins σ H' s' a C dx o vs I' (I.gone hx ha) haH he hc hdx hd h2 ht hE
noncomputable def ExcC (K : PySem.W.Frag) (C : Addr) : Prop := ∃ nm q N bs bm hdct sn sub ab col dd k0 k1 k2 k3 k5, K.lookup C = some (excClassObj nm q C N bs bm hdct sn sub ab col dd k0 k1 k2 k3 k5 "ValueError.__new__") ∧ bm.contains (.type "BaseException") = true ∧
  (∀ h : Heap, K.In h → ∃ mN, h.Ns N mN ∧ mN "__init__" = none) ∧ ∀ h : Heap, K.In h → OwnTail h [.type "ValueError", .type "Exception", .type "BaseException", .type "object"] bm
section
variable {X : Cx}
noncomputable def tRaise (C : Addr) (E : XK) (ta : TA) : TS := fun _ σ H => ta σ H fun vs H1 => vs.length ≤ sizeLine ∧ E (.ref C) none H1
theorem ps_raise {E : XK} {C : Addr} {x : Str} {np cpos pos : Pos} {e : Expr} {es : List Expr} {ta : TA} (hF : Flies X E) (hc : X.calm = true) (c : ExcC X.K C) (hg : Gl X x) (hm : X.mg x = some (.ref C)) (ha : PA X (e :: es) ta) (hx : X.ex = [] := by rfl) (hdb : (x == ("__debug__" : Str)) = false := by decide)
    (he : starEach (e :: es) X.env = (false, eval e X.env) :: starEach es X.env := by rfl) (hpl : (backTo cpos (starEach es X.env)).any (·.1) = false := by rfl) :
    PS X (.Raise (some (.Call (.Name x np) (e :: es) [] cpos)) none pos) (tRaise C E ta) := by
  intro pins s σ H D I h
  obtain ⟨nm, q, N, bs, bm, hdct, sn, sub, ab, col, dd, k0, k1, k2, k3, k5, hK, hb, hN, hT⟩ := c
  obtain ⟨mN, hns, hni⟩ := hN X.base I.mod.kin
  have tl := hT X.base I.mod.kin
  have ha := ha cpos pins s σ H _ I h
  rw [he] at ha
  refine wpAny_Raise_call_subT (nm := nm) (q := q) (C := C) (N := N) (bs := bs) (bm := bm) (hdct := hdct) (sn := sn) (sub := sub) (ab := ab) (col := col) (dd := dd) (k0 := k0) (k1 := k1) (k2 := k2) (k3 := k3) (k5 := k5) PySem.F.excBase_ValueError hb (I.ok.hd hc) (by rw [he]; show (false || (backTo cpos (starEach es X.env)).any (·.1)) = false; rw [hpl]; rfl) hni (ld_glob I hg hm ⟨rfl, ?_⟩ hdb)
  rw [he]
  refine Calls.evalArgs_plain (thn ha fun us s2 ⟨vs, H1, I1, r, hl, hE⟩ => ?_)
  refine ⟨rfl, by rw [← r.length]; exact hl, I1.kIn _ _ hK, hns.keeps I1.bk, tl.keeps I1.bk, fun h' a hm' => ?_⟩
  obtain ⟨t, ht, _, _⟩ := hm'.there
  have I2 : Inv X pins σ H1 { s2 with heap := h' } := I1.kept (t' := s2.toks) hm'.keeps
  exact hF pins σ H1 _ a C none _ _ I2 (I1.gone hx hm'.new) (I1.hok.free hm'.new) ht rfl rfl rfl rfl (.inl rfl) hE
end
end L2
end
section
set_option Elab.async false
set_option linter.all false
set_option maxRecDepth 100000
set_option maxHeartbeats 4000000
namespace L2
open PySem PySem.Spec PyProof.Rows
noncomputable abbrev TJ := St → Hp → Str → (Str → Hp → Prop) → Prop
section
variable {X : Cx} {pos : Pos} {e e1 e2 : Expr} {es : List Expr} {te : TE} {t : TJ}
end
end L2
end
section
set_option Elab.async false
set_option linter.all false
set_option maxRecDepth 100000
set_option maxHeartbeats 4000000
namespace L2
open PySem PySem.Spec PyProof.Rows
noncomputable def codeO (qual : Str) (c : Addr) : HO := .ext fun h => h.CodeRec (.ref c) qual
noncomputable def Tbl (H : Hp) (P : Addr) (qual : Str) : Prop := ∃ ps, H P = some (.tbl ps) ∧ TriplesOk ps.toList ∧ ∀ pos cv, codeAmong pos ps.toList = some cv → ∃ c, cv = .ref c ∧ H c = some (codeO qual c)
noncomputable def Grown (d : Addr) (H H' : Hp) : Prop := ∀ b o, b ≠ d → H b = some o → H' b = some o
theorem Tbl.same {H H' : Hp} {P : Addr} {q : Str} (x : Tbl H P q) (e : ∀ b o, H b = some o → H' b = some o) : Tbl H' P q :=
  let ⟨ps, h1, h2, h3⟩ := x
  ⟨ps, e _ _ h1, h2, fun pos cv h => let ⟨c, e1, e2⟩ := h3 pos cv h; ⟨c, e1, e _ _ e2⟩⟩
theorem Tbl.grown {H H' : Hp} {P d : Addr} {q : Str} {od : HO} (x : Tbl H P q) (e : Grown d H H') (hd : H d = some od) (n1 : ∀ ps, od ≠ .tbl ps) (n2 : ∀ c, od ≠ codeO q c) : Tbl H' P q :=
  let ⟨ps, h1, h2, h3⟩ := x
  ⟨ps, e _ _ (fun z => by rw [z, hd] at h1; exact n1 _ (Option.some.inj h1)) h1, h2, fun pos cv h => let ⟨c, e1, e2⟩ := h3 pos cv h; ⟨c, e1, e _ _ (fun z => by rw [z, hd] at e2; exact n2 _ (Option.some.inj e2)) e2⟩⟩
theorem triples_cases {l : List Value} (ok : TriplesOk l) : l = [] ∨ ∃ a t b u x r, l = .int a t :: .int b u :: x :: r ∧ TriplesOk r := by
  rcases l with _ | ⟨p, _ | ⟨q, _ | ⟨x, r⟩⟩⟩
  · exact .inl rfl
  · cases p <;> exact (show False from ok).elim
  · cases p with
    | int a t => cases q <;> exact (show False from ok).elim
    | _ => exact (show False from ok).elim
  · cases p with
    | int a t =>
      cases q with
      | int b u => exact .inr ⟨a, t, b, u, x, r, rfl, ok⟩
      | _ => exact (show False from ok).elim
    | _ => exact (show False from ok).elim
theorem among_snoc {pos : Pos} {cv c : Value} {i j : Nat} (l : List Value) (ok : TriplesOk l) (h : codeAmong pos (l ++ [rawInt i, rawInt j, c]) = some cv) : codeAmong pos l = some cv ∨ cv = c := by
  induction n : l.length using Nat.strongRecOn generalizing l with
  | ind n ih =>
    rcases triples_cases ok with rfl | ⟨a, t, b, u, x, r, rfl, okr⟩
    · have h : (if ((i : Int) == (pos.line : Int) && (j : Int) == (pos.col : Int)) = true then some c else none) = some cv := h
      split at h
      · exact .inr (Option.some.inj h).symm
      · cases h
    · have h : (if (a == (pos.line : Int) && b == (pos.col : Int)) = true then some x else codeAmong pos (r ++ [rawInt i, rawInt j, c])) = some cv := h
      show (if (a == (pos.line : Int) && b == (pos.col : Int)) = true then some x else codeAmong pos r) = some cv ∨ cv = c
      split at h
      · rename_i z
        rw [if_pos z]
        exact .inl h
      · rename_i z
        rw [if_neg z]
        exact ih r.length (by rw [← n]; simp only [List.length_cons]; omega) r okr h rfl
theorem triples_snoc {c : Value} {i j : Nat} (l : List Value) (ok : TriplesOk l) : TriplesOk (l ++ [rawInt i, rawInt j, c]) := by
  induction n : l.length using Nat.strongRecOn generalizing l with
  | ind n ih =>
    rcases triples_cases ok with rfl | ⟨a, t, b, u, x, r, rfl, okr⟩
    · trivial
    · exact ih r.length (by rw [← n]; simp only [List.length_cons]; omega) r okr rfl
noncomputable def BmAt (mg : Str → Option Value) (base : Heap) : Prop := ∃ bm o, mg "__builtins__" = some (.ref bm) ∧ bm ≠ builtinsNs ∧ bm ≠ mainGlobals ∧ base.get? bm = some o ∧ o.cls = .type "module" ∧ o.dict = some builtinsNs ∧ o.data = .plain
section
variable {X : Cx} {pins : List (Addr × Obj)} {σ : St} {H : Hp} {s : Shared}
theorem lam_make {E : Value → Shared → Prop} {Q : Value → Shared → Prop} {params : Arguments} {body : Expr} {sc : Scope} {pos : Pos} {c P : Addr} (I : Inv X pins σ H s) (hcode : X.env.code = .ref c) (hC : PySem.W.codeHdIn X.K c P = true)
    (hT : Tbl H P (X.env.qual ++ "<lambda>")) (hB : BmAt X.mg X.base) (hdef : defaultsOf params X.env = ([], [])) (hfree : ∀ p ∈ sc.names, p.2 = NameKind.free → ∃ c, X.env.cells.lookup p.1 = some c)
    (k : ∀ (f c' : Addr) (ctv pm : Value) (H1 : Hp) (s1 : Shared), Inv X pins σ H1 s1 → s1.heap.get? f = some (PySem.W.kla_obj "<lambda>" (X.env.qual ++ "<lambda>") params body sc (closeL X.env sc.names []) pm c' ctv) → H1 f = none →
      H1 c' = some (codeO (X.env.qual ++ "<lambda>") c') → Grown P H H1 → Tbl H1 P (X.env.qual ++ "<lambda>") → Q (.ref f) s1) :
    wpAny (model X.prog X.w) X.A (eval (.Lambda params body sc pos) X.env) Q E s := by
  obtain ⟨ps, hP, ht, hcs⟩ := hT
  have hPo : s.heap.get? P = some (PySem.W.tabObj ps) := I.hok P _ hP
  have hcl := closureFor_eq hfree
  have hg : s.heap.Ns mainGlobals X.mg := I.mod.glob.keeps I.bk
  have hgP : mainGlobals ≠ P := fun z => by
    obtain ⟨o, es, ep, e, d, _⟩ := hg
    rw [z, hPo] at e
    cases e
    cases d
  obtain ⟨bm, ob, b1, b2, b3, b4, b5, b6, b7⟩ := hB
  have hbP : bm ≠ P := fun z => by
    have := (I.bs bm ob b4).2
    rw [z, hP] at this
    cases this
  have hBA : s.heap.BuiltinsAt X.mg P := ⟨bm, ob, b1, b2, b3, hbP, I.bk _ _ b4, b5, b6, b7⟩
  have hCd := PySem.W.codeHd_of_K I.kIn hC
  refine PySem.W.kla_eval hdef ?_
  cases e : codeAmong pos ps.toList with
  | some cv =>
    obtain ⟨c', rfl, hc'⟩ := hcs pos cv e
    refine PySem.W.kla_makeFunctionHit (mg := X.mg) hcl I.ok.glob hg hcode hCd hPo ht e hBA fun ctv h' tk hk hsz => ?_
    have I1 : Inv X pins σ H { s with heap := h'.push { cls := .type "function", data := .func (PySem.W.kla_fn "<lambda>" (X.env.qual ++ "<lambda>") params body sc (closeL X.env sc.names []) ((X.mg "__name__").getD .none) (.ref c') ctv) }, toks := tk } :=
      I.kept fun b u q => Heap.get?_push_of_some _ (hk b u q)
    exact k h'.objs.size c' ctv _ H _ I1 (Heap.get?_push_size _ rfl) (I.hok.fresh hsz) hc' (fun _ _ _ q => q) ⟨ps, hP, ht, hcs⟩
  | none =>
    refine PySem.W.kla_makeFunction (mg := X.mg) hcl I.ok.glob hg hcode hCd hPo ht e hgP hBA fun c' ctv h' tk hx hge hlt hrec htb => ?_
    have fr : H c' = none := I.hok.fresh hge
    have nP : c' ≠ P := fun z => by rw [z, hP] at fr; cases fr
    have kp : ∀ b o, b ≠ P → s.heap.get? b = some o → (h'.push (PySem.W.kla_obj "<lambda>" (X.env.qual ++ "<lambda>") params body sc (closeL X.env sc.names []) ((X.mg "__name__").getD .none) c' ctv)).get? b = some o := fun b o hb q => Heap.get?_push_of_some _ (hx b o hb q)
    have notP : ∀ b, H b = none → b ≠ P := fun b q z => by rw [z, hP] at q; cases q
    have lt : ∀ b o, s.heap.get? b = some o → b ≠ c' := fun b o q => Nat.ne_of_lt (Nat.lt_of_lt_of_le (Heap.lt_size q) hge)
    have trk : ∀ b o, H b = some o → b ≠ c' := fun b o q z => by rw [z, fr] at q; cases q
    have I1 : Inv X pins σ (upd (upd H P (.tbl (ps ++ #[rawInt pos.line, rawInt pos.col, .ref c']))) c' (codeO (X.env.qual ++ "<lambda>") c'))
        { s with heap := h'.push (PySem.W.kla_obj "<lambda>" (X.env.qual ++ "<lambda>") params body sc (closeL X.env sc.names []) ((X.mg "__name__").getD .none) c' ctv), gens := s.gens, drawn := s.drawn, toks := tk } := by
      refine I.step (ch := []) (fun b z => absurd z (by simp)) (fun b o _ _ _ q n => kp b o (notP b n) q) (fun b o _ _ _ q n => ⟨o.slots, kp b o (notP b n) q⟩) (fun b o _ q n => ?_) (fun b o _ q => ?_) (fun b xs q => ?_) (fun b o u q => ?_) (fun b qs q => ?_) (fun m hm => ?_) (fun b u q => ?_) I.bare
      · rw [upd_ne (lt b o q), upd_ne (notP b n)]; exact n
      · by_cases z : b = P
        · rw [z]; exact ⟨_, Heap.get?_push_of_some _ htb⟩
        · exact ⟨o, kp b o z q⟩
      · rw [upd_ne (trk b _ q), upd_ne (fun z => by rw [z, hP] at q; cases q)]; exact q
      · rw [upd_ne (trk b _ q), upd_ne (fun z => by rw [z, hP] at q; cases q)]; exact q
      · rw [upd_ne (trk b _ q)]
        by_cases z : b = P
        · subst z
          rw [hP] at q
          cases q
          exact ⟨_, upd_same⟩
        · rw [upd_ne z]; exact ⟨#[], by rw [q]; simp⟩
      · obtain ⟨o, es, ep, q, r⟩ := hm
        exact ⟨o, es, ep, kp _ o (notP _ I.free) q, r⟩
      · by_cases z : b = c'
        · subst z
          rw [upd_same] at q
          cases q
          obtain ⟨c0, oc, vs, tq, e1, e2, e3, e4⟩ := hrec
          cases e1
          refine ⟨⟨b, oc, vs, tq, rfl, Heap.get?_push_of_some _ e2, e3, e4⟩, ⟨oc, Heap.get?_push_of_some _ e2⟩, fun h1 h2 ⟨c0, oc', vs', tq', f1, f2, f3, f4⟩ kk => ?_⟩
          cases f1
          exact ⟨b, oc', vs', tq', rfl, kk _ f2, f3, f4⟩
        · rw [upd_ne z] at q
          by_cases z2 : b = P
          · subst z2
            rw [upd_same] at q
            cases q
            exact Heap.get?_push_of_some _ htb
          · rw [upd_ne z2] at q
            refine (I.hok b u q).stay (fun d v hd r => kp d v (fun y => ?_) r) (fun d r => ?_) fun d xs r => ?_
            · rcases hd with hd | hd
              · rw [hd] at y; exact z2 y
              · rw [y, hP] at hd; cases hd
            · rw [upd_ne (trk d _ r), upd_ne (fun y => by rw [y, hP] at r; cases r)]; exact r
            · rw [upd_ne (trk d _ r), upd_ne (fun y => by rw [y, hP] at r; cases r)]; exact r
    have f0 : H h'.objs.size = none := I.hok.fresh (Nat.le_trans hge (Nat.le_of_lt hlt))
    refine k h'.objs.size c' ctv _ _ _ I1 (Heap.get?_push_size _ rfl) ?_ upd_same (fun b o nb q => ?_) ⟨_, by rw [upd_ne (Ne.symm nP), upd_same], ?_, fun pos' cv h => ?_⟩
    · rw [upd_ne (Nat.ne_of_gt hlt), upd_ne (notP _ f0)]; exact f0
    · rw [upd_ne (trk b _ q), upd_ne nb]; exact q
    · rw [Array.toList_append]
      exact triples_snoc _ ht
    · rw [Array.toList_append] at h
      rcases among_snoc _ ht h with h | h
      · obtain ⟨c2, e1, e2⟩ := hcs pos' cv h
        refine ⟨c2, e1, ?_⟩
        rw [upd_ne (trk c2 _ e2), upd_ne (fun y => by rw [y, hP] at e2; cases e2)]
        exact e2
      · exact ⟨c', h, upd_same⟩
end
end L2
end
section
set_option Elab.async false
set_option linter.all false
set_option maxRecDepth 100000
set_option maxHeartbeats 4000000
namespace L2
open PySem PySem.Spec PyProof.Rows
noncomputable def lamOk (sc outer : Scope) : Bool := (sc.kind == .function) && !sc.isCoroutine && !sc.isGenerator && sc.names.all (fun p => p.2 != NameKind.cell && p.2 != NameKind.local) &&
  sc.names.all (fun p => p.2 != NameKind.free || (outer.names.lookup p.1 == some NameKind.cell || outer.names.lookup p.1 == some NameKind.free))
structure LamOk (sc outer : Scope) : Prop where
  kind : sc.kind = .function
  co : sc.isCoroutine = false
  gen : sc.isGenerator = false
  nocell : ∀ p ∈ sc.names, p.2 ≠ NameKind.cell
  noloc : ∀ p ∈ sc.names, p.2 ≠ NameKind.local
  free : ∀ p ∈ sc.names, p.2 = NameKind.free → outer.names.lookup p.1 = some NameKind.cell ∨ outer.names.lookup p.1 = some NameKind.free
theorem LamOk.of {sc outer : Scope} (h : lamOk sc outer = true) : LamOk sc outer := by
  unfold lamOk at h
  simp only [Bool.and_eq_true, List.all_eq_true] at h
  obtain ⟨⟨⟨⟨h1, h2⟩, h3⟩, h4⟩, h5⟩ := h
  refine ⟨eq_of_beq h1, by simpa using h2, by simpa using h3, fun p hp => by simpa using (h4 p hp).1, fun p hp => by simpa using (h4 p hp).2, fun p hp e => ?_⟩
  have := h5 p hp
  rw [e] at this
  simpa using this
noncomputable abbrev lamEnv (X : Cx) (qual : Str) (sc : Scope) (f c' : Addr) (s : Shared) : Env := PySem.W.envX qual sc s.heap.objs.size f (.ref c') (closeL X.env sc.names [])
noncomputable def lamCx (X : Cx) (qual : Str) (sc : Scope) (f c' : Addr) (A : Around) (outer : List Env) (s : Shared) (H : Hp) (E : XK) : Cx where
  prog := X.prog
  w := X.w
  K := X.K
  mg := X.mg
  base := X.base
  A := A.deeper (lamEnv X qual sc f c' s)
  N := X.N
  s₀ := s
  H₀ := H
  env := lamEnv X qual sc f c' s
  outer := outer
  stack := lamEnv X qual sc f c' s :: outer
  ex := []
  fn := fun _ => false
  calm := true
  pn := []
  xe := fun e s' => wpAny (model X.prog X.w) (A.deeper (lamEnv X qual sc f c' s)) (leaving (lamEnv X qual sc f c' s) e) (fun _ s'' => CXF X.prog X.w outer H s E e s'') (fun e' s'' => CXF X.prog X.w outer H s E e' s'') s'
noncomputable def DeedAt (P : Program) (w : World) (K : PySem.W.Frag) (mg : Str → Option Value) (base : Heap) (k : Nat) (f : Addr) (h0 : Heap) (H : Hp) (pre : VK → XK → Prop) : Prop :=
  ∀ (A : Around) (outer : List Env) (s : Shared) (Q : VK) (E : XK), Room k A → Env0 P w K mg base A outer s H → (∀ b o, h0.get? b = some o → H b = none → ∃ sl, s.heap.get? b = some { o with slots := sl }) → pre Q E →
    codeAny (model P w) A (.call (.ref f) ⟨[], []⟩) (CR (CXF P w) outer P w H s Q E) s
section
variable {X : Cx} {pins : List (Addr × Obj)} {σ : St} {H : Hp} {s : Shared}
theorem lam_deed {k : Nat} {f c' : Addr} {ctv pm : Value} {qual : Str} {params : Arguments} {body : Expr} {sc : Scope} {tb : XK → TE} (I : Inv X pins σ H s) (ok : LamOk sc X.env.scope)
    (hf : s.heap.get? f = some (PySem.W.kla_obj "<lambda>" qual params body sc (closeL X.env sc.names []) pm c' ctv)) (hH : H f = none) (hc : H c' = some (codeO qual c'))
    (hbind : bindArgs (PySem.W.kla_fn "<lambda>" qual params body sc (closeL X.env sc.names []) pm (.ref c') ctv) ⟨[], []⟩ = pure [])
    (hb : ∀ (A : Around) (outer : List Env) (s' : Shared) (E : XK), Room k (A.deeper (PySem.W.envX qual sc s'.heap.objs.size f (.ref c') (closeL X.env sc.names []))) → PE (lamCx X qual sc f c' A outer s' H E) body (tb E)) :
    DeedAt X.prog X.w X.K X.mg X.base (k + 1) f s.heap H (fun Q E => tb E σ H Q) := by
  intro A outer s' Q E hr e0 kp hq
  obtain ⟨sl, hf'⟩ := kp f _ hf hH
  have hrec : s'.heap.CodeRec (.ref c') qual := (e0.hok c' _ hc).1
  have lim : s'.heap.NoLimit := e0.mod.nolimit.keeps fun b o e => (e0.bs b o e).1
  refine PySem.W.kla_callFunE hr.depth hf' rfl ok.co ok.gen rfl hrec ?_
  rw [hbind]
  refine wpAny_pure (wpAny_newFunctionEnv ok.nocell (fun x hx => absurd hx (by simp)) (fun h1 hns hsb => ?_) ok.kind)
  have hk1 : ∀ b o, s'.heap.get? b = some o → h1.get? b = some o := fun b o e => hsb.extBut b o (Nat.ne_of_lt (Heap.lt_size e)) (Heap.get?_push_of_some _ e)
  have sub : ∀ x c, (closeL X.env sc.names []).lookup x = some c → X.env.cells.lookup x = some c := fun x c e => by
    rcases closeL_sub X.env sc.names [] x c e with z | z
    · simp at z
    · exact z
  have cel : ∀ c v, H c = none → s.heap.IsCell c v → h1.IsCell c v := fun c v n x => by
    refine isCell_slots x fun o e => ?_
    obtain ⟨sl, e'⟩ := kp c o e n
    exact ⟨sl, hk1 _ _ e'⟩
  have fr : ∀ x, (sc.names.lookup x = some .local ∨ sc.names.lookup x = some .cell ∨ sc.names.lookup x = some .free) → sc.names.lookup x = some .free := fun x h => by
    rcases h with h | h | h
    · exact absurd rfl (ok.noloc _ (PySem.mem_of_lookup h))
    · exact absurd rfl (ok.nocell _ (PySem.mem_of_lookup h))
    · exact h
  have J : Inv (lamCx X qual sc f c' A outer s' H E) [] σ H { s' with heap := h1, toks := s'.toks + ([] : List (Str × Value)).length } := by
    refine ⟨⟨e0.mod, ok.kind, rfl, rfl, Nat.le_refl _, fun x y c h1 h2 => I.ok.inj x y c (sub x c h1) (sub y c h2), fun x hx => ?_, fun x c h => (by cases h), fun _ => hr.hd, Around.frames_deeper e0.frames, .inr ⟨rfl, rfl⟩, fun b z => absurd (show b ∈ ([] : List Addr) from z) (by simp), e0.bs, e0.bsz,
      fun b o _ z => absurd (show b ∈ ([] : List Addr) from z) (by simp), fun b z => absurd (show b ∈ ([] : List Addr) from z) (by simp), e0.funs, e0.frf⟩, rfl, e0.bare, Un.kept hk1, ⟨_, hns, fun i x v h1 h2 vis => ?_⟩, fun x c h => ?_, e0.hok.fresh (Nat.le_refl _), fun x c h => I.freeC x c (sub x c h),
      fun p hp => absurd (show p ∈ ([] : List (Addr × Obj)) from hp) (by simp), e0.hok.kept hk1, I.len⟩
    · have hx : sc.names.lookup x = some .cell ∨ sc.names.lookup x = some .free := hx
      have hx := fr x (.inr hx)
      have hm := PySem.mem_of_lookup hx
      exact closeL_has X.env sc.names [] x hm (I.ok.has x (ok.free _ hm rfl))
    · have hx := fr x vis
      have hm := PySem.mem_of_lookup hx
      have ho := ok.free _ hm rfl
      obtain ⟨m, _, hl⟩ := I.loc
      obtain ⟨u, rv, lk⟩ := hl i x v h1 h2 (by rcases ho with z | z; exact .inr (.inl z); exact .inr (.inr z))
      refine ⟨u, rv, .inr ⟨.inr hx, ?_⟩⟩
      rcases lk with ⟨z, _⟩ | ⟨_, c, hc1, hc2⟩
      · have z : X.env.scope.names.lookup x = some .local := z
        rcases ho with y | y <;> rw [z] at y <;> cases y
      · obtain ⟨c2, hc3⟩ := closeL_has X.env sc.names [] x hm ⟨c, hc1⟩
        have := sub x c2 hc3
        rw [hc1] at this
        cases this
        exact ⟨c, hc3, cel c _ (I.freeC x c hc1) hc2⟩
    · have h' := sub x c h
      obtain ⟨v, hv⟩ := I.cell x c h'
      exact ⟨v, cel c v (I.freeC x c h') hv⟩
  refine ⟨lim.keeps hk1, PySem.W.kla_codeExpr ?_⟩
  refine wpAny_mono (hb A outer s' E (hr.deeper _) [] _ σ H Q J hq) (fun v s2 hs => ?_) fun _ _ x => x
  obtain ⟨v', H', J', rv, q⟩ := hs
  exact ⟨v', H', J'.os, J'.bare, J'.base, J'.hok, rv, q⟩
end
end L2
end
section
set_option Elab.async false
set_option linter.all false
set_option maxRecDepth 100000
set_option maxHeartbeats 4000000
namespace L2
open PySem
theorem entry_unchain : entryFor table "proto.unchain" = some Builtin.«proto.unchain» := entryFor_of_tree (by kernel_rfl)
section
variable {prog : Program} {w : World} {A : Around} {E : Value → Shared → Prop} {s : Shared}
theorem raise_h {α : Type} {e a : Addr} {oe oa : Obj} {vs us : Array Value} {Q : α → Shared → Prop} (hh : A.handled = some (.ref e)) (he : s.heap.get? e = some oe) (hd : oe.data = .fields vs) (h2 : vs[2]? = some .none) (ne : e ≠ a)
    (ha : s.heap.get? a = some oa) (da : oa.data = .fields us) (sz : 2 < us.size) (k : E (.ref a) { s with heap := s.heap.update a (Obj.mapFields (·.setIfInBounds 2 (.ref e))) }) : wpAny (model prog w) A (raiseNew (.ref a) : Sem α) Q E s := by
  unfold raiseNew
  refine wpAny_bind (wpAny_handled ?_)
  rw [hh]
  dsimp only
  rw [if_pos (by simp [ne])]
  refine wpAny_bind (wpAny_holding (wpAny_runValue (codeAny_builtin entry_unchain ?_)))
  unfold Builtin.«proto.unchain»
  dsimp only
  refine wpAny_bind (wpAny_field he hd h2 ?_)
  rw [if_pos (by decide)]
  refine wpAny_bind (wpAny_pure (wpAny_pure ?_))
  refine wpAny_bind ?_
  exact wpAny_setField ha da sz (wpAny_throw k)
theorem next_end_h {it l e : Addr} {i : Nat} {items : Array Value} {oe : Obj} {vs : Array Value} {Q : Option Value → Shared → Prop} (hh : A.handled = some (.ref e)) (he : s.heap.get? e = some oe) (hd : oe.data = .fields vs) (h2 : vs[2]? = some .none) (nit : e ≠ it)
    (hit : s.heap.IsListIter it l i) (hl : s.heap.IsList l items) (hx : items[i]? = none) (hQ : ∀ h', Heap.ExtBut it s.heap h' → Q none { s with heap := h' }) : wpAny (model prog w) A (pyNext (.ref it)) Q E s := by
  obtain ⟨oi, ei, ci, di⟩ := id hit
  obtain ⟨ol, el, _, nl, dl⟩ := hl
  unfold pyNext
  refine wpAny_bind (wpAny_attempt (wpAny_callSpecial?_slot (name := Str.ofString "__next__") hit.typeIs slot_listiter_next (wpAny_call_entry slot_listiter_next hit.typeIs entry_listiter_next ?_ (args_listiter_next _))))
  show wpAny _ _ (field (.ref it) 0 >>= _) _ _ s
  refine wpAny_bind (wpAny_field ei di (x := .ref l) rfl ?_)
  show wpAny _ _ (if (Value.ref l == Value.none) = true then _ else _) _ _ s
  rw [if_neg (fun z => nomatch z)]
  show wpAny _ _ (field (.ref it) 1 >>= _) _ _ s
  refine wpAny_bind (wpAny_field ei di (x := .int i 0) rfl ?_)
  show wpAny _ _ (seqItems? (.ref l) >>= _) _ _ s
  refine wpAny_bind (wpAny_seqItems el dl ?_)
  simp only [Int.toNat_natCast, hx]
  refine wpAny_bind (wpAny_rule (wpAny_bind (wpAny_setField ei di (by simp) ?_)))
  show wpAny _ _ (newExc (.type "StopIteration") [] >>= _) _ _ _
  refine wpAny_bind ?_
  simp only [newExc, newTuple]
  refine wpAny_bind (wpAny_newObj_type ?_ (by size_fits))
  refine wpAny_bind (m := firstArgMember _ _) (wpAny_of_eq (a := Value.none) (by first | rfl | (simp only [firstArgMember]; rfl)) ?_)
  refine wpAny_newObj_type ?_ (by size_fits)
  dsimp only
  generalize hs1 : s.heap.update it (Obj.mapFields fun x => x.setIfInBounds 0 Value.none) = h1
  have k1 : Heap.ExtBut it s.heap h1 := by rw [← hs1]; exact (Heap.SameBut.update ..).extBut
  generalize hs2 : h1.push { cls := Value.type "tuple", data := Data.seq #[] } = h3
  have k3 : ∀ b o, h1.get? b = some o → h3.get? b = some o := fun b o q => by rw [← hs2]; exact Heap.get?_push_of_some _ q
  generalize hoS : ({ cls := Value.type "StopIteration", data := Data.fields (#[Value.ref h1.objs.size, Value.none, Value.none, Value.none, Value.bool false, Value.none] ++ ownMembersOf (Value.type "StopIteration") []) } : Obj) = oS
  have e4 : (h3.push oS).get? e = some oe := Heap.get?_push_of_some _ (k3 e oe (k1 e oe nit he))
  have n4 : (h3.push oS).get? h3.objs.size = some oS := Heap.get?_push_size h3 (by rw [← hoS]; rfl)
  refine raise_h (A := A.in1) hh e4 hd h2 (Nat.ne_of_lt (Heap.lt_size (k3 e oe (k1 e oe nit he)))) n4 (by rw [← hoS]) (by rw [Array.size_append]; exact Nat.lt_of_lt_of_le (show 2 < 6 by decide) (Nat.le_add_right _ _)) ?_
  have dS : oS.data = Data.fields (#[Value.ref h1.objs.size, Value.none, Value.none, Value.none, Value.bool false, Value.none] ++ ownMembersOf (Value.type "StopIteration") []) := by rw [← hoS]
  have u4 := Heap.get?_update_self (Obj.mapFields (·.setIfInBounds 2 (Value.ref e))) n4 (Obj.isFreed_of_fields (Obj.data_mapFields dS _))
  refine wpAny_bind (wpAny_isInstance (T := "StopIteration") (b := true) ⟨_, u4, (Obj.cls_mapFields ..).trans (by rw [← hoS])⟩ isSubtype_stop ?_)
  refine wpAny_pure (hQ _ fun b o nb q => ?_)
  have q3 := k3 b o (k1 b o nb q)
  rw [Heap.get?_update_other _ _ (Nat.ne_of_gt (Heap.lt_size q3))]
  exact Heap.get?_push_of_some _ q3
theorem walks_h {e : Addr} {oe : Obj} {vs : Array Value} (hh : A.handled = some (.ref e)) (hd : oe.data = .fields vs) (h2 : vs[2]? = some .none) (I ax : Addr) (hne : ax ≠ I) (hie : e ≠ I) (items : Array Value) :
    Walks prog w A I [I, ax, e] [I] items.size (fun i v => items[i]? = some v) (fun i h => h.IsListIter I ax i ∧ h.IsList ax items ∧ h.get? e = some oe) where
  sub := fun b hb => by simp at hb; simp [hb]
  frame := fun _ _ _ st hk => ⟨st.1.at fun o q => hk I (by simp) o q, st.2.1.at fun o q => hk ax (by simp) o q, hk e (by simp) oe st.2.2⟩
  item := fun i s Q E hi st hQ => by
    refine wpAny_pyNext_list_item st.1 st.2.1 (x := items[i]) (by simp [hi]) fun h' st' sb => ?_
    exact hQ _ h' s.toks (by simp [hi]) ⟨st', st.2.1.extBut sb.extBut hne, sb.extBut _ _ hie st.2.2⟩ fun b o hb q => sb.extBut b o (fun z => hb (by simp [z])) q
  done := fun s Q E st hQ => next_end_h hh st.2.2 hd h2 hie st.1 st.2.1 (by simp) fun h' eb => hQ h' s.toks fun b o hb q => eb b o (fun z => hb (by simp [z])) q
  self := fun _ _ _ _ st hQ => wpAny_pyIter_listiter st.1 hQ
end
end L2
end
section
set_option Elab.async false
set_option linter.all false
set_option maxRecDepth 100000
set_option maxHeartbeats 4000000
namespace L2
open PySem PySem.W
section
variable {prog : Program} {w : World} {A : Around} {E : Value → Shared → Prop} {s : Shared} {K : Frag} {x C : Addr} {ox : Obj} {odo : Option Obj}
theorem findObj_exc {name : Str} {a g : Value} (hc : (clsIn K C).isSome = true) (ha : findIn K (.ref C) name = some (some a)) (hg : specialIn K a "__get__" = some (some g)) (ht : takesIn K a = some true) : findObj K C odo name = some (.bind g a) := by
  obtain ⟨cd, hc⟩ := Option.isSome_iff_exists.mp hc
  unfold findObj
  rw [hc, Option.bind_some, ha, Option.bind_some]
  simp [hg, ht]
theorem exc_class {Q : Option Value → Shared → Prop} (X : K.In s.heap) (I : InstAt s.heap x ox C odo) (hga : findIn K (.ref C) "__getattribute__" = some (some (.builtin "BaseException.__getattribute__"))) (hgh : findIn K (.ref C) "__getattr__" = some none)
    (hf : findObj K C odo "__class__" = some (.bind (.builtin "getset_descriptor.__get__") (.builtin "object.__class__"))) (hm : mroIn K C (.type "object") = some true) (hb : mroIn K C (.type "BaseException") = some true)
    (h : Q (some (.ref C)) { s with toks := s.toks + 1 }) : wpAny (model prog w) A (getAttr? (.ref x) "__class__") Q E s := by
  obtain ⟨hh, g, d, t, os⟩ := s
  have T0 := I.type (M := model prog w)
  have T1 := looks_findIn (M := model prog w) X hga
  have T2 : Looks (model prog w) hh (hookBefore (.ref C)) none := looks_hook X hgh
  have T3 := looks_find (M := model prog w) X I hf
  have T4 := looks_mroIn (M := model prog w) X hb
  have f3 := PySem.F.attrBase_ValueError.ga.bind (.ref x)
  unfold getAttr? getAttrBy? getAttrBy
  refine wpAny_bind (wpAny_mkText (wpAny_bind (wpAny_attempt (wpAny_holding (wpAny_bind (T0.at (wpAny_bind (T1.at ?_))))))))
  dsimp only
  rw [if_neg (by simp)]
  unfold getAttrByItsOwn
  refine wpAny_bind (T2.at (wpAny_bind (wpAny_attempt (wpAny_holding ?_))))
  unfold callGetattribute
  rw [if_neg (by simp)]
  unfold boundAndCalled
  rw [f3]
  refine wpAny_bind (wpAny_pure ?_)
  dsimp only
  have hk : builtinKind "BaseException.__getattribute__" = some .slot := by decide +kernel
  have hsp : splitId "BaseException.__getattribute__" = some ("BaseException", "__getattribute__") := by decide +kernel
  have hargs := PySem.F.args_bexc_ga (.ref x) (.str (Str.ofString "__class__") t)
  refine wpAny_call (codeAny_call_builtin PySem.F.attrBase_ValueError.ga.plain PySem.F.entry_bexc_ga ?_)
  simp only [checkBuiltinCall, hk, hsp]
  refine wpAny_bind ?_
  unfold isInstance
  refine wpAny_bind (T0.at (T4.at ?_))
  rw [if_neg (by simp)]
  unfold argsOk at hargs
  refine wpAny_of_eq hargs ?_
  unfold Builtin.«object.__getattribute__»
  refine wpAny_bind (wpAny_pure ?_)
  refine wpAny_bind (wpAny_pure ?_)
  refine wpAny_bind (T0.at (wpAny_bind (T3.at ?_)))
  dsimp only
  show wpAny _ _ (do ret (← holding [Value.builtin "object.__class__"] (call (Value.builtin "getset_descriptor.__get__") [Value.builtin "object.__class__", Value.ref x, Value.ref C]))) _ _ _
  refine wpAny_bind (wpAny_holding (wpAny_call (class_get (ox := ox) (od := odo) X I hm ?_)))
  exact wpAny_pure (handed_on rfl (wpAny_pure h))
structure ExcIs (K : Frag) (C : Addr) : Prop where
  ga : findIn K (.ref C) "__getattribute__" = some (some (.builtin "BaseException.__getattribute__"))
  gh : findIn K (.ref C) "__getattr__" = some none
  ca : findIn K (.ref C) "__class__" = some (some (.builtin "object.__class__"))
  gn : specialIn K (.builtin "object.__class__") "__get__" = some (some (.builtin "getset_descriptor.__get__"))
  tk : takesIn K (.builtin "object.__class__") = some true
  ob : mroIn K C (.type "object") = some true
  be : mroIn K C (.type "BaseException") = some true
  cl : (clsIn K C).isSome = true
end
end L2
end
section
set_option Elab.async false
set_option linter.all false
set_option maxRecDepth 100000
set_option maxHeartbeats 4000000
namespace L2
open PySem PySem.Spec PyProof.Rows
section
variable {X : Cx} {pins : List (Addr × Obj)} {σ : St} {H : Hp} {s : Shared}
theorem Inv.trackN {a : Addr} {o : HO} (I : Inv X pins σ H s) (hn : H a = none) (h0 : X.s₀.heap.get? a = none) (hL : X.env.locals ≠ a) (hc : ∀ x c, X.env.cells.lookup x = some c → c ≠ a) (hp : ∀ p ∈ X.pn ++ pins, p.1 ≠ a) (new : ObjOk X.prog X.w (upd H a o) s.heap a o) :
    Inv X pins σ (upd H a o) s := by
  refine ⟨I.ok, I.os, I.bare, ⟨I.base.keep, I.base.slot, fun b ob e n x => ?_, I.base.there, fun b xs e => ?_, fun b ob u e => ?_, fun b ps e => ?_⟩, I.loc, I.cell, ?_, fun y c e => ?_, fun p q => ?_, I.hok.track hn new, I.len⟩
  · rw [upd_ne (fun z => by rw [z, h0] at e; cases e)]
    exact I.base.free b ob e n x
  · rw [upd_ne (ne_of_none (I.base.tups b xs e) hn)]; exact I.base.tups b xs e
  · rw [upd_ne (ne_of_none (I.base.frzs b ob u e) hn)]; exact I.base.frzs b ob u e
  · obtain ⟨mr, q⟩ := I.base.tbls b ps e
    exact ⟨mr, by rw [upd_ne (ne_of_none q hn)]; exact q⟩
  · rw [upd_ne hL]; exact I.free
  · rw [upd_ne (hc y c e)]; exact I.freeC y c e
  · obtain ⟨e, n, ne, nf, d⟩ := I.pin p q
    exact ⟨e, by rw [upd_ne (hp p q)]; exact n, ne, nf, d⟩
noncomputable abbrev Cx.marked (X : Cx) (A2 : Around) : Cx := { X with A := A2, calm := false, xe := fun _ _ => False }
theorem Inv.marked {A2 : Around} (I : Inv X pins σ H s) (hf : A2.frames = X.A.frames) : Inv (X.marked A2) pins σ H s :=
  ⟨⟨I.ok.mod, I.ok.kind, I.ok.glob, I.ok.blt, I.ok.above, I.ok.inj, I.ok.has, I.ok.cab, fun z => (by cases z), hf.trans I.ok.frames, I.ok.stk, I.ok.exf, I.ok.bs, I.ok.bsz, I.ok.noex, I.ok.exfs, I.ok.funs, I.ok.frf⟩, I.os, I.bare, I.base, I.loc, I.cell, I.free, I.freeC, I.pin, I.hok, I.len⟩
theorem Inv.unmarked {A2 : Around} (I : Inv (X.marked A2) pins σ H s) (ok : X.Ok) : Inv X pins σ H s := ⟨ok, I.os, I.bare, I.base, I.loc, I.cell, I.free, I.freeC, I.pin, I.hok, I.len⟩
end
theorem kitx_exc {K : PySem.W.Frag} {x C : Addr} {ox : Obj} {odo : Option Obj} (Z : ExcIs K C) : PySem.W.KitX K (.ref x) (.ref C) (fun h => PySem.W.InstAt h x ox C odo) where
  ty := fun _ _ _ I => I.type
  it := fun _ _ X _ => by
    obtain ⟨cd, hc⟩ := Option.isSome_iff_exists.mp Z.cl
    unfold PySem.W.clsIn at hc
    split at hc
    · rename_i ho
      intro A' Q' E' s' k q
      unfold isType loadHead
      exact wpAny_bind (wpAny_loadPart (k _ _ (X _ _ ho)) (wpAny_pure q))
    · cases hc
  ne := fun h tp dd its n sl X htp => by
    obtain ⟨cd, hc⟩ := Option.isSome_iff_exists.mp Z.cl
    refine Bool.eq_false_iff.mpr fun q => ?_
    have e : C = tp := Value.ref.inj (beq_iff_eq.mp q)
    subst e
    unfold PySem.W.clsIn at hc
    split at hc
    · rename_i ho
      have z := (X _ _ ho).symm.trans htp
      cases z
    · cases hc
  ca := fun X I k => exc_class X I Z.ga Z.gh (findObj_exc Z.cl Z.ca Z.gn Z.tk) Z.ob Z.be k
noncomputable def excH (o : Obj) : HO := .frz o (.ext fun _ => True)
structure ExcObj (o : Obj) (C : Addr) : Prop where
  cls : o.cls = .ref C
  dict : o.dict = none
  data : ∃ vs, o.data = .fields vs ∧ vs[2]? = some .none
theorem ExcObj.inst {o : Obj} {C : Addr} (x : ExcObj o C) {h : Heap} {a : Addr} (e : h.get? a = some o) : PySem.W.InstAt h a o C none := by
  obtain ⟨vs, d, _⟩ := x.data
  refine ⟨e, x.cls, ?_, ?_⟩
  · unfold PySem.W.notCls
    rw [d]
  · rw [x.dict]
    trivial
section
variable {X : Cx}
noncomputable def rIsiE (K : PySem.W.Frag) : List V → Hp → VK → Prop := fun xs H Q => ∃ (a : Addr) (o : Obj) (C : Addr) (c : V) (cv : Value) (b : Bool), xs = [.ref a, c] ∧ H a = some (excH o) ∧ ExcObj o C ∧ ExcIs K C ∧ (∀ u, RelV c u → u = cv) ∧ PySem.W.kitOne K (.ref C) cv = some b ∧ Q (.bl b) H
theorem call_isiE : CallR X (.builtin "isinstance") (rIsiE X.K) := by
  intro pins s σ H xs us Q I r h
  obtain ⟨a, o, C, c, cv, b, rfl, ha, eo, z, uc, e, q⟩ := h
  obtain ⟨u, v, rfl, ru, rv⟩ := vals2 r
  cases uc v rv
  cases ru
  have h1 : s.heap.get? a = some o := (I.hok a _ ha).1
  exact PySem.W.kia_one (kitx_exc (ox := o) (odo := none) z) I.kIn (eo.inst h1) e (fun y => nomatch y) fun tk => ⟨.bl b, H, I.tok tk, rfl, q⟩
end
end L2
end
section
set_option Elab.async false
set_option linter.all false
set_option maxRecDepth 100000
set_option maxHeartbeats 4000000
namespace L2
open PySem PySem.Spec PyProof.Rows
noncomputable def Sob (X : Cx) : Prop := ∃ (e C : Addr) (o : Obj), X.A.handled = some (.ref e) ∧ X.H₀ e = some (excH o) ∧ ExcObj o C
theorem turn_listH {P : Program} {w : World} {K : PySem.W.Frag} {tg : Expr} (a it : Addr) : TurnQ Sob P w K tg (Itl K a) [it] it (fun i h => h.IsListIter it a i) where
  obj := (turn_list (P := P) (w := w) (K := K) (tg := tg) a it).obj
  keep := (turn_list (P := P) (w := w) (K := K) (tg := tg) a it).keep
  item := by
    intro X hP hw hK hq i pins s σ H E I hf st hg
    subst hP hw hK
    obtain ⟨xs, x, hq, hx⟩ := hg
    obtain ⟨its, rv, p, hz⟩ := I.list hq
    obtain ⟨u, hu, ru⟩ := rv.get hx
    obtain ⟨f0, f1, f2, f3, f4, f5⟩ := hf it (by simp)
    refine wpAny_pyNext_list_item st p.isList (x := u) (by simpa using hu) fun h' st' sb => ?_
    have I1 : Inv X pins σ H { s with heap := h' } := I.turned (t' := s.toks) (fun b o hb e => (sb.2 b hb).trans e) f0 f1 f3 f4 f5
    obtain ⟨o, e, c, d⟩ := id st'
    exact ⟨u, rfl, go_of (s := { s with heap := h' }) e c d (by decide) ⟨x, H, I1, ru, ⟨rfl, fun ys hy => by rw [I.list_inj hy hq]; exact hx⟩, st', fun b hb => (hf b hb).1⟩⟩
  done := by
    intro X hP hw hK hq i pins s σ H E I hf st hg
    subst hP hw hK
    obtain ⟨xs, hq', hx⟩ := hg
    obtain ⟨its, rv, p, hz⟩ := I.list hq'
    obtain ⟨f0, f1, f2, f3, f4, f5⟩ := hf it (by simp)
    obtain ⟨e, C, o, h1, h2, h3⟩ := hq
    have he := I.base.frzs _ _ _ h2
    have hh : s.heap.get? e = some o := (I.hok e _ he).1
    obtain ⟨vs, d1, d2⟩ := h3.data
    have hl := rv.length
    have ne : e ≠ it := fun z => by rw [z, f0] at he; cases he
    exact next_end_h h1 hh d1 d2 ne st p.isList (by simp; omega) fun h' eb => ⟨rfl, I.turned (t' := s.toks) (fun b o hb e => eb b o hb e) f0 f1 f3 f4 f5⟩
  self := fun _ _ _ _ _ st h => wpAny_pyIter_listiter st h
section
variable {X : Cx} {sc : Scope} {x : Str} {px pos : Pos} {elt iter : Expr} {ifs : List Expr} {tt : TT} {te tl : TE}
theorem pe_lcH (hs' : Sob X) (ok : lcOk sc X.env.scope x X.N = true) (hnd : (x :: X.N).Nodup) (hl : PE X iter tl)
    (ht : ∀ C s H fp, PF (blk X sc x X.N C s H fp) ifs tt) (he : ∀ C s H fp, PE (blk X sc x X.N C s H fp) elt te)
    (hs : ∀ x, foldedSetIterable iter X.env x = pure x := by intro _; rfl) : PE X (.ListComp elt [⟨.Name x px, iter, ifs, 0⟩] sc pos) (tLc (iList X.K tl) tt te) := by
  intro pins s σ H Q I h
  have ok := LcOk.of ok
  rw [eval_ListComp]
  refine wpAny_comprehension_free (use := none) rfl hs (clos_of I ok) ok.kind ok.locs (thn (hl pins s σ H _ I h) fun v s1 ⟨y, H1, I1, r1, q1⟩ => ?_)
  obtain ⟨a, e, ⟨xs, hq⟩, q⟩ := q1
  subst e
  cases r1
  obtain ⟨its, rv, p, hz⟩ := I1.list hq
  refine wpAny_pyIter_list p.isList ?_
  have I2 : Inv X pins σ H1 { s1 with heap := s1.heap.push { cls := .type "list_iterator", data := .fields #[.ref a, .int 0 0] } } := I1.kept (t' := s1.toks) fun b o e => Heap.get?_push_of_some _ e
  refine lc_block (RR := fun acc C => compPost (model X.prog X.w) X.A X.xe none (EP X pins σ Q) acc C) (q := Sob) (fp := [s1.heap.objs.size]) I2 ok (fun _ _ h _ => h) rfl hnd (fun C => ?_) (turn_listH a s1.heap.objs.size) ⟨_, Heap.get?_push_size _ rfl, rfl, rfl⟩ (fun b hb => ?_) ht he q ?_
  · obtain ⟨e, C', o, h1, h2, h3⟩ := hs'
    exact ⟨e, C', o, h1, I2.base.frzs _ _ _ h2, h3⟩
  · have e : b = s1.heap.objs.size := by simpa using hb
    subst e
    exact I1.fpOk (Nat.le_refl _) (I1.hok.fresh (Nat.le_refl _))
  · intro D C ys H' s' m q hD I' fC hn
    exact ⟨m, hn, fun h' hs' => ⟨.ref D, _, I'.turned (t' := s'.toks) (it := C) (fun b o hb e => (hs'.2 b hb).trans e) fC.1 fC.2.1 fC.2.2.2.1 fC.2.2.2.2.1 fC.2.2.2.2.2, rfl, q D hD⟩⟩
noncomputable def rSumH (K : PySem.W.Frag) : List V → Hp → VK → Prop := fun xs H Q => ∃ (a : Addr) (ns : List Int), xs = [.ref a] ∧ SqL K H a (ns.map V.int) ∧ Q (.int ns.sum) H
end
end L2
end
section
set_option Elab.async false
set_option linter.all false
set_option maxRecDepth 100000
set_option maxHeartbeats 4000000
namespace L2
open PySem PySem.Spec PyProof.Rows PySem.SeqAt
section
variable {X : Cx}
theorem call_sumH (hs : Sob X) : CallR X (.builtin "sum") (rSumH X.K) := by
  intro pins s σ H xs us Q I r h
  obtain ⟨a, ns, rfl, hq, q⟩ := h
  obtain ⟨u, rfl, ru⟩ := vals1 r
  cases ru
  obtain ⟨its, rv, p, hz⟩ := I.list hq
  obtain ⟨e, C, o, h1, h2, h3⟩ := hs
  have he := I.base.frzs _ _ _ h2
  have hh : s.heap.get? e = some o := (I.hok e _ he).1
  obtain ⟨vs, d1, d2⟩ := h3.data
  have elt := Heap.lt_size hh
  have hl : its.length = ns.length := by rw [← rv.length, List.length_map]
  have alt : a < s.heap.objs.size := by
    obtain ⟨ob, z, _⟩ := p.isList
    exact Heap.lt_size z
  refine call_sum_walkG (wpAny_pyIter_list p.isList ?_)
  refine ⟨s.heap.objs.size, _, _, _, _, _, fun i => ns.getD i 0, rfl, walks_h (A := X.A.in1) (oe := o) h1 d1 d2 s.heap.objs.size a (Nat.ne_of_lt alt) (Nat.ne_of_lt elt) its.toArray, ⟨⟨_, Heap.get?_push_size _ rfl, rfl, rfl⟩, p.isList.push _, Heap.get?_push_of_some _ hh⟩, fun b hb => ?_, fun i v hv => ?_, fun h' tk t' hk => ?_⟩
  · show b < (s.heap.push _).objs.size
    rw [Heap.size_push]
    simp only [List.mem_cons, List.not_mem_nil, or_false] at hb
    rcases hb with rfl | rfl | rfl
    · exact Nat.lt_succ_self _
    · exact Nat.lt_succ_of_lt alt
    · exact Nat.lt_succ_of_lt elt
  · have hv : its[i]? = some v := by simpa using hv
    have hi : i < ns.length := by rw [← hl]; exact (List.getElem?_eq_some_iff.mp hv).1
    obtain ⟨w, hw, rw'⟩ := rv.get (show (ns.map V.int)[i]? = some (V.int ns[i]) by rw [List.getElem?_map, List.getElem?_eq_getElem hi]; rfl)
    rw [hv] at hw
    cases hw
    obtain ⟨t, rfl⟩ := rw'
    exact ⟨t, by show Value.int ns[i] t = Value.int (ns.getD i 0) t; rw [List.getD_eq_getElem?_getD, List.getElem?_eq_getElem hi]; rfl⟩
  · rw [preSum_getD]
    refine ⟨.int ns.sum, H, I.kept (h' := h') (t' := tk) fun b ob z => hk b ob (fun y => ?_) (Heap.get?_push_of_some _ z), ⟨t', ?_⟩, q⟩
    · rw [List.mem_singleton.mp y] at z
      exact absurd (Heap.lt_size z) (Nat.lt_irrefl _)
    · rw [List.take_of_length_le (by simp [hl])]
noncomputable def rIndexT : V → List V → Hp → VK → Prop := fun x vs H Q => ∃ (l : Addr) (bs : List Bool) (j : Nat), x = .ref l ∧ vs = [.bl true] ∧ H l = some (.lst (bs.map V.bl)) ∧ bs[j]? = some true ∧ (∀ m, m < j → bs[m]? = some false) ∧ bs.length ≤ 1000 ∧ Q (.int (j : Nat)) H
theorem mt_indexT : MtM X "list.index" rIndexT := by
  intro pins s σ H x vs v us Q I rx rv h
  obtain ⟨l, bs, j, rfl, rfl, hH, hj, hm, hz, q⟩ := h
  cases rx
  obtain ⟨u, rfl, ru⟩ := rv.one
  cases ru
  obtain ⟨z, its, n, r, hl, e⟩ := I.lstM hH
  have len : its.length = bs.length := by rw [← r.length, List.length_map]
  have at_ : ∀ (m : Nat) (b : Bool), bs[m]? = some b → its[m]? = some (Value.bool b) := fun m b hb => by
    obtain ⟨w, hw, rw'⟩ := r.get (show (bs.map V.bl)[m]? = some (V.bl b) by rw [List.getElem?_map, hb]; rfl)
    cases rw'
    exact hw
  have hji : j < its.length := (List.getElem?_eq_some_iff.mp (at_ j true hj)).1
  refine call_meets F.slot_list_index ⟨_, e, rfl⟩ F.entry_list_index (F.args_list_index_2 _ _) (list_indexAt l its.toArray n none #[] (.bool true) (fun y => y == .bool true) j (by simpa using hji) (by omega) ?_ fun m hm1 hm2 => ?_) ⟨e, fun y hy => ?_, ?_⟩
  · have := at_ j true hj
    have h2 : its[j] = .bool true := (List.getElem?_eq_some_iff.mp this).2
    simp [h2]
  · have := at_ m false (hm m hm2)
    have h2 : its[m] = .bool false := (List.getElem?_eq_some_iff.mp this).2
    simp [h2]
  · have hy : y ∈ its := by simpa using hy
    obtain ⟨i, hi, rfl⟩ := List.getElem_of_mem hy
    have hib : i < bs.length := by omega
    have h1 := at_ i bs[i] (List.getElem?_eq_getElem hib)
    have h2 : its[i] = .bool bs[i] := (List.getElem?_eq_some_iff.mp h1).2
    rw [h2]
    have := eqAt_V (A := X.A.in1) (s := s) (x := .bl true) (y := .bl bs[i]) rfl rfl rfl rfl
    have e2 : eqV (.bl bs[i]) (.bl true) = (Value.bool bs[i] == Value.bool true) := by cases bs[i] <;> rfl
    rw [e2] at this
    exact this
  · exact ⟨.int (j : Nat), H, I.kept (t' := s.toks + 1) (fun _ _ z => z), ⟨_, rfl⟩, q⟩
end
structure FnH (P : Program) (w : World) (K : PySem.W.Frag) (mg : Str → Option Value) (base : Heap) (k : Nat) (f : Addr) (fd : FuncData) (ps : List Str) (sp : Sp) : Prop where
  len : ∀ vs H Q E, sp vs H Q E → vs.length = ps.length
  run : ∀ (A : Around) (outer : List Env) (s : Shared) (H : Hp) (args : Args) (us : List Value) (vs : List V) (Q : VK) (e C : Addr) (o : Obj), A.handled = some (.ref e) → H e = some (excH o) → ExcObj o C → A.depth + 3 * k + 5 < recursionLimit → A.units + 16 * k + 200 < cLine →
    Env0 P w K mg base A outer s H → BindsTo s fd args (ps.zip us) → Vals vs us → sp vs H Q E0 → codeAny (model P w) A (.call (.ref f) args) (CR CX0 outer P w H s Q E0) s
noncomputable abbrev cxH (P : Program) (w : World) (K : PySem.W.Frag) (mg : Str → Option Value) (base : Heap) (N : List Str) (qual : Str) (scope : Scope) (f : Addr) (cd : Value) (A : Around) (outer : List Env) (s : Shared) (H : Hp) : Cx :=
  (cxOf CX0 P w K mg base N qual scope f cd { A with handled := none } outer s H E0).marked (A.deeper (envOfC qual scope s.heap.objs.size f cd))
theorem fnh_of {P : Program} {w : World} {K : PySem.W.Frag} {mg : Str → Option Value} {base : Heap} {k : Nat} {f : Addr} {name qual : Str} {st : Stmt} {fd : FuncData} {N ps : List Str} {sp : Sp} (F : Fun K name qual st f fd) (S : FnScope N ps (defScope st))
    (len : ∀ vs H Q E, sp vs H Q E → vs.length = ps.length)
    (hbody : ∀ (cd : Value) (A : Around) (outer : List Env) (s : Shared) (H : Hp) (vs : List V) (Q : VK), Sob (cxH P w K mg base N qual (defScope st) f cd A outer s H) → A.units + 3 + 16 * k + 200 < cLine → sp vs H Q E0 →
      ∃ t, PSs (cxH P w K mg base N qual (defScope st) f cd A outer s H) (defBody st) t ∧ t { nx := fun _ H' => Q .non H', rt := Q } (start N vs) H) :
    FnH P w K mg base (k + 1) f fd ps sp := by
  obtain ⟨oc, od, kV, doc, pm, an, cdv, ct, osl, rfl, lk, hcd⟩ := F.ex
  refine ⟨len, fun A outer s H args us vs Q e C o hh hHe eo hdp hun e0 hb r hsp => ?_⟩
  have hl := len _ _ _ _ hsp
  have KX : K.In s.heap := e0.mod.kin.keeps fun b o e => (e0.bs b o e).1
  have lim : s.heap.NoLimit := e0.mod.nolimit.keeps fun b o e => (e0.bs b o e).1
  have hkind : ∀ y ∈ ps.zip us, (defScope st).names.lookup y.1 = some .local ∨ ((defScope st).names.lookup y.1 = some .cell ∧ ((cellsFrom (s.heap.objs.size + 1) (defScope st).names []).lookup y.1).isSome = true) := fun ⟨n, v⟩ hy => by
    rcases S.par n (List.of_mem_zip hy).1 with q | q
    · exact .inl q
    · exact .inr ⟨q, PySem.W.cellsFrom_some _ _ _ (.inl q)⟩
  refine codeAny_call_function (by omega) (KX _ _ lk) rfl S.co S.gen rfl (PySem.W.codeRec_of KX hcd) (hb _ _ _ _ ?_)
  refine wpAny_newFunctionEnv_cells S.kind hkind fun env he s1 x => ?_
  subst he
  refine ⟨lim.keeps x.toInCall.keep, codeAny_func ?_⟩
  have e0' : Env0 P w K mg base { A with handled := none } outer s H := ⟨e0.frames, e0.mod, e0.bs, e0.bsz, e0.funs, e0.frf, e0.hok, e0.bare⟩
  have I0 : Inv (cxOf CX0 P w K mg base N qual (defScope st) f cdv { A with handled := none } outer s H E0) [] (start N vs) H s1 := inv_start S rfl e0' hl r x
  have I := I0.marked (A2 := A.deeper (envOfC qual (defScope st) s.heap.objs.size f cdv)) rfl
  obtain ⟨t, ht, hq⟩ := hbody cdv A outer s H vs Q ⟨e, C, o, hh, hHe, eo⟩ (by omega) hsp
  refine wpAny_mono (ht [] s1 (start N vs) H _ I hq) (fun fl s' hs => ?_) fun e s' hs => hs.elim
  have fin : ∀ {σ' : St} {H' : Hp} {v : V} {u : Value}, Inv (cxH P w K mg base N qual (defScope st) f cdv A outer s H) [] σ' H' s' → RelV v u → Q v H' → CE outer P w H s Q u s' :=
    fun {σ' H' v u} J rv q => ⟨v, H', J.os, J.bare, J.base, J.hok, rv, q⟩
  cases fl with
  | ret u =>
    obtain ⟨v, σ', H', J, rv, q⟩ := hs
    exact fin J rv q
  | next =>
    obtain ⟨σ', H', J, q⟩ := hs
    exact fin (v := V.non) (u := Value.none) J rfl q
  | brk =>
    obtain ⟨_, _, _, q⟩ := hs
    exact False.elim q
  | cont =>
    obtain ⟨_, _, _, q⟩ := hs
    exact False.elim q
section
variable {X : Cx}
noncomputable def tCallH (ex : Addr) (o : Obj) (sp : Sp) (t : TA) : TE := fun σ H Q => t σ H fun vs H1 => H1 ex = some (excH o) ∧ sp vs H1 Q E0
theorem pe_callH {k : Nat} {f : Addr} {fd : FuncData} {ps : List Str} {sp : Sp} {x : Str} {p pos : Pos} {e : Expr} {es : List Expr} {t : TA} {ex C : Addr} {o : Obj} (F : FnH X.prog X.w X.K X.mg X.base k f fd ps sp) (hh : X.A.handled = some (.ref ex)) (eo : ExcObj o C)
    (hdp : X.A.depth + 3 * k + 5 < recursionLimit) (hun : X.A.units + 16 * k + 200 < cLine) (hg : Gl X x) (hm : X.mg x = some (.ref f)) (hk : PySem.W.keepIn X.K (.ref f) = true) (hb : Binds X.K fd ps [])
    (ha : PA X (e :: es) t) (hdb : (x == ("__debug__" : Str)) = false := by decide) (he : starEach (e :: es) X.env = (false, eval e X.env) :: starEach es X.env := by rfl) (hpl : (backTo pos (starEach es X.env)).any (·.1) = false := by rfl) :
    PE X (.Call (.Name x p) (e :: es) [] pos) (tCallH ex o sp t) := by
  intro pins s σ H Q I h
  refine wpAny_Call_Name_kw (ld_glob I hg hm ?_ hdb)
  refine PySem.W.callWith_K (h₀ := X.base) I.ok.mod.kin hk (thn (ha pos pins s σ H _ I h) fun us s1 ⟨vs, H1, I1, r, q1, q2⟩ => ⟨I1.kIn, ?_⟩) he hpl
  have hl : us.length = ps.length := by rw [← r.length]; exact F.len _ _ _ _ q2
  refine wpAny_call (codeAny_mono (F.run X.A X.stack s1 H1 ⟨us, []⟩ us vs Q ex C o hh q1 eo hdp hun I1.env0 (by have := hb s1 us I1.kIn (by simpa using hl); simpa using this) r q2) fun r s' hq => ?_)
  cases r with
  | error e => exact hq.elim
  | ok fl =>
    cases fl with
    | ret u => exact I1.after hq
    | next => exact False.elim hq
    | brk => exact False.elim hq
    | cont => exact False.elim hq
end
end L2
end
section
set_option Elab.async false
set_option linter.all false
set_option maxRecDepth 100000
set_option maxHeartbeats 4000000
namespace L2
open PySem PySem.Spec PyProof.Rows
section
variable {prog : Program} {w : World} {A : Around} {E : Value → Shared → Prop} {s : Shared} {K : PySem.W.Frag}
theorem exc_match {a C W : Addr} {o : Obj} {Q : Bool → Shared → Prop} (X : K.In s.heap) (he : s.heap.get? a = some o) (hc : o.cls = .ref C) (hW : PySem.W.kitCls K (.ref C) (.ref W) = some true) (hB : PySem.W.mroIn K W (.type "BaseException") = some true)
    (h : Q true s) : wpAny (model prog w) A (excMatches (.ref a) (.ref W)) Q E s := by
  obtain ⟨hp, g, d, t, os⟩ := s
  obtain ⟨l1, l2, l3⟩ := PySem.W.kit_cls (M := model prog w) X hW
  have l4 := PySem.W.looks_mroIn (M := model prog w) X hB
  have l5 : PySem.W.Looks (model prog w) hp (typeOf (.ref a)) (.ref C) := by rw [← hc]; exact (PySem.W.Looks.ld he).andThen .now
  have f := tc_notTuple
  unfold excMatches isInstance
  refine wpAny_bind (wpAny_bind (l1.at (wpAny_of_eq f ?_)))
  rw [if_neg (by decide)]
  refine wpAny_bind (wpAny_pure ?_)
  refine wpAny_bind ?_
  rw [List.forIn_cons]
  unfold isExcClass
  refine wpAny_bind (wpAny_bind (wpAny_bind (l2.at ?_)))
  rw [if_pos rfl]
  refine l4.at ?_
  rw [if_neg (by decide)]
  refine wpAny_pure (wpAny_pure ?_)
  refine wpAny_bind (l5.at (wpAny_bind ?_))
  rw [List.forIn_cons]
  refine wpAny_bind (wpAny_bind (l3.at ?_))
  rw [if_pos rfl]
  refine wpAny_pure (wpAny_pure ?_)
  exact wpAny_pure h
end
section
variable {X : Cx} {pins : List (Addr × Obj)} {σ : St} {H : Hp} {s : Shared}
theorem Inv.forget {h' : Heap} {m' : Str → Option Value} {tk : Nat} (I : Inv X [] σ H s) (hpn : X.pn = []) (hns : h'.Ns X.env.locals m') (sb : Heap.SameBut X.env.locals s.heap h') : Inv X [] (List.replicate X.N.length none) H { s with heap := h', toks := tk } := by
  have kp : ∀ b o, b ≠ X.env.locals → s.heap.get? b = some o → h'.get? b = some o := fun b o n e => (sb.2 b n).trans e
  have nl : ∀ b ob, X.s₀.heap.get? b = some ob → b ≠ X.env.locals := fun b ob e => Nat.ne_of_lt (Nat.lt_of_lt_of_le (Heap.lt_size e) I.ok.above)
  refine ⟨I.ok, I.os, I.bare, ⟨fun b o e n hb hx => kp b o (nl b o e) (I.base.keep b o e n hb hx), fun b o e n hb hx => ?_, I.base.free, fun b o e hx => ?_, I.base.tups, I.base.frzs, I.base.tbls⟩, ⟨m', hns, fun i x v h1 h2 _ => ?_⟩, fun x c e => ?_, I.free, I.freeC, fun p hp => absurd hp (by rw [hpn]; simp), fun b u q => ?_, by simp⟩
  · obtain ⟨sl, e1⟩ := I.base.slot b o e n hb hx
    exact ⟨sl, kp b _ (nl b o e) e1⟩
  · obtain ⟨o', e1⟩ := I.base.there b o e hx
    exact ⟨o', kp b _ (nl b o e) e1⟩
  · rw [List.getElem?_replicate] at h2
    split at h2 <;> cases h2
  · obtain ⟨v, oc, e1, d1⟩ := I.cell x c e
    refine ⟨v, oc, kp c oc (fun z => ?_) e1, d1⟩
    obtain ⟨m, ⟨ol, es, ep, e2, d2, _⟩, _⟩ := I.loc
    rw [z, e2] at e1
    cases e1
    rw [d2] at d1
    cases d1
  · refine (I.hok b u q).stay (fun c v hc r => kp c v (fun z => ?_) r) (fun _ r => r) fun _ _ r => r
    have := I.free
    rcases hc with hc | hc
    · rw [← z, hc, q] at this; cases this
    · rw [← z, hc] at this; cases this
theorem caught {e : Value} {s2 : Shared} {E' : XK} {W : Addr} {i : Nat} {n xw : Str} {p4 p5 : Pos} {b0 : Stmt} {bs : List Stmt} {D : Ends} {pre : Addr → Hp → Prop} (I : Inv X [] σ H s) (hex : X.ex = []) (hpn : X.pn = []) (hst : X.stack = X.env :: X.outer) (hfr : X.env.frame = some X.env.locals)
    (hx : CXF X.prog X.w X.stack H s E' e s2) (hN : X.N.Nodup) (hi : X.N[i]? = some n) (hn : X.env.scope.names.lookup n = some .local) (hg : Gl X xw) (hm : X.mg xw = some (.ref W)) (hB : PySem.W.mroIn X.K W (.type "BaseException") = some true)
    (hE : ∀ cv dx H2, E' cv dx H2 → ∃ C, cv = .ref C ∧ dx = none ∧ PySem.W.kitCls X.K (.ref C) (.ref W) = some true ∧ pre C H2)
    (hs : ∀ (a C : Addr) (o : Obj) (H2 : Hp), ExcObj o C → pre C H2 → H2 a = none → ∃ t, PSs (X.marked (X.A.mark (some (.ref a)))) (b0 :: bs) t ∧ t { nx := fun _ _ => False, rt := D.rt } (σ.set i (some (.ref a))) (upd H2 a (excH o)))
    (hdb : (xw == ("__debug__" : Str)) = false := by decide) :
    wpAny (model X.prog X.w) X.A (noteFrame e X.env) (fun _ s3 => wpAny (model X.prog X.w) X.A (setFlight e none) (fun _ s4 => wpAny (model X.prog X.w) X.A (handleBy e X.env [.ExceptHandler (some (.Name xw p4)) (some n) (b0 :: bs) p5]) (SP X [] D) (fun _ _ => False) s4) (fun _ _ => False) s3) (fun _ _ => False) s2 := by
  obtain ⟨a, C, dx, H2, o, vs, rfl, os, bare, un, hok, ha, haH, he, hc, hdx, hd, h2, ht, hEv⟩ := hx
  obtain ⟨C', e1, e2, hW, hpre⟩ := hE _ _ _ hEv
  cases e1
  subst e2
  have I2 : Inv X [] σ H2 s2 := I.call' os un hok bare (fun b z => absurd z (by simp))
  have gone := I.gone hex ha
  refine lft_note (base := X.base) (env := X.env) (outer := X.outer) (by rw [← hst]; exact I2.ok.frames) (by rw [← hst]; exact I2.stack) hfr he hd ht fun h' T l => ?_
  have l' : Lft (frs X.stack) a o vs T s2.heap h' := by rw [hst]; exact l
  have I3 := I2.lft l' he hd haH gone fun p hp => absurd hp (by rw [hpn]; simp)
  have h1 : 1 < vs.size := by
    rcases ht with z | ⟨_, _, _, z, _⟩ <;> exact (Array.getElem?_eq_some_iff.mp z).1
  have eo : ExcObj { o with data := .fields (vs.setIfInBounds 1 (.ref T)) } C := ⟨hc, hdx, _, rfl, by rw [Array.getElem?_setIfInBounds_ne (by decide)]; exact h2⟩
  generalize ho3 : ({ o with data := .fields (vs.setIfInBounds 1 (.ref T)) } : Obj) = o3 at eo
  have g3 : h'.get? a = some o3 := by rw [← ho3]; exact l.exc
  have d3 : o3.data = .fields (vs.setIfInBounds 1 (.ref T)) := by rw [← ho3]
  have hmk : (X.A.mark (some (.ref a))).frames = X.A.frames := rfl
  have I3m := I3.marked hmk
  have hg' : Gl (X.marked (X.A.mark (some (.ref a)))) xw := hg
  refine wpAny_handleBy_cons (codeAny_handlers_test (ld_glob I3m hg' hm (exc_match I3.kIn g3 eo.cls hW hB ?_) hdb)) (by intro q; cases q)
  refine codeAny_handlers_suite_as ?_
  obtain ⟨oT, ts, t1, t2, t3⟩ := l.trc
  unfold setFlight
  refine wpAny_bind (wpAny_field g3 d3 (x := .ref T) (by simp [h1]) ?_)
  rw [if_pos (by simp)]
  refine wpAny_setField t1 t2 (Array.getElem?_eq_some_iff.mp t3).1 ?_
  have same : ∀ b u, h'.get? b = some u → (h'.update T (Obj.mapFields (·.setIfInBounds 3 ((none : Option Addr).elim Value.none fun f => rawInt f)))).get? b = some u := fun b u hb => by
    by_cases z : b = T
    · subst z
      rw [t1] at hb
      cases hb
      rw [Heap.get?_update_self _ t1 (Obj.isFreed_of_fields (Obj.data_mapFields t2 _))]
      exact congrArg some (mapF_same t2 t3)
    · rw [Heap.get?_update_other _ _ (Ne.symm z)]; exact hb
  have nloc : a ≠ X.env.locals := fun z => by
    obtain ⟨m, ⟨ol, es, ep, e2, d2, _⟩, _⟩ := I3.loc
    rw [← z, g3] at e2
    cases e2
    rw [d3] at d2
    cases d2
  have nfs : a ∉ X.fs := fun z => by
    obtain ⟨_, ob, e2, nf⟩ := I3.funs.mem z
    rw [g3] at e2
    cases e2
    exact nf _ d3
  have ncell : ∀ x c, X.env.cells.lookup x = some c → c ≠ a := fun x c ec z => by
    obtain ⟨v, oc, e2, d2⟩ := I3.cell x c ec
    rw [z, g3] at e2
    cases e2
    rw [d3] at d2
    cases d2
  have I4 := (I3m.kept (t' := s2.toks) same)
  have I4p := I4.pins_of (pins' := [(a, o3)]) fun p hp => by
    rw [List.mem_singleton.mp hp]
    exact ⟨same _ _ g3, haH, nloc, nfs, fun v z => by rw [d3] at z; cases z⟩
  refine store_ok (X := X.marked (X.A.mark (some (.ref a)))) (v := .ref a) I4p hN hi (.inl hn) rfl (fun s5 I5 => ?_) (.inr hn)
  have g5 : s5.heap.get? a = some o3 := (I5.pin (a, o3) (List.mem_append_right _ (List.mem_singleton.mpr rfl))).1
  have I5' := I5.pins_of (pins' := []) fun p hp => absurd hp (by simp)
  have I6 := I5'.trackN (o := excH o3) haH gone (Ne.symm nloc) ncell (fun p hp => absurd hp (by rw [show (X.marked (X.A.mark (some (.ref a)))).pn = [] from hpn]; simp)) ⟨g5, trivial, ⟨o3, g5⟩, fun _ _ _ _ => trivial⟩
  obtain ⟨t, hPS, hq⟩ := hs a C o3 H2 eo hpre haH
  refine wpAny_mono (hPS [] s5 _ _ _ I6 hq) (fun f s6 q => ?_) fun _ _ x => x.elim
  cases f with
  | ret u =>
    obtain ⟨v, σ', H', I7, rv, q⟩ := q
    have I7u := I7.unmarked I.ok
    obtain ⟨m, hns, _⟩ := I7u.loc
    refine wpAny_nameGoes hn hns (by rw [I.ok.kind]; rfl) fun h8 m8 n8 sb8 => ?_
    exact ⟨v, _, H', I7u.forget hpn n8 sb8, rv, q⟩
  | next => obtain ⟨_, _, _, q⟩ := q; exact q.elim
  | brk => obtain ⟨_, _, _, q⟩ := q; exact q.elim
  | cont => obtain ⟨_, _, _, q⟩ := q; exact q.elim
end
end L2
end
section
set_option Elab.async false
set_option linter.all false
set_option maxRecDepth 100000
set_option maxHeartbeats 4000000
namespace L2
open PySem PySem.Spec PyProof.Rows
noncomputable abbrev NTold : List Str := ["_law_deed", "_law_e"]
noncomputable abbrev toldCx (P : Program) (w : World) (K : PySem.W.Frag) (mg : Str → Option Value) (base : Heap) (st : Stmt) (ft : Addr) (cd : Value) (A : Around) (outer : List Env) (s : Shared) (H : Hp) : Cx := cxOf CX0 P w K mg base NTold "_law_told" (defScope st) ft cd A outer s H E0
section
variable {P : Program} {w : World} {K : PySem.W.Frag} {mg : Str → Option Value} {base : Heap} {A : Around} {outer : List Env} {s : Shared} {H : Hp}
noncomputable def xWant (K : PySem.W.Frag) (W : Addr) (pre : Addr → Hp → Prop) : XK := fun cv dx H2 => ∃ C, cv = .ref C ∧ dx = none ∧ PySem.W.kitCls K (.ref C) (.ref W) = some true ∧ pre C H2
theorem told_run {kd : Nat} {ft f W : Addr} {fdt : FuncData} {st : Stmt} {p1 p2 p3 p4 p5 p6 : Pos} {b0 : Stmt} {pre : Addr → Hp → Prop} {Q : VK} {args : Args} {pr : VK → XK → Prop} (F : Fun K "_law_told" "_law_told" st ft fdt) (S : FnScope NTold ["_law_deed"] (defScope st))
    (hbd : defBody st = [.Try [.Return (some (.Call (.Name "_law_deed" p1) [] [] p2)) p3] [.ExceptHandler (some (.Name "WantError" p4)) (some "_law_e") [b0] p5] [] [] p6])
    (hd1 : (defScope st).names.lookup ("_law_deed" : Str) = some .local) (he1 : (defScope st).names.lookup ("_law_e" : Str) = some .local) (hgW : ∀ cd, Gl (toldCx P w K mg base st ft cd A outer s H) "WantError")
    (mW : mg "WantError" = some (.ref W)) (hB : PySem.W.mroIn K W (.type "BaseException") = some true) (hr : Room (kd + 1) A) (e0 : Env0 P w K mg base A outer s H) (hb : BindsTo s fdt args [("_law_deed", .ref f)])
    (hD : DeedAt P w K mg base kd f s.heap H pr) (hfn : PySem.W.FnAt f s.heap) (hf0 : H f = none) (hpr : pr Q (xWant K W pre))
    (hs : ∀ (cd : Value) (a C : Addr) (o : Obj) (H2 : Hp), ExcObj o C → pre C H2 → H2 a = none → ∃ t, PSs ((toldCx P w K mg base st ft cd A outer s H).marked ((A.deeper (envOfC "_law_told" (defScope st) s.heap.objs.size ft cd)).mark (some (.ref a)))) [b0] t ∧
      t { nx := fun _ _ => False, rt := Q } [some (.ref f), some (.ref a)] (upd H2 a (excH o))) :
    codeAny (model P w) A (.call (.ref ft) args) (CR CX0 outer P w H s Q E0) s := by
  obtain ⟨oc, od, kV, doc, pm, an, cdv, ct, osl, rfl, lk, hcd⟩ := F.ex
  have KX : K.In s.heap := e0.mod.kin.keeps fun b o e => (e0.bs b o e).1
  have lim : s.heap.NoLimit := e0.mod.nolimit.keeps fun b o e => (e0.bs b o e).1
  refine codeAny_call_function hr.depth (KX _ _ lk) rfl S.co S.gen rfl (PySem.W.codeRec_of KX hcd) (hb _ _ _ _ ?_)
  refine wpAny_newFunctionEnv_cells S.kind (fun y hy => ?_) fun env he s1 x => ?_
  · rw [List.mem_singleton.mp hy]; exact .inl hd1
  subst he
  refine ⟨lim.keeps x.toInCall.keep, codeAny_func ?_⟩
  have I : Inv (toldCx P w K mg base st ft cdv A outer s H) [] [some (.ref f), none] H s1 := inv_start (vs := [.ref f]) (us := [.ref f]) S hr.hd e0 rfl (.cons rfl .nil) x
  have D0 : Ends := { nx := fun _ _ => False, rt := Q }
  have main : wpAny (model P w) (A.deeper (envOfC "_law_told" (defScope st) s.heap.objs.size ft cdv)) (execs (defBody st) (envOfC "_law_told" (defScope st) s.heap.objs.size ft cdv)) (SP (toldCx P w K mg base st ft cdv A outer s H) [] { nx := fun _ _ => False, rt := Q }) (fun _ _ => False) s1 := by
    rw [hbd]
    refine wpAny_execs_cons (thn (Q := SP (toldCx P w K mg base st ft cdv A outer s H) [] { nx := fun _ _ => False, rt := Q }) (wpAny_Try_except ?_) fun f s1 q => ?_)
    rotate_left
    · cases f with
      | next => obtain ⟨_, _, _, q⟩ := q; exact q.elim
      | ret v => exact q
      | brk => exact q
      | cont => exact q
    refine wpAny_execs_cons (wpAny_Return_some (wpAny_Call_Name_kw ?_))
    have hv := (pv (X := (toldCx P w K mg base st ft cdv A outer s H).nox) 0 (pos := p1) (x := "_law_deed") rfl (Or.inl hd1)) [] s1 [some (.ref f), none] H (fun v H' => v = .ref f ∧ H' = H) (I.wish _) ⟨_, rfl, rfl, rfl⟩
    refine wpAny_mono hv (fun u s2 hq => ?_) fun _ _ z => z.elim
    obtain ⟨v, H', I2, rv, e1, e2⟩ := hq
    subst e1
    subst e2
    cases rv
    have I2 := I2.unwish
    have kp : ∀ b o, s.heap.get? b = some o → H' b = none → ∃ sl, s2.heap.get? b = some { o with slots := sl } := fun b o q n => I2.base.any q n (fun z => absurd (show b ∈ ([] : List Addr) from z) (by simp))
    have fa : PySem.W.FnAt f s2.heap := by
      obtain ⟨oc, od, fd, sl, e⟩ := hfn
      obtain ⟨sl2, e2⟩ := kp f _ e hf0
      exact ⟨_, _, _, _, e2⟩
    refine PySem.W.callWith_F0 fa (wpAny_call (codeAny_mono (hD _ _ s2 Q (xWant K W pre) (hr.deeper _) I2.env0 kp hpr) fun r s3 hq => ?_))
    cases r with
    | error e => exact caught (b0 := b0) (bs := []) (D := { nx := fun _ _ => False, rt := Q }) (i := 1) I2 rfl rfl rfl rfl hq S.nd rfl he1 (hgW cdv) mW hB (fun _ _ _ z => z) fun a C o H2 eo hp hn => hs cdv a C o H2 eo hp hn
    | ok fl =>
      cases fl with
      | ret u =>
        obtain ⟨v, H3, I3, rv, q⟩ := I2.after hq
        exact ⟨v, _, H3, I3, rv, q⟩
      | next => exact False.elim hq
      | brk => exact False.elim hq
      | cont => exact False.elim hq
  refine wpAny_mono main (fun fl s' hs => ?_) fun _ _ x => x.elim
  cases fl with
  | ret u =>
    obtain ⟨v, σ', H', J, rv, q⟩ := hs
    exact ⟨v, H', J.os, J.bare, J.base, J.hok, rv, q⟩
  | next => obtain ⟨_, _, _, q⟩ := hs; exact q.elim
  | brk => obtain ⟨_, _, _, q⟩ := hs; exact q.elim
  | cont => obtain ⟨_, _, _, q⟩ := hs; exact q.elim
end
end L2
end
section
set_option Elab.async false
set_option linter.all false
set_option maxRecDepth 100000
set_option maxHeartbeats 4000000
namespace L2
open PySem PySem.Spec PyProof.Rows
noncomputable def told (wd : Addr → Str → Prop) (Q : VK) : Addr → Hp → Prop := fun C H2 => ∃ wrd, wd C wrd ∧ ∀ (t : Addr) (H' : Hp), (∀ b o, H2 b = some o → H' b = some o) → H' t = some (.tup [.str "refused", .str wrd]) → Q (.ref t) H'
structure ToldOk (P : Program) (w : World) (K : PySem.W.Frag) (mg : Str → Option Value) (base : Heap) (kw : Nat) (ft W : Addr) (fdt : FuncData) (wd : Addr → Str → Prop) : Prop where
  run : ∀ (kd : Nat) (A : Around) (outer : List Env) (s : Shared) (H : Hp) (f : Addr) (Q : VK) (pr : VK → XK → Prop), kw ≤ kd → Room (kd + 1) A → Env0 P w K mg base A outer s H → DeedAt P w K mg base kd f s.heap H pr → PySem.W.FnAt f s.heap → H f = none → pr Q (xWant K W (told wd Q)) →
    codeAny (model P w) A (.call (.ref ft) ⟨[.ref f], []⟩) (CR CX0 outer P w H s Q E0) s
section
variable {X : Cx}
noncomputable def tTold (P : Addr) (qual : Str) (wd : Addr → Str → Prop) (K : PySem.W.Frag) (W : Addr) (tb : XK → TE) : TE := fun σ H Q => Tbl H P qual ∧ ∀ H1, Grown P H H1 → Tbl H1 P qual → tb (xWant K W (told wd Q)) σ H1 Q
theorem flies_lam {qual : Str} {sc : Scope} {f c' : Addr} {A : Around} {outer : List Env} {s : Shared} {H : Hp} {E : XK} : Flies (lamCx X qual sc f c' A outer s H E) E := flies_of rfl rfl rfl rfl fun _ _ h => h
theorem pe_told {k kw : Nat} {ft W c P : Addr} {fdt : FuncData} {wd : Addr → Str → Prop} {params : Arguments} {body : Expr} {sc : Scope} {pl pt pos : Pos} {tb : XK → TE} (T : ToldOk X.prog X.w X.K X.mg X.base kw ft W fdt wd) (hg : Gl X "_law_told") (hm : X.mg "_law_told" = some (.ref ft)) (hk : PySem.W.keepIn X.K (.ref ft) = true)
    (hcode : X.env.code = .ref c) (hC : PySem.W.codeHdIn X.K c P = true) (hB : BmAt X.mg X.base) (hr : Room (k + 2) X.A) (hkw : kw ≤ k + 1) (ok : lamOk sc X.env.scope = true)
    (hb : ∀ (f c' : Addr) (A : Around) (outer : List Env) (s' : Shared) (H' : Hp) (E : XK), Room k (A.deeper (lamEnv X (X.env.qual ++ "<lambda>") sc f c' s')) → PE (lamCx X (X.env.qual ++ "<lambda>") sc f c' A outer s' H' E) body (tb E))
    (hbind : ∀ (cl : List (Str × Addr)) (pm ctv : Value) (c' : Addr), bindArgs (PySem.W.kla_fn "<lambda>" (X.env.qual ++ "<lambda>") params body sc cl pm (.ref c') ctv) ⟨[], []⟩ = pure [] := by intros; rfl) (hdef : defaultsOf params X.env = ([], []) := by rfl)
    (hs : starEach [.Lambda params body sc pl] X.env = [(false, eval (.Lambda params body sc pl) X.env)] := by rfl) :
    PE X (.Call (.Name "_law_told" pt) [.Lambda params body sc pl] [] pos) (tTold P (X.env.qual ++ "<lambda>") wd X.K W tb) := by
  intro pins s σ H Q I h
  obtain ⟨hT, h⟩ := h
  have ok := LamOk.of ok
  refine wpAny_Call_Name_kw (ld_glob I hg hm ?_ (by decide))
  refine PySem.W.callWith_K (h₀ := X.base) I.ok.mod.kin hk ?_ hs rfl
  rw [hs]
  refine Calls.spliced_cons (lam_make I hcode hC hT hB hdef (fun p hp e => I.ok.has p.1 (ok.free p hp e)) fun f c' ctv pm H1 s1 I1 hf hf0 hc' gr tb1 => Calls.spliced_nil ⟨I1.kIn, ?_⟩)
  have hD := lam_deed (k := k) I1 ok hf hf0 hc' (hbind _ _ _ _) fun A outer s' E hr' => hb f c' A outer s' H1 E hr'
  refine wpAny_call (codeAny_mono (T.run (k + 1) X.A X.stack s1 H1 f Q _ hkw hr I1.env0 hD ⟨_, _, _, _, hf⟩ hf0 (h H1 gr tb1)) fun r s' hq => ?_)
  cases r with
  | error e => exact hq.elim
  | ok fl =>
    cases fl with
    | ret u => exact I1.after hq
    | next => exact False.elim hq
    | brk => exact False.elim hq
    | cont => exact False.elim hq
end
end L2
end
section
set_option Elab.async false
set_option linter.all false
set_option maxRecDepth 100000
set_option maxHeartbeats 4000000
namespace L2
open PySem PySem.Spec PyProof.Rows
noncomputable def OnlyT (Ps : List Addr) (H : Hp) : Prop := ∀ b, H b = none ∨ (∃ o xs, H b = some (.frz o (.lst xs))) ∨ (b ∈ Ps ∧ H b = some (.tbl #[]))
theorem law_callT {P : Program} {w : World} {K : PySem.W.Frag} {mg mb : Str → Option Value} {CX : CXT} {k : Nat} {fa a : Addr} {fd : FuncData} {x : Str} {sp : Sp} {s₁ : Shared} {vs : List Value} {ns : List Int} (Ps : List Addr)
    (KX : K.In s₁.heap) (hns : s₁.heap.Ns mainGlobals mg) (hb : s₁.heap.Ns builtinsNs mb) (hbb : ∀ x : Str, x ≠ "__name__" → mb x = bootBuiltins x) (hlim : s₁.heap.NoLimit) (hg : s₁.gens = #[]) (hBm : BmAt mg s₁.heap) (hPs' : ∀ P ∈ Ps, ∃ c, PySem.W.CodeHd s₁.heap c P ∧ s₁.heap.get? P = some (PySem.W.tabObj #[])) (hKP : ∀ P ∈ Ps, K.lookup P = none)
    (ha : s₁.heap.get? a = some { cls := .type "list", data := .seq vs.toArray }) (hi : IntsAre vs ns) (hl : ns.length ≤ sizeLine) (hr : Room k callerA)
    (F : ∀ base : Heap, K.In base → base.Ns mainGlobals mg → BmAt mg base → FnOk P w K mg base CX k fa fd [x] sp) (hbind : ∀ (s : Shared) (u : Value), BindsTo s fd ⟨[u], []⟩ [(x, u)])
    (hsp : ∀ H : Hp, (∀ P ∈ Ps, H P = some (.tbl #[])) → SqL K H a (ns.map V.int) → sp [.ref a] H (fun v _ => v = .bl true) fun _ _ _ => False)
    (hCX : ∀ H e s', CX [] H s₁ (fun _ _ _ => False) e s' → False) :
    codeAny (model P w) callerA (.call (.ref fa) ⟨[.ref a], []⟩) (fun r s' => r = .ok (.ret (.bool true)) ∧ OldK s₁.heap s'.heap ∧ s'.os = s₁.os ∧ AllBare s'.gens) s₁ := by
  have hPs : ∀ P ∈ Ps, s₁.heap.get? P = some (PySem.W.tabObj #[]) := fun P hP => let ⟨_, _, e⟩ := hPs' P hP; e
  have rv := vals_ints hi
  have lenV := hi.length
  have core : ∀ H : Hp, OnlyT Ps H → (∀ P ∈ Ps, H P = some (.tbl #[])) → SqL K H a (ns.map V.int) → HOk P w H s₁.heap → (∀ b, H b ≠ none → b = a ∨ b ∈ Ps) → (H a ≠ none → K.lookup a = none) →
      codeAny (model P w) callerA (.call (.ref fa) ⟨[.ref a], []⟩) (fun r s' => r = .ok (.ret (.bool true)) ∧ OldK s₁.heap s'.heap ∧ s'.os = s₁.os ∧ AllBare s'.gens) s₁ := by
    intro H hO hP hS hok hA hK
    have base_of : ∀ {b : Addr} {o : Obj}, s₁.heap.get? b = some o → H b = none → (hidT s₁.heap H).get? b = some o := fun e n => hidT_get e n
    have noA : ∀ {b : Addr} {o : Obj}, s₁.heap.get? b = some o → (∀ us n, o.data ≠ .seq us n) → (∀ us, o.data ≠ .fields us) → H b = none := fun {b o} e d1 d2 => by
      cases q : H b with
      | none => rfl
      | some u =>
        rcases hA b (by rw [q]; simp) with z | z
        · rw [z, ha] at e; cases e; exact absurd rfl (d1 _ _)
        · rw [hPs b z] at e; cases e; exact absurd rfl (d2 _)
    have nsK : ∀ {b : Addr} {m : Str → Option Value}, s₁.heap.Ns b m → (hidT s₁.heap H).Ns b m := fun {b m} ⟨o, es, ep, e, d, r⟩ => ⟨o, es, ep, base_of e (noA e (fun _ _ z => by rw [d] at z; cases z) fun _ z => by rw [d] at z; cases z), d, r⟩
    have hKb : K.In (hidT s₁.heap H) := fun b o e => base_of (KX b o e) (by
      cases q : H b with
      | none => rfl
      | some u =>
        rcases hA b (by rw [q]; simp) with z | z
        · subst z
          rw [hK (by rw [q]; simp)] at e; cases e
        · rw [hKP b z] at e; cases e)
    have hBb : BmAt mg (hidT s₁.heap H) := by
      obtain ⟨bm, ob, b1, b2, b3, b4, b5, b6, b7⟩ := hBm
      exact ⟨bm, ob, b1, b2, b3, base_of b4 (noA b4 (fun _ _ z => by rw [b7] at z; cases z) fun _ z => by rw [b7] at z; cases z), b5, b6, b7⟩
    have hM : Mod K mg (hidT s₁.heap H) := ⟨hKb, nsK hns, ⟨mb, nsK hb, hbb⟩, let ⟨mc, h1, h2⟩ := hlim; ⟨mc, nsK h1, h2⟩⟩
    have e0 : Env0 P w K mg (hidT s₁.heap H) callerA [] s₁ H := ⟨rfl, hM, fun b o e => of_hidT e, Nat.le_of_eq (hidT_size _ _), trivial, fun b hb => absurd (show b ∈ ([] : List Addr) from hb) (by simp), hok, .of_eq hg⟩
    refine codeAny_mono ((F _ hKb (nsK hns) hBb).run callerA [] s₁ H ⟨[.ref a], []⟩ [.ref a] [.ref a] _ _ hr e0 (hbind s₁ (.ref a)) (.cons rfl .nil) (hsp H hP hS)) fun r s' h => ?_
    cases r with
    | error e => exact (hCX H e s' h).elim
    | ok fl =>
      cases fl with
      | next => exact False.elim h
      | brk => exact False.elim h
      | cont => exact False.elim h
      | ret u =>
        obtain ⟨v, H', os, bare, un, hok', r', q⟩ := h
        have q' : v = .bl true := q
        subst q'
        obtain rfl : u = Value.bool true := r'
        refine ⟨rfl, ⟨fun b o e => ?_, fun b o e => un.there b o e (by simp)⟩, os, bare⟩
        cases q : H b with
        | none => exact .inl (un.keep b o e q (fun z => absurd (show b ∈ ([] : List Addr) from z) (by simp)) (by simp))
        | some u =>
          rcases hO b with z | ⟨ob, xs, z⟩ | ⟨hb, z⟩
          · rw [q] at z; cases z
          · have z2 := un.frzs b ob _ z
            obtain ⟨e1, _⟩ := hok b _ z
            obtain ⟨e2, _⟩ := hok' b _ z2
            rw [e] at e1; cases e1
            exact .inl e2
          · obtain ⟨more, z2⟩ := un.tbls b _ z
            have e2 : s'.heap.get? b = some { cls := .none, data := .fields (#[] ++ more) } := hok' b _ z2
            obtain ⟨c, cd, eP⟩ := hPs' b hb
            rw [eP] at e
            cases e
            exact .inr (.inl ⟨(cd.tab eP).isCodeTable, rfl, #[], more, rfl, e2⟩)
  have aP : a ∉ Ps := fun z => by have := hPs a z; rw [ha] at this; cases this
  cases hk : K.lookup a with
  | some o =>
    have e := KX a o hk
    rw [ha] at e
    cases e
    refine core (fun b => if b ∈ Ps then some (.tbl #[]) else none) (fun b => ?_) (fun b hb => if_pos hb) (.inr ⟨_, vs.toArray, _, hk, rfl, rfl, rfl, by rw [List.size_toArray, lenV]; exact hl, by simpa using rv⟩) (fun b u z => ?_) (fun b z => ?_) fun z => absurd (if_neg aP) z
    · by_cases hb : b ∈ Ps
      · exact .inr (.inr ⟨hb, if_pos hb⟩)
      · exact .inl (if_neg hb)
    · by_cases hb : b ∈ Ps
      · have z' := (if_pos hb).symm.trans z
        cases z'
        exact hPs b hb
      · have z' := (if_neg hb).symm.trans z
        cases z'
    · by_cases hb : b ∈ Ps
      · exact .inr hb
      · exact absurd (if_neg hb) z
  | none =>
    refine core (fun b => if b ∈ Ps then some (.tbl #[]) else if b = a then some (.frz { cls := .type "list", data := .seq vs.toArray } (.lst (ns.map V.int))) else none) (fun b => ?_) (fun b hb => if_pos hb)
      (.inl (.inr ⟨{ cls := .type "list", data := .seq vs.toArray }, (if_neg aP).trans (if_pos rfl)⟩)) (fun b u z => ?_) (fun b z => ?_) fun _ => hk
    · by_cases hb : b ∈ Ps
      · exact .inr (.inr ⟨hb, if_pos hb⟩)
      · by_cases hb2 : b = a
        · exact .inr (.inl ⟨_, _, (if_neg hb).trans (if_pos hb2)⟩)
        · exact .inl ((if_neg hb).trans (if_neg hb2))
    · by_cases hb : b ∈ Ps
      · have z' := (if_pos hb).symm.trans z
        cases z'
        exact hPs b hb
      · by_cases hb2 : b = a
        · have z' := ((if_neg hb).trans (if_pos hb2)).symm.trans z
          cases z'
          subst hb2
          exact ⟨ha, by rw [List.length_map]; exact hl, vs, _, rv, ha⟩
        · have z' := ((if_neg hb).trans (if_neg hb2)).symm.trans z
          cases z'
    · by_cases hb : b ∈ Ps
      · exact .inr hb
      · by_cases hb2 : b = a
        · exact .inl hb2
        · exact absurd ((if_neg hb).trans (if_neg hb2)) z
theorem walk_ofT {l : PySem.W.OpenLaw} {n k : Nat} {q : Program} {loose : List Str} {XP : (Str → Option Value) → Heap → Prop} {YP : World → Heap → Prop} {d : DefRec} {K : Params → PySem.W.Frag} {CX : World → CXT} {sp : World → Sp} {x : Str} (Ps : List Addr)
    (hn : l.most = some n) (hn2 : n ≤ sizeLine) (hdf : d.params.defaults = []) (hr : Room k callerA) (hY : ∀ (w : World) (h : Heap), YP w h → (K w.params).In h)
    (hPs : ∀ (w : World) (h : Heap), YP w h → (K w.params).In h → ∀ P ∈ Ps, ∃ c, PySem.W.CodeHd h c P ∧ h.get? P = some (PySem.W.tabObj #[])) (hKP : ∀ (w : World), ∀ P ∈ Ps, (K w.params).lookup P = none)
    (F : ∀ (w : World) (mg : Str → Option Value) (fa : Addr) (h : Heap), (K w.params).In h → h.Ns mainGlobals mg → mg d.name = some (.ref fa) →
      ∃ fd : FuncData, (∀ (s : Shared) (u : Value), BindsTo s fd ⟨[u], []⟩ [(x, u)]) ∧
        ∀ base : Heap, (K w.params).In base → base.Ns mainGlobals mg → BmAt mg base → FnOk l.prog w (K w.params) mg base (CX w) k fa fd [x] (sp w))
    (hsp : ∀ (w : World) (H : Hp) (a : Addr) (ns : List Int), ns.length ≤ n → (∀ P ∈ Ps, H P = some (.tbl #[])) → SqL (K w.params) H a (ns.map V.int) → sp w [.ref a] H (fun v _ => v = .bl true) fun _ _ _ => False)
    (hCX : ∀ (w : World) (H : Hp) (s : Shared) (e : Value) (s' : Shared), CX w [] H s (fun _ _ _ => False) e s' → False) :
    PySem.W.WalkO q loose XP YP l.row.toRowW d [] (fun f vs => PySem.call f vs) := by
  refine Att.attach_call hn hdf fun w s₀ s₁ mg mb fa o pm cd doc a vs ns G Y ho hd hcd hmg hobj hints hlen hg => ?_
  have KX := hY w _ Y
  obtain ⟨fd, hb, hF⟩ := F w mg fa _ KX G.T.g hmg
  have hBm : BmAt mg s₁.heap := by
    obtain ⟨bm, ob, b1, b2, b3, b4, b5, b6⟩ := G.T.bmain
    refine ⟨bm, ob, b1, b2, fun z => ?_, b3, b4, b5, b6⟩
    obtain ⟨o, es, ep, e, d, _⟩ := G.T.g
    rw [z, e] at b3
    cases b3
    rw [d] at b6
    cases b6
  exact law_callT Ps KX G.T.g G.T.b G.T.builtins G.T.nolimit hg hBm (hPs w _ Y KX) (hKP w) hobj hints (Nat.le_trans hlen hn2) hr hF hb (fun H hP hS => hsp w H a ns hlen hP hS) fun H e s' => hCX w H s₁ e s'
section
variable {P : Program} {w : World} {K : PySem.W.Frag} {mg : Str → Option Value} {base : Heap}
theorem Fun.okX {x qual : Str} {st : Stmt} {f : Addr} {fd : FuncData} {N ps : List Str} {k : Nat} {sp : Sp} (F : Fun K x qual st f fd) (S : FnScope N ps (defScope st)) (len : ∀ vs H Q E, sp vs H Q E → vs.length = ps.length)
    (hbody : ∀ (cdv : Value) (A : Around) (outer : List Env) (s : Shared) (H : Hp) (vs : List V) (Q : VK) (E : XK), Room k (A.deeper (envOfC qual (defScope st) s.heap.objs.size f cdv)) → sp vs H Q E →
      ∃ t, PSs (cxOf (CXF P w) P w K mg base N qual (defScope st) f cdv A outer s H E) (defBody st) t ∧ t { nx := fun _ H' => Q .non H', rt := Q } (start N vs) H) : FnOk P w K mg base (CXF P w) (k + 1) f fd ps sp := by
  obtain ⟨oc, od, kV, doc, pm, an, cdv, ct, osl, rfl, lk, hcd⟩ := F.ex
  exact fn_of lk hcd S len fun A outer s H vs Q E hr hsp => hbody cdv A outer s H vs Q E hr hsp
end
theorem pe_no {X : Cx} {e : Expr} : PE X e (fun _ _ _ => False) := fun _ _ _ _ _ _ h => h.elim
end L2
end
section
set_option Elab.async false
set_option linter.all false
set_option maxRecDepth 100000
set_option maxHeartbeats 4000000
namespace L2
open PySem PySem.Spec PyProof.Rows
theorem ints_vals : ∀ {ns : List Int} {its : List Value}, Vals (ns.map V.int) its → IntsAre its ns
  | [], _, .nil => .nil
  | n :: r, _, .cons h t => by
    obtain ⟨tk, rfl⟩ := h
    exact .cons n tk (ints_vals t)
theorem map_getD (ns : List Int) : (List.range ns.length).map (fun i => ns.getD i 0) = ns := by
  apply List.ext_getElem
  · simp
  · intro i h1 h2
    simp at h1
    simp [List.getD_eq_getElem?_getD, h1]
theorem dedup_len : ∀ (l acc : List Int), (l.foldl step_dedup acc).length ≤ acc.length + l.length ∧ ((l.foldl step_dedup acc).length = acc.length + l.length ↔ (l.Nodup ∧ ∀ x ∈ l, x ∉ acc))
  | [], acc => by simp
  | y :: l, acc => by
    rw [List.foldl_cons]
    by_cases h : y ∈ acc
    · have e : step_dedup acc y = acc := by
        unfold step_dedup
        rw [if_pos (by rw [List.any_eq_true]; exact ⟨y, h, by simp⟩)]
      rw [e]
      have ih := dedup_len l acc
      refine ⟨by rw [List.length_cons]; omega, ⟨fun z => ?_, fun z => absurd h (z.2 y List.mem_cons_self)⟩⟩
      rw [List.length_cons] at z
      omega
    · have e : step_dedup acc y = acc ++ [y] := by
        unfold step_dedup
        rw [if_neg (by rw [List.any_eq_true]; rintro ⟨x, hx, hy⟩; exact h (by rw [← eq_of_beq hy]; exact hx))]
      rw [e]
      have ih := dedup_len l (acc ++ [y])
      rw [List.length_append, List.length_singleton] at ih
      refine ⟨by rw [List.length_cons]; omega, ⟨fun z => ?_, fun z => ?_⟩⟩
      · rw [List.length_cons] at z
        obtain ⟨n1, n2⟩ := ih.2.mp (by omega)
        refine ⟨List.nodup_cons.mpr ⟨fun hy => (n2 y hy) (by simp), n1⟩, fun x hx => ?_⟩
        rcases List.mem_cons.mp hx with rfl | hx
        · exact h
        · exact fun q => (n2 x hx) (List.mem_append_left _ q)
      · obtain ⟨n1, n2⟩ := z
        obtain ⟨n3, n4⟩ := List.nodup_cons.mp n1
        have := ih.2.mpr ⟨n4, fun x hx q => by
          rcases List.mem_append.mp q with q | q
          · exact n2 x (List.mem_cons_of_mem _ hx) q
          · rw [List.mem_singleton.mp q] at hx; exact n3 hx⟩
        rw [List.length_cons]
        omega
section
variable {X : Cx}
noncomputable def rSetI (K : PySem.W.Frag) : List V → Hp → VK → Prop := fun xs H Q => ∃ (a : Addr) (ns : List Int), xs = [.ref a] ∧ SqL K H a (ns.map V.int) ∧ ns.length ≤ 1000 ∧ ∀ (p : Addr) (S : Int → Bool) (n : Nat), H p = none → n ≤ ns.length → (n = ns.length ↔ ns.Nodup) → Q (.ref p) (upd H p (.set S n))
theorem call_setI (hc : X.calm = true) : CallR X (.type "set") (rSetI X.K) := by
  intro pins s σ H xs us Q I r h
  obtain ⟨a, ns, rfl, hq, hl, q⟩ := h
  obtain ⟨u, rfl, ru⟩ := vals1 r
  cases ru
  obtain ⟨its, rv, p, hz⟩ := I.list hq
  have hi := ints_vals rv
  have el : its.length = ns.length := by rw [← rv.length, List.length_map]
  have es : its.toArray.size = ns.length := by rw [List.size_toArray, el]
  have bd : its.toArray.size + 1 < scanBound := by rw [es]; exact Nat.lt_of_le_of_lt (Nat.add_le_add_right hl 1) (by decide)
  refine call_set_list (I.ok.hd hc) p.isList (by simpa using hi) bd fun h' tk hS hk => ?_
  have fr : H s.heap.objs.size = none := I.hok.fresh (Nat.le_refl _)
  have fm : firstMet (fun i => ns.getD i 0) its.toArray.size = ns.foldl step_dedup [] := by
    unfold firstMet
    rw [es, map_getD]
  have dl := dedup_len ns []
  rw [← fm] at dl
  refine ⟨.ref s.heap.objs.size, _, I.laid (h' := h') (t' := tk) (o := .set _ _) (fun b ob z => hk b ob (Heap.lt_size z) z) (Nat.le_refl _) hS, rfl, q _ _ _ fr ?_ ?_⟩
  · simpa using dl.1
  · have := dl.2
    simpa using this
theorem call_lenS : CallR X (.builtin "len") (fun xs H Q => ∃ (a : Addr) (S : Int → Bool) (n : Nat), xs = [V.ref a] ∧ H a = some (.set S n) ∧ Q (.int (n : Nat)) H) := by
  intro pins s σ H xs us Q I r h
  obtain ⟨a, S, n, rfl, ha, q⟩ := h
  obtain ⟨u, rfl, ru⟩ := vals1 r
  cases ru
  obtain ⟨o, es, ep, t, e, ex, d, _, _, sb, ft, rfl⟩ := (show s.heap.SetOf (intKind X.prog X.w) a S n from I.hok a _ ha)
  refine call_len_set e ex d ft (by have : scanBound = 4096 := rfl; omega) ?_
  exact ⟨.int (es.size : Nat), H, I.kept (t' := s.toks + 1 + 1) (fun _ _ z => z), ⟨_, rfl⟩, q⟩
end
end L2
end
section
set_option Elab.async false
set_option linter.all false
set_option maxRecDepth 100000
set_option maxHeartbeats 4000000
namespace L2
open PySem PySem.Spec PyProof.Rows
section
variable {prog : Program} {w : World} {A : Around} {E : Value → Shared → Prop} {s : Shared}
theorem sort_small {a : Addr} {vs : List Value} {n : Nat} {Q : PySem.Fin → Shared → Prop} (ho : s.heap.get? a = some (seqObj "list" vs.toArray n)) (h1 : vs.length ≤ 1)
    (h : ∀ (h' : Heap) (c : Nat), h'.get? a = some (seqObj "list" vs.toArray c) → (∀ b o, b ≠ a → s.heap.get? b = some o → h'.get? b = some o) → Q (.done (.ret .none)) { s with heap := h' }) :
    wpAny (model prog w) A (Builtin.«list.sort» ⟨[.ref a], []⟩) Q E s := by
  rw [list_sort_plain]
  have ha : a < s.heap.objs.size := Heap.lt_size ho
  have sl : 1 ≤ sizeLine := by decide
  refine wpAny_bind (listItems_at ho rfl ?_)
  refine wpAny_bind (listUpdate_at ho rfl ?_ (by rw [List.size_toArray]; omega) (Nat.zero_le _))
  obtain ⟨e1, ho1⟩ : ∃ e1, (s.heap.update a (Obj.mapSeq fun _ => #[])).get? a = some (seqObj "list" #[] e1) := ⟨_, get?_update_seq ho (fun _ => #[])⟩
  refine wpAny_bind (seqEpoch_at ho1 rfl ?_)
  refine wpAny_bind (wpAny_newTuple ?_ (by show vs.length ≤ _; omega))
  refine wpAny_bind (wpAny_newList ?_ (Nat.zero_le _))
  refine wpAny_holding ?_
  have ho6 : (((s.heap.update a (Obj.mapSeq fun _ => #[])).push (seqObj "tuple" vs.toArray 0)).push (seqObj "list" #[] 0)).get? a = some (seqObj "list" #[] e1) :=
    Heap.get?_push_of_some _ (Heap.get?_push_of_some _ ho1)
  show wpAny (model prog w) A _ Q E { s with heap := ((s.heap.update a (Obj.mapSeq fun _ => #[])).push (seqObj "tuple" vs.toArray 0)).push (seqObj "list" #[] 0) }
  dsimp only
  have h2 : vs.toArray.size < 2 := by rw [List.size_toArray]; omega
  rw [if_pos h2, if_pos h2]
  refine wpAny_bind (wpAny_pure ?_)
  rw [StateT.run_pure]
  refine wpAny_bind (wpAny_pure ?_)
  dsimp only
  refine wpAny_bind (seqEpoch_at ho6 rfl ?_)
  have eo : ((vs.toArray.zip vs.toArray).map (·.2)) = vs.toArray := by
    apply Array.toList_inj.mp
    match vs, h1 with
    | [], _ => simp
    | [_], _ => simp
  have eo' : (arrOf (SortSt.mk' general' (vs.toArray.zip vs.toArray) #[] 7 none)).map (·.2) = vs.toArray := eo
  rw [eo']
  refine wpAny_bind (listUpdate_at ho6 rfl ?_ (Nat.zero_le _) (by rw [List.size_toArray]; omega))
  simp only [bne_self_eq_false, Bool.false_eq_true, if_false]
  refine wpAny_pure (h _ _ (get?_update_seq ho6 fun _ => vs.toArray) fun b o hb e => ?_)
  rw [Heap.get?_update_ne _ _ _ _ hb]
  refine Heap.get?_push_of_some _ (Heap.get?_push_of_some _ ?_)
  rw [Heap.get?_update_ne _ _ _ _ hb]
  exact e
end
section
variable {X : Cx}
theorem keys_vals {H : Hp} {es : Array DictEntry} {kvs : List (List Key × V)} {acc : Array Value} (h5 : es.size = kvs.length) (h7 : ∀ (i : Nat) (p : List Key × V), kvs[i]? = some p → ∃ b, es[i]?.map (·.key) = some (.ref b) ∧ H b = some (.tup (p.1.map kV)))
    (hacc : ItemsOf (fun i v => es[i]?.map (·.key) = some v) acc es.size) : ∃ ys : List V, Vals ys acc.toList ∧ ys.length = kvs.length ∧ ∀ (i : Nat) p, kvs[i]? = some p → ∃ b, ys[i]? = some (V.ref b) ∧ H b = some (.tup (p.1.map kV)) := by
  have addr : ∀ i : Nat, i < kvs.length → ∃ b, acc[i]? = some (.ref b) ∧ ∀ p, kvs[i]? = some p → H b = some (.tup (p.1.map kV)) := fun i hi => by
    obtain ⟨b, e1, e2⟩ := h7 i kvs[i] (by simp [hi])
    have hi' : i < acc.size := by rw [hacc.1, h5]; exact hi
    have : es[i]?.map (·.key) = some acc[i] := hacc.2 i acc[i] (by simp [hi'])
    rw [e1] at this
    refine ⟨b, by rw [Array.getElem?_eq_getElem hi', ← Option.some.inj this], fun p hp => ?_⟩
    rw [List.getElem?_eq_getElem hi] at hp
    rw [← Option.some.inj hp]
    exact e2
  have vals : ∀ l : List Value, (∀ v ∈ l, ∃ b, v = Value.ref b) → Vals (l.map fun v => match v with | .ref b => V.ref b | _ => V.non) l := by
    intro l
    induction l with
    | nil => intro _; exact .nil
    | cons v r ih =>
      intro hv
      obtain ⟨b, rfl⟩ := hv v List.mem_cons_self
      exact .cons rfl (ih fun w hw => hv w (List.mem_cons_of_mem _ hw))
  refine ⟨_, vals _ fun v hv => ?_, by rw [List.length_map, Array.length_toList, hacc.1, h5], fun i p hp => ?_⟩
  · obtain ⟨i, hi, rfl⟩ := List.getElem_of_mem hv
    have hi' : i < kvs.length := by
      have : i < acc.size := by simpa using hi
      rw [hacc.1, h5] at this
      exact this
    obtain ⟨b, e1, _⟩ := addr i hi'
    refine ⟨b, ?_⟩
    rw [← Array.getElem?_toList, List.getElem?_eq_getElem hi] at e1
    exact Option.some.inj e1
  · have hi : i < kvs.length := (List.getElem?_eq_some_iff.mp hp).1
    obtain ⟨b, e1, e2⟩ := addr i hi
    refine ⟨b, ?_, e2 p hp⟩
    rw [List.getElem?_map, Array.getElem?_toList, e1]
    rfl
end
end L2
end
section
set_option Elab.async false
set_option linter.all false
set_option maxRecDepth 100000
set_option maxHeartbeats 4000000
namespace L2
open PySem PySem.Spec PyProof.Rows PySem.AutoSeq1
section
variable {X : Cx}
end
end L2
end
section
set_option Elab.async false
set_option linter.all false
set_option maxRecDepth 100000
set_option maxHeartbeats 4000000
namespace HT
open PySem PySem.Spec PyProof.Rows
section
variable {prog : Program} {w : World} {A : Around} {E : Value → Shared → Prop} {s : Shared}
theorem getItem_tuple_whole {t sl : Addr} {items : Array Value} {vl vu : Value} {lo hi : Option Int} {Q : Value → Shared → Prop} (ht : IsTup s.heap t items) (hs : s.heap.IsSliceOf sl vl vu .none) (pl : IsPart vl lo) (pu : IsPart vu hi)
    (hw : sIx items.size 0 lo = 0 ∧ sIx items.size items.size hi = items.size)
    (h : Q (.ref t) s) : wpAny (model prog w) A (getItem (.ref t) (.ref sl)) Q E s := by
  obtain ⟨os, hos, hcs, hds⟩ := id hs
  have hTs : s.TypeIs (.ref sl) "slice" := ⟨os, hos, hcs⟩
  unfold getItem
  try with_reducible refine wpAny_holding ?_
  first | refine wpAny_bind (wpAny_pure ?_) | skip
  refine wpAny_bind (wpAny_sequenceKey ht.typeIs (by decide) ?_)
  refine wpAny_bind (wpAny_callSpecial?_slot (name := Str.ofString "__getitem__") ht.typeIs PyProof.Rows.slot_tuple_getitem
    (wpAny_call_entry PyProof.Rows.slot_tuple_getitem ht.typeIs entry_tuple_getitem ?_ (args_tuple_getitem _ _)))
  show wpAny _ _ (Builtin.Tuple.tupleItemsOf (.ref t) >>= _) _ _ s
  refine wpAny_bind (tupleItemsOf_ ht ?_)
  refine wpAny_bind (wpAny_typeOf hTs ?_)
  rw [if_pos (by decide)]
  refine wpAny_bind (sliceApplied_gen hs pl pu ?_)
  have hyes : (((sIx items.size 0 lo : Nat) : Int) == 0 && (1 : Int) == 1 && (sIx items.size items.size hi - sIx items.size 0 lo) == items.size) = true := by
    rw [hw.1, hw.2]
    simp
  show wpAny _ _ (if (((sIx items.size 0 lo : Nat) : Int) == 0 && (1 : Int) == 1 && (sIx items.size items.size hi - sIx items.size 0 lo) == items.size) = true then _ else _) _ _ s
  rw [if_pos hyes]
  unfold Builtin.Tuple.tupleIsExact
  refine wpAny_bind (wpAny_bind (wpAny_typeOf ht.typeIs (wpAny_pure ?_)))
  rw [if_pos (by decide)]
  refine wpAny_bind (wpAny_rule ?_)
  exact wpAny_pure ⟨_, rfl, wpAny_pure h⟩
end
end HT
namespace L2
open PySem PySem.Spec PyProof.Rows
section
variable {X : Cx}
theorem sl_tupA : SlR X (fun x lo hi H Q => ∃ a xs, x = .ref a ∧ SqT X.K H a xs ∧ ((HT.sIx xs.length 0 lo = 0 ∧ HT.sIx xs.length xs.length hi = xs.length) → Q (.ref a) H) ∧
    (¬ (HT.sIx xs.length 0 lo = 0 ∧ HT.sIx xs.length xs.length hi = xs.length) → ∀ p, H p = none → Q (.ref p) (upd H p (.tup (cutV xs lo hi))))) := by
  intro pins s σ H x v vl vu lo hi sl Q I rx hs pl pu h
  obtain ⟨a, xs, rfl, hx, q1, q2⟩ := h
  by_cases hw : HT.sIx xs.length 0 lo = 0 ∧ HT.sIx xs.length xs.length hi = xs.length
  · cases rx
    obtain ⟨its, r, ht, hz⟩ := I.tuple hx
    have hlen : its.toArray.size = xs.length := by rw [List.size_toArray]; exact r.length.symm
    exact ⟨"tuple", _, PyProof.Rows.slot_tuple_getitem.lookup, ht.typeIs, HT.getItem_tuple_whole ht hs pl pu (by rw [hlen]; exact hw) ⟨.ref a, H, I, rfl, q1 hw⟩⟩
  · exact sl_tup pins s σ H _ v vl vu lo hi sl Q I rx hs pl pu ⟨a, xs, rfl, hx, hw, q2 hw⟩
theorem strs_of : ∀ {ys : List Str} {us : List Value}, Vals (ys.map V.str) us → StrsAre us ys
  | [], us, r => by rw [List.map_nil] at r; cases r; exact .nil
  | y :: ys, us, r => by
    rw [List.map_cons] at r
    cases r with
    | cons r1 r2 =>
      obtain ⟨t, rfl⟩ := r1
      exact .cons y t (strs_of r2)
end
end L2
end
section
set_option Elab.async false
set_option linter.all false
set_option maxRecDepth 100000
set_option maxHeartbeats 1000000
namespace HT
open PySem PySem.Spec PyProof.Rows
noncomputable def lexS : List Str → List Str → Bool
  | [], [] => false
  | [], _ :: _ => true
  | _ :: _, [] => false
  | x :: xs, y :: ys => if x = y then lexS xs ys else decide (x.cps.toList < y.cps.toList)
theorem strs_len : ∀ {vs : List Value} {ns : List Str}, StrsAre vs ns → vs.length = ns.length
  | _, _, .nil => rfl
  | _, _, .cons _ _ h => by rw [List.length_cons, List.length_cons, strs_len h]
section
open PySem.SeqAt
open PySem.AutoSeq1 (wpAny_loadPart')
open PySem.MeetsSeq PySem.MeetsSeq2 PySem.MeetsSeq3
theorem rcLt_str (A : Around) (s : Shared) (a : Str) (t : Tok) (c : Str) (u : Tok) (prog : Program) (w : World) (E : Value → Shared → Prop) (Q : Value → Shared → Prop) (h : Q (.bool (decide (a.cps.toList < c.cps.toList))) s) :
    wpAny (model prog w) A (richCompare .Lt (.str a t) (.str c u)) Q E s :=
  (PyProof.Rows.lt_str h : wpAny (model prog w) A (compareOp .Lt (.str a t) (.str c u)) Q E s)
theorem tuple_lt_strs (l b : Addr) (items items2 : Array Value) (n n2 : Nat) (dd dd2 : Option Addr) (sl sl2 : Array (Option Value)) (ns ms : List Str) (hi : StrsAre items.toList ns) (hj : StrsAre items2.toList ms) :
    Meets (Builtin.«tuple.__lt__» ⟨[.ref l, .ref b], []⟩)
      (fun _ R s => s.heap.get? l = some { cls := .type "tuple", dict := dd, data := .seq items n, slots := sl } ∧ s.heap.get? b = some { cls := .type "tuple", dict := dd2, data := .seq items2 n2, slots := sl2 } ∧
        R (.ok (.ret (.bool (lexS ns ms)))) s) :=
  .of_wp fun prog w A R s h => by
    obtain ⟨hp, g, d, tk, os⟩ := s; obtain ⟨hl, hb, h⟩ := h
    have f2 := AutoSeq1.sub_tuple_tuple
    have z1 : items.size = ns.length := by rw [← strs_len hi]; simp
    have z2 : items2.size = ms.length := by rw [← strs_len hj]; simp
    wp_walk using wpAny_loadPart' hl, wpAny_loadPart' hb, wpAny_forIn_list _ (fun rest b s' => b.1 = none ∧ s' = ⟨hp, g, d, tk, os⟩ ∧ ∃ (vs ws : List Value) (ns' ms' : List Str), rest = vs.zip ws ∧
      StrsAre vs ns' ∧ StrsAre ws ms' ∧ ns'.length + items2.size = ms'.length + items.size ∧ R (.ok (.ret (.bool (lexS ns' ms')))) ⟨hp, g, d, tk, os⟩) _
    case turn =>
      rintro ⟨y, x⟩ rest b s' ⟨hb', rfl, vs, ws, ns', ms', hz, hvi, hwi, hlen, hR⟩
      cases hvi with
      | nil => rw [List.zip_nil_left] at hz; cases hz
      | cons a t hvi' =>
        cases hwi with
        | nil => rw [List.zip_nil_right] at hz; cases hz
        | cons c u hwi' =>
          rw [List.zip_cons_cons] at hz
          injection hz with hyx hrest
          injection hyx with hy hx
          subst hy hx
          have hR : R (.ok (.ret (.bool (if a = c then lexS _ _ else decide (a.cps.toList < c.cps.toList))))) ⟨hp, g, d, tk, os⟩ := hR
          simp only [List.length_cons] at hlen
          refine wpAny_bind (EqAt.str_str (A := A.in1) (s := ⟨hp, g, d, tk, os⟩) a t c u prog w _ _ ?_)
          by_cases e : a = c
          · rw [if_pos e] at hR
            rw [beq_iff_eq.mpr e]
            wp_walk
            exact ⟨rfl, rfl, _, _, _, _, hrest, hvi', hwi', by omega, hR⟩
          · rw [if_neg e] at hR
            rw [beq_eq_false_iff_ne.mpr e]
            have hri := rcLt_str A.in1 ⟨hp, g, d, tk, os⟩ a t c u prog w
            wp_walk using hri
            exact ⟨_, rfl, by simpa using hR⟩
    case fin =>
      rintro ⟨b1, b2⟩ s' ⟨hb', rfl, vs, ws, ns', ms', hz, hvi, hwi, hlen, hR⟩
      simp only at hb'
      subst hb'
      have hv : lexS ns' ms' = decide (items.size < items2.size) := by
        cases hvi with
        | nil =>
          cases hwi with
          | nil =>
            simp only [List.length_nil] at hlen
            exact (decide_eq_false (by omega)).symm
          | cons c u hw =>
            simp only [List.length_nil, List.length_cons] at hlen
            exact (decide_eq_true (by omega)).symm
        | cons a t hv =>
          cases hwi with
          | nil =>
            simp only [List.length_nil, List.length_cons] at hlen
            exact (decide_eq_false (by omega)).symm
          | cons c u hw =>
            rw [List.zip_cons_cons] at hz
            cases hz
      rw [hv] at hR
      wp_walk
      exact ⟨_, rfl, by simpa [Builtin.Tuple.tupleCompareSizes] using hR⟩
    case h =>
      exact ⟨rfl, rfl, items.toList, items2.toList, ns, ms, rfl, hi, hj, by omega, h⟩
end
section
variable {prog : Program} {w : World} {A : Around} {E : Value → Shared → Prop} {s : Shared}
theorem lt_tupStrs {l b : Addr} {items items2 : Array Value} {ns ms : List Str} {Q : Value → Shared → Prop} (hl : IsTup s.heap l items) (hb : IsTup s.heap b items2) (hi : StrsAre items.toList ns) (hj : StrsAre items2.toList ms)
    (hu : A.units < cLine) (h : Q (.bool (lexS ns ms)) s) : wpAny (model prog w) A (compareOp .Lt (.ref l) (.ref b)) Q E s := by
  obtain ⟨⟨cls, dd, data, sl⟩, ho, hc, n, hd⟩ := id hl
  obtain ⟨⟨cls2, dd2, data2, sl2⟩, ho2, hc2, n2, hd2⟩ := id hb
  simp only at hc hd hc2 hd2
  subst hc hd hc2 hd2
  exact richCompare_meets_room (op := .Lt) ⟨_, ho, rfl⟩ ⟨_, ho2, rfl⟩ PySem.F.slot_tuple_lt PySem.F.entry_tuple_lt (PySem.F.args_tuple_lt_2 _ _) (tuple_lt_strs l b items items2 n n2 dd dd2 sl sl2 ns ms hi hj)
    ⟨ho, ho2, show Value.bool (lexS ns ms) ≠ Value.notImplemented ∧ Q (.bool (lexS ns ms)) s from ⟨(fun x => nomatch x), h⟩⟩ hu
theorem keyLt_gen {l b : Addr} {items items2 : Array Value} {ns ms : List Str} {Q : Bool → Shared → Prop} (hl : IsTup s.heap l items) (hb : IsTup s.heap b items2) (hi : StrsAre items.toList ns) (hj : StrsAre items2.toList ms)
    (hu : A.units < cLine) (h : Q (lexS ns ms) s) : wpAny (model prog w) A (keyLt' general' (.ref l) (.ref b)) Q E s := by
  have e : keyLt' general' (.ref l) (.ref b) = oneLt' false (.ref l) (.ref b) := rfl
  rw [e]
  exact PySem.W.kat_one _ _ (lt_tupStrs hl hb hi hj hu h)
theorem keyLt_one {l b : Addr} {items items2 : Array Value} {ns ms : List Str} {Q : Bool → Shared → Prop} (hl : IsTup s.heap l items) (hb : IsTup s.heap b items2) (hi : StrsAre items.toList ns) (hj : StrsAre items2.toList ms)
    (hu : A.units < cLine) (h : Q (lexS ns ms) s) : wpAny (model prog w) A (keyLt' oneType' (.ref l) (.ref b)) Q E s := by
  rw [keyLt'_oneType, oneLt'_eq]
  obtain ⟨⟨cls, dd, data, sl⟩, ho, hc, n, hd⟩ := id hl
  obtain ⟨⟨cls2, dd2, data2, sl2⟩, ho2, hc2, n2, hd2⟩ := id hb
  simp only at hc hd hc2 hd2
  subst hc hd hc2 hd2
  dsimp only
  rw [if_pos rfl]
  refine wpAny_bind (wpAny_cRoomFor hu ?_)
  refine wpAny_bind (wpAny_callSpecialIfBound?_slot (name := Str.ofString "__lt__") hl.typeIs PySem.F.slot_tuple_lt (call_meets PySem.F.slot_tuple_lt ⟨_, ho, rfl⟩ PySem.F.entry_tuple_lt (PySem.F.args_tuple_lt_2 _ _) (tuple_lt_strs l b items items2 n n2 dd dd2 sl sl2 ns ms hi hj) ⟨ho, ho2, ?_⟩))
  show wpAny (model prog w) A (truthOfDropped (.bool (lexS ns ms))) Q E s
  unfold truthOfDropped
  exact wpAny_truthy_bool h
theorem keyLt_tup {k : Bool} {l b : Addr} {items items2 : Array Value} {ns ms : List Str} {Q : Bool → Shared → Prop} (hl : IsTup s.heap l items) (hb : IsTup s.heap b items2) (hi : StrsAre items.toList ns) (hj : StrsAre items2.toList ms)
    (hu : A.units < cLine) (h : Q (lexS ns ms) s) : wpAny (model prog w) A (keyLt' (tuples' k) (.ref l) (.ref b)) Q E s := by
  obtain ⟨o1, e1, c1, n1, d1⟩ := hl
  obtain ⟨o2, e2, c2, n2, d2⟩ := hb
  refine PySem.W.kat_lt e1 d1 e2 d2 ?_
  have z1 : items.size = ns.length := by rw [← strs_len hi]; simp
  have z2 : items2.size = ms.length := by rw [← strs_len hj]; simp
  have go : ∀ (i : Nat) (vs ws : List Value) (ns' ms' : List Str), StrsAre vs ns' → StrsAre ws ms' → ns'.length + items2.size = ms'.length + items.size → Q (lexS ns' ms') s → PySem.W.KatLex prog w A k (decide (items.size < items2.size)) Q (vs.zip ws) i s := by
    intro i vs ws ns' ms' hvi
    induction hvi generalizing i ws ms' with
    | nil =>
      intro hwi hl hq
      have e : lexS [] ms' = decide (items.size < items2.size) := by
        cases hwi with
        | nil => exact (decide_eq_false (by simp at hl; omega)).symm
        | cons c u hw => exact (decide_eq_true (by simp at hl; omega)).symm
      rw [e] at hq
      rw [List.zip_nil_left]
      exact hq
    | @cons a t vs0 ys0 hv ih =>
      intro hwi hl hq
      cases hwi with
      | nil =>
        have e : lexS (a :: ys0) [] = decide (items.size < items2.size) := (decide_eq_false (by simp at hl; omega)).symm
        rw [e] at hq
        rw [List.zip_nil_right]
        exact hq
      | cons c u hw =>
        rw [List.zip_cons_cons]
        refine SeqAt.EqAt.str_str a t c u _ _ _ _ ?_
        have hq : Q (if a = c then lexS _ _ else decide (a.cps.toList < c.cps.toList)) s := hq
        by_cases e : a = c
        · rw [if_pos e] at hq
          rw [beq_iff_eq.mpr e, if_pos rfl]
          exact ih _ _ _ hw (by simp at hl; omega) hq
        · rw [if_neg e] at hq
          rw [beq_eq_false_iff_ne.mpr e, if_neg (by decide)]
          cases hb : (k && i == 0) with
          | true => exact oneLt_str hq
          | false => exact PySem.W.kat_one _ _ (lt_str hq)
  exact go 0 _ _ _ _ hi hj (by omega) h
end
end HT
end
section
set_option Elab.async false
set_option linter.all false
set_option maxRecDepth 100000
set_option maxHeartbeats 1000000
namespace HT
open PySem PySem.Spec PyProof.Rows
section
variable {prog : Program} {w : World} {A : Around} {E : Value → Shared → Prop} {s : Shared}
noncomputable def TupS (h : Heap) (v : Value) (ns : List Str) : Prop := ∃ (l : Addr) (items : Array Value), v = .ref l ∧ IsTup h l items ∧ StrsAre items.toList ns
theorem firsts_of {h : Heap} : ∀ (vs : List Value) (ks : List (List Str)) {s : Shared} {Q : List (Option Value) → Shared → Prop}, s.heap = h → Paired (TupS h) vs ks →
    (∀ fs : List (Option Value), (∀ f ∈ fs, f = none ∨ ∃ x t, f = some (.str x t)) → Q fs s) → wpAny (model prog w) A (List.mapM firstOfTuple' vs) Q E s
  | [], _, s, Q, _, _, k => by rw [List.mapM_nil]; exact wpAny_pure (k [] (fun _ z => by cases z))
  | v :: vs, _, s, Q, e, .cons ⟨l, items, e1, e2, e3⟩ r, k => by
    subst e
    subst e1
    rw [List.mapM_cons, PySem.W.kas_first_eq]
    obtain ⟨o, ho, hc, n, hd⟩ := id e2
    refine wpAny_bind (wpAny_bind (wpAny_typeOf e2.typeIs ?_))
    rw [if_neg (by decide)]
    refine wpAny_bind (listItems_at ho hd (wpAny_pure ?_))
    refine wpAny_bind (firsts_of vs _ rfl r fun fs hf => wpAny_pure (k _ fun f hm => ?_))
    rcases List.mem_cons.mp hm with rfl | hm
    · cases q : items.toList with
      | nil => exact .inl (by rw [← Array.getElem?_toList, q]; rfl)
      | cons x r' =>
        rw [q] at e3
        cases e3 with
        | cons y t _ => exact .inr ⟨y, t, by rw [← Array.getElem?_toList, q]; rfl⟩
    · exact hf f hm
theorem tup_mem {h : Heap} : ∀ {vs : List Value} {ks : List (List Str)}, Paired (TupS h) vs ks → ∀ v ∈ vs, ∃ (l : Addr) (items : Array Value), v = .ref l ∧ IsTup h l items ∧ ∃ ns, StrsAre items.toList ns
  | _, _, .nil, _, hv => by cases hv
  | _, _, .cons ⟨l, items, e1, e2, e3⟩ r, v, hv => by
    rcases List.mem_cons.mp hv with rfl | hv
    · exact ⟨l, items, e1, e2, _, e3⟩
    · exact tup_mem r v hv
theorem kind_of {vs : List Value} {ks : List (List Str)} {Q : SortKind → Shared → Prop} (r : Paired (TupS s.heap) vs ks) (q1 : Q general' s) (q2 : Q oneType' s) (q3 : ∀ b, Q (tuples' b) s) : wpAny (model prog w) A (keyKind' vs.toArray) Q E s := by
  rw [keyKind'_eq, Array.mapM_eq_mapM_toList]
  refine wpAny_bind (wpAny_map (firsts_of vs ks rfl r fun fs hf => ?_))
  by_cases c1 : (fs.toArray.all fun x => x.isSome) = true
  · rw [if_pos c1]
    refine wpAny_bind (wpAny_rule ?_)
    rw [oneTypeOnly'_eq, Array.mapM_eq_mapM_toList]
    have hs : ∀ v ∈ (Array.filterMap id fs.toArray).toList, ∃ x t, v = Value.str x t := fun v hv => by
      rw [Array.toList_filterMap] at hv
      obtain ⟨f, hm, e⟩ := List.mem_filterMap.mp hv
      rcases hf f hm with rfl | ⟨x, t, rfl⟩
      · cases e
      · exact ⟨x, t, (Option.some.inj e).symm⟩
    refine wpAny_bind (wpAny_bind (wpAny_map (PySem.W.kas_mapM (r := .type "str") _ (fun v hv Q' q => ?_) ?_)))
    · obtain ⟨x, t, rfl⟩ := hs v hv
      exact wpAny_typeOf (typeIs_str _ _ _) q
    · cases hl : (Array.filterMap id fs.toArray).toList with
      | nil => exact wpAny_pure (wpAny_pure (q3 _))
      | cons v r =>
        have e : ((List.map (fun _ => Value.type "str") (v :: r)).toArray.all fun x => x == Value.type "str") = true := by simp
        show wpAny _ _ (pure (if ((List.map (fun _ => Value.type "str") (v :: r)).toArray.all fun x => x == Value.type "str") = true then some (Value.type "str") else none)) _ _ _
        rw [if_pos e]
        exact wpAny_pure (wpAny_pure (q3 _))
  · rw [if_neg c1]
    by_cases c2 : (fs.toArray[0]?.bind id).isSome = true
    · rw [if_pos c2]
      exact wpAny_pure q1
    · rw [if_neg c2, oneTypeOnly'_eq, Array.mapM_eq_mapM_toList]
      refine wpAny_bind (wpAny_bind (wpAny_map (PySem.W.kas_mapM (r := .type "tuple") _ (fun v hv Q' q => ?_) ?_)))
      · obtain ⟨l, items, e1, e2, e3⟩ := tup_mem r v hv
        subst e1
        exact wpAny_typeOf e2.typeIs q
      · have fin : ∀ o : Option Value, Q (if o.isSome = true then oneType' else general') s := fun o => by split <;> assumption
        split
        · exact wpAny_pure (wpAny_pure (fin _))
        · exact wpAny_pure (wpAny_pure (fin _))
noncomputable def ev {α : Type} (lt : Nat → Nat → Bool) : PySem.W.KasT α → α
  | .ret a => a
  | .ask i j k => ev lt (k (lt i j))
noncomputable def Rng {α : Type} (n : Nat) (P : α → Prop) : PySem.W.KasT α → Prop
  | .ret a => P a
  | .ask i j k => i < n ∧ j < n ∧ ∀ b, Rng n P (k b)
theorem wp_ev {α : Type} {cmp : Nat → Nat → (Bool → Shared → Prop) → Shared → Prop} {lt : Nat → Nat → Bool} {n : Nat} {P : α → Prop} {Q : α → Shared → Prop} {s : Shared} (hc : ∀ i j (C : Bool → Shared → Prop), i < n → j < n → C (lt i j) s → cmp i j C s) :
    ∀ t : PySem.W.KasT α, Rng n P t → (P (ev lt t) → Q (ev lt t) s) → PySem.W.KasT.kasWp cmp t Q s
  | .ret a, h, q => q h
  | .ask i j k, h, q => hc i j _ h.1 h.2.1 (wp_ev hc (k (lt i j)) (h.2.2 _) q)
theorem rng_ev {α : Type} {n : Nat} {P : α → Prop} {lt : Nat → Nat → Bool} : ∀ t : PySem.W.KasT α, Rng n P t → P (ev lt t)
  | .ret a, h => h
  | .ask i j k, h => rng_ev (k (lt i j)) (h.2.2 _)
theorem rng_bind {α β : Type} {n : Nat} {P : β → Prop} {f : α → PySem.W.KasT β} : ∀ t : PySem.W.KasT α, Rng n (fun a => Rng n P (f a)) t → Rng n P (t.bind f)
  | .ret a, h => h
  | .ask i j k, h => ⟨h.1, h.2.1, fun b => rng_bind (k b) (h.2.2 b)⟩
theorem rng_mono {α : Type} {n : Nat} {P P' : α → Prop} (m : ∀ a, P a → P' a) : ∀ t : PySem.W.KasT α, Rng n P t → Rng n P' t
  | .ret a, h => m a h
  | .ask i j k, h => ⟨h.1, h.2.1, fun b => rng_mono m (k b) (h.2.2 b)⟩
noncomputable def Pm (n : Nat) (p : Array Nat) : Prop := p.Perm (List.range n).toArray
theorem Pm.lt {n : Nat} {p : Array Nat} (h : Pm n p) (h0 : 0 < n) (i : Nat) : p.getD i 0 < n := by
  by_cases hi : i < p.size
  · have m : p[i] ∈ (List.range n).toArray := h.mem_iff.mp (Array.getElem_mem hi)
    rw [Array.getD_eq_getD_getElem?, Array.getElem?_eq_getElem hi]
    simpa using m
  · rw [Array.getD_eq_getD_getElem?, Array.getElem?_eq_none (by omega)]
    exact h0
theorem Pm.rev {n : Nat} {p : Array Nat} (h : Pm n p) (i j : Nat) : Pm n (PySem.W.kas_rev p i j) := (mirror_perm p i j _).trans h
theorem Pm.bub {n : Nat} {p : Array Nat} (h : Pm n p) (i j : Nat) : Pm n (bubble p i j) := (bubble_perm p i j).trans h
theorem rng_asc {n : Nat} (h0 : 0 < n) {p : Array Nat} (h : Pm n p) : ∀ (f a : Nat), Rng n (fun _ => True) (PySem.W.kas_asc p f a)
  | 0, _ => trivial
  | f + 1, a => by
    show Rng n _ (PySem.W.KasT.ask _ _ _)
    refine ⟨h.lt h0 _, h.lt h0 _, fun b => ?_⟩
    cases b with
    | true => trivial
    | false => exact rng_asc h0 h f (a + 1)
theorem rng_desc {n : Nat} (h0 : 0 < n) : ∀ (f : Nat) (p : Array Nat) (a q : Nat), Pm n p → Rng n (fun r => Pm n r.1) (PySem.W.kas_desc f p a q)
  | 0, p, _, _, h => h
  | f + 1, p, a, q, h => by
    show Rng n _ (PySem.W.KasT.ask _ _ _)
    refine ⟨h.lt h0 _, h.lt h0 _, fun b => ?_⟩
    cases b with
    | true =>
      show Rng n _ (if q > 0 then _ else _)
      split
      · exact rng_desc h0 f _ _ _ (h.rev _ _)
      · exact rng_desc h0 f _ _ _ h
    | false =>
      refine ⟨h.lt h0 _, h.lt h0 _, fun b => ?_⟩
      cases b with
      | true => exact h
      | false => exact rng_desc h0 f _ _ _ h
theorem rng_tail3 {n : Nat} (h0 : 0 < n) {p : Array Nat} (h : Pm n p) (a m : Nat) : Rng n (fun r => Pm n r.2) (PySem.W.kas_tail3 a m p) :=
  rng_bind _ (rng_mono (fun _ _ => h.rev _ _) _ (rng_asc h0 (h.rev 0 a) _ _))
theorem rng_part {n : Nat} (h0 : 0 < n) {p : Array Nat} (h : Pm n p) (a m : Nat) : Rng n (fun r => Pm n r.2) (PySem.W.kas_descPart a m p) := by
  refine rng_bind _ (rng_mono (fun r hr => ?_) _ (rng_desc h0 _ _ _ _ h))
  show Rng n _ (if _ then _ else _)
  split
  · exact rng_tail3 h0 (hr.rev _ _) _ _
  · exact rng_tail3 h0 hr _ _
theorem rng_count {n : Nat} (h0 : 0 < n) {p : Array Nat} (h : Pm n p) (m : Nat) : Rng n (fun r => Pm n r.2) (PySem.W.kas_count m p) := by
  refine rng_bind _ (rng_mono (fun a _ => ?_) _ (rng_asc h0 h _ _))
  show Rng n _ (if _ then _ else _)
  split
  · exact h
  · split
    · refine ⟨h.lt h0 _, h.lt h0 _, fun b => ?_⟩
      cases b with
      | true => exact h
      | false => exact rng_part h0 (h.rev _ _) _ _
    · exact rng_part h0 h _ _
theorem rng_place {n : Nat} (h0 : 0 < n) {p : Array Nat} (h : Pm n p) (k : Nat) : ∀ (f l r : Nat), Rng n (fun _ => True) (PySem.W.kas_place p k f l r)
  | 0, _, _ => trivial
  | f + 1, l, r => by
    rw [PySem.W.kas_place.eq_def]
    show Rng n _ (if _ then _ else _)
    split
    · trivial
    · refine ⟨h.lt h0 _, h.lt h0 _, fun b => ?_⟩
      cases b with
      | true => exact rng_place h0 h k f _ _
      | false => exact rng_place h0 h k f _ _
theorem rng_bin {n : Nat} (h0 : 0 < n) : ∀ (f : Nat) (p : Array Nat) (k : Nat), Pm n p → Rng n (Pm n) (PySem.W.kas_bin f p k)
  | 0, p, _, h => h
  | f + 1, p, k, h => rng_bind (f := fun l => PySem.W.kas_bin f (bubble p k (k - l)) (k + 1)) _ (rng_mono (fun l _ => rng_bin h0 f _ _ (h.bub _ _)) _ (rng_place h0 h k _ _ _))
theorem rng_sort {n : Nat} (h0 : 0 < n) : Rng n (Pm n) (PySem.W.kas_sort n) := by
  refine rng_bind _ (rng_mono (fun r hr => ?_) _ (rng_count h0 (Array.Perm.refl _) n))
  show Rng n _ (if _ then _ else _)
  split
  · exact rng_bin h0 _ _ _ hr
  · exact hr
end
end HT
end
section
set_option Elab.async false
set_option linter.all false
set_option maxRecDepth 100000
set_option maxHeartbeats 1000000
namespace L2
open PySem PySem.Spec PyProof.Rows HT
noncomputable def srt (ks : List (List Str)) : List Nat := (HT.ev (fun i j => HT.lexS (ks.getD i []) (ks.getD j [])) (PySem.W.kas_sort ks.length)).toList
theorem srt_perm {ks : List (List Str)} (h : 0 < ks.length) : (srt ks).Perm (List.range ks.length) := by
  have := HT.rng_ev (lt := fun i j => HT.lexS (ks.getD i []) (ks.getD j [])) _ (HT.rng_sort h)
  exact Array.Perm.toList this
section
variable {prog : Program} {w : World} {A : Around} {E : Value → Shared → Prop} {s : Shared}
theorem tup_at {h : Heap} {vs : List Value} {ks : List (List Str)} (r : Paired (TupS h) vs ks) {i : Nat} (hi : i < ks.length) : ∃ (l : Addr) (items : Array Value), vs.getD i .none = .ref l ∧ IsTup h l items ∧ StrsAre items.toList (ks.getD i []) := by
  have hl : vs.length = ks.length := Paired.length r
  have hv : vs[i]? = some vs[i] := by simp [hl, hi]
  obtain ⟨k, e1, l, items, e2, e3, e4⟩ := paired_at r hv
  refine ⟨l, items, ?_, e3, ?_⟩
  · rw [List.getD_eq_getElem?_getD, hv]; exact e2
  · rw [List.getD_eq_getElem?_getD, e1]; exact e4
theorem sort_many {a : Addr} {vs : List Value} {ks : List (List Str)} {n : Nat} {Q : PySem.Fin → Shared → Prop} (ho : s.heap.get? a = some (seqObj "list" vs.toArray n)) (h2 : 2 ≤ vs.length) (h64 : vs.length < 64) (hu : A.units < cLine) (r : Paired (TupS s.heap) vs ks)
    (h : ∀ (h' : Heap) (c : Nat), h'.get? a = some (seqObj "list" ((srt ks).map fun i => vs.getD i .none).toArray c) → (∀ b o, b ≠ a → s.heap.get? b = some o → h'.get? b = some o) → Q (.done (.ret .none)) { s with heap := h' }) :
    wpAny (model prog w) A (Builtin.«list.sort» ⟨[.ref a], []⟩) Q E s := by
  rw [list_sort_plain]
  have ha : a < s.heap.objs.size := Heap.lt_size ho
  have sl : 64 ≤ sizeLine := by decide
  have hl : vs.length = ks.length := Paired.length r
  refine wpAny_bind (listItems_at ho rfl ?_)
  refine wpAny_bind (listUpdate_at ho rfl ?_ (by rw [List.size_toArray]; omega) (Nat.zero_le _))
  obtain ⟨e1, ho1⟩ : ∃ e1, (s.heap.update a (Obj.mapSeq fun _ => #[])).get? a = some (seqObj "list" #[] e1) := ⟨_, get?_update_seq ho (fun _ => #[])⟩
  refine wpAny_bind (seqEpoch_at ho1 rfl ?_)
  refine wpAny_bind (wpAny_newTuple ?_ (by show vs.length ≤ _; omega))
  refine wpAny_bind (wpAny_newList ?_ (Nat.zero_le _))
  refine wpAny_holding ?_
  have ho6 : (((s.heap.update a (Obj.mapSeq fun _ => #[])).push (seqObj "tuple" vs.toArray 0)).push (seqObj "list" #[] 0)).get? a = some (seqObj "list" #[] e1) :=
    Heap.get?_push_of_some _ (Heap.get?_push_of_some _ ho1)
  have kp : ∀ b o, b ≠ a → s.heap.get? b = some o → (((s.heap.update a (Obj.mapSeq fun _ => #[])).push (seqObj "tuple" vs.toArray 0)).push (seqObj "list" #[] 0)).get? b = some o := fun b o hb e => by
    refine Heap.get?_push_of_some _ (Heap.get?_push_of_some _ ?_)
    rw [Heap.get?_update_ne _ _ _ _ hb]
    exact e
  show wpAny (model prog w) A _ Q E { s with heap := ((s.heap.update a (Obj.mapSeq fun _ => #[])).push (seqObj "tuple" vs.toArray 0)).push (seqObj "list" #[] 0) }
  generalize (((s.heap.update a (Obj.mapSeq fun _ => #[])).push (seqObj "tuple" vs.toArray 0)).push (seqObj "list" #[] 0)) = h6 at ho6 kp
  dsimp only
  have h2' : ¬ vs.toArray.size < 2 := by rw [List.size_toArray]; omega
  rw [if_neg h2', if_neg h2']
  have r6 : Paired (TupS h6) vs ks := Paired.mapP r fun v k ⟨l, items, q1, ⟨o, q2, q3, q4⟩, q5⟩ => ⟨l, items, q1, ⟨o, kp l o (fun z => by
    rw [z, ho] at q2
    have e : Value.type "list" = Value.type "tuple" := by rw [← q3, ← Option.some.inj q2]
    exact absurd e (by decide)) q2, q3, q4⟩, q5⟩
  have main : ∀ κ : SortKind, (∀ (i j : Nat) (C : Bool → Shared → Prop), i < ks.length → j < ks.length → C (lexS (ks.getD i []) (ks.getD j [])) { s with heap := h6 } → wpAny (model prog w) A (keyLt' κ (vs.getD i .none) (vs.getD j .none)) C (fun _ _ => False) { s with heap := h6 }) →
      PySem.W.kasC (model prog w) A E sortRuns' (fun _ x s' => s' = { s with heap := h6 } ∧ failedOf x = none ∧ (arrOf x).map (·.2) = ((srt ks).map fun i => vs.getD i .none).toArray) (SortSt.mk' κ (vs.toArray.zip vs.toArray) #[] 7 none) { s with heap := h6 } := fun κ hc => by
    have e0 : SortSt.mk' κ (vs.toArray.zip vs.toArray) #[] 7 none = PySem.W.kas_st κ (pairsOf vs) (List.range vs.length).toArray := by
      unfold PySem.W.kas_st
      have : vs.length = (pairsOf vs).size := by unfold pairsOf; simp
      rw [this, PySem.W.kas_range]
      rfl
    rw [e0]
    refine PySem.W.kas_runs (G := fun p s' => s' = { s with heap := h6 } ∧ p.toList = srt ks) h2 h64 (fun p' st' s' z1 z2 z3 z => ⟨z.1, z3, ?_⟩) ?_
    · rw [z2, Array.map_map, ← z.2]
      apply Array.toList_inj.mp
      rw [Array.toList_map]
      refine List.map_congr_left fun i _ => ?_
      show (PySem.W.kas_item (pairsOf vs) i).2 = _
      rw [PySem.W.kas_item_eq]
    · rw [hl, ← PySem.W.kas_ask_eq]
      exact HT.wp_ev (n := ks.length) (lt := fun i j => lexS (ks.getD i []) (ks.getD j [])) (fun i j C hi hj q => hc i j C hi hj q) _ (HT.rng_sort (by omega)) fun _ => ⟨rfl, rfl⟩
  refine wpAny_bind (wpAny_mono (kind_of (Q := fun κ s' => s' = { s with heap := h6 } ∧ ∀ (i j : Nat) (C : Bool → Shared → Prop), i < ks.length → j < ks.length → C (lexS (ks.getD i []) (ks.getD j [])) { s with heap := h6 } → wpAny (model prog w) A (keyLt' κ (vs.getD i .none) (vs.getD j .none)) C (fun _ _ => False) { s with heap := h6 })
    (s := { s with heap := h6 }) r6 ⟨rfl, fun i j C hi hj q => ?_⟩ ⟨rfl, fun i j C hi hj q => ?_⟩ fun b => ⟨rfl, fun i j C hi hj q => ?_⟩) (fun κ s' hκ => ?_) fun _ _ z => z)
  · obtain ⟨l1, i1, e1', t1, s1⟩ := tup_at r6 hi
    obtain ⟨l2, i2, e2', t2, s2⟩ := tup_at r6 hj
    rw [e1', e2']
    exact keyLt_gen t1 t2 s1 s2 hu q
  · obtain ⟨l1, i1, e1', t1, s1⟩ := tup_at r6 hi
    obtain ⟨l2, i2, e2', t2, s2⟩ := tup_at r6 hj
    rw [e1', e2']
    exact keyLt_one t1 t2 s1 s2 hu q
  · obtain ⟨l1, i1, e1', t1, s1⟩ := tup_at r6 hi
    obtain ⟨l2, i2, e2', t2, s2⟩ := tup_at r6 hj
    rw [e1', e2']
    exact keyLt_tup t1 t2 s1 s2 hu q
  · obtain ⟨rfl, hc⟩ := hκ
    refine wpAny_bind (wpAny_mono (main κ hc) (fun x s' hx => ?_) fun _ _ z => z)
    obtain ⟨x1, x⟩ := x
    obtain ⟨rfl, hf, hx⟩ := hx
    refine wpAny_bind (seqEpoch_at ho6 rfl ?_)
    have hx : (arrOf x).map (·.2) = ((srt ks).map fun i => vs.getD i .none).toArray := hx
    have hls : (srt ks).length = ks.length := by rw [(srt_perm (by omega)).length_eq, List.length_range]
    dsimp only
    rw [hx]
    refine wpAny_bind (listUpdate_at ho6 rfl ?_ (Nat.zero_le _) (by rw [List.size_toArray, List.length_map, hls]; omega))
    have hf : failedOf x = none := hf
    rw [hf]
    simp only [bne_self_eq_false, Bool.false_eq_true, if_false]
    refine wpAny_pure (h _ _ (get?_update_seq ho6 fun _ => _) fun b o hb e => ?_)
    rw [Heap.get?_update_ne _ _ _ _ hb]
    exact kp b o hb e
end
end L2
end
section
set_option Elab.async false
set_option linter.all false
set_option maxRecDepth 100000
set_option maxHeartbeats 1000000
namespace L2
open PySem PySem.Spec PyProof.Rows HT
noncomputable def keyOf (n : List Str) : List Key := n.map Sum.inr
theorem keyOf_kV (n : List Str) : (keyOf n).map kV = n.map V.str := by unfold keyOf; rw [List.map_map]; rfl
theorem paired_of {α β : Type} {F : α → β → Prop} : ∀ {xs : List α} {ys : List β}, xs.length = ys.length → (∀ (i : Nat) x y, xs[i]? = some x → ys[i]? = some y → F x y) → Paired F xs ys
  | [], [], _, _ => .nil
  | [], _ :: _, h, _ => by simp at h
  | _ :: _, [], h, _ => by simp at h
  | x :: xs, y :: ys, h, k => .cons (k 0 x y rfl rfl) (paired_of (by simpa using h) fun i a b e1 e2 => k (i + 1) a b (by simpa using e1) (by simpa using e2))
theorem srt_one (k : List Str) : srt [k] = [0] := rfl
theorem vals_map {ys : List V} {us : List Value} (r : Vals ys us) (p : List Nat) (h : ∀ i ∈ p, i < ys.length) : Vals (p.map fun i => ys.getD i .non) (p.map fun i => us.getD i .none) := by
  induction p with
  | nil => exact .nil
  | cons i p ih =>
    refine .cons ?_ (ih fun j hj => h j (List.mem_cons_of_mem _ hj))
    have hi := h i List.mem_cons_self
    obtain ⟨u, e1, e2⟩ := r.get (show ys[i]? = some ys[i] by simp [hi])
    show RelV (ys.getD i .non) (us.getD i .none)
    rw [List.getD_eq_getElem?_getD, List.getD_eq_getElem?_getD, e1, List.getElem?_eq_getElem hi]
    exact e2
section
variable {X : Cx}
theorem call_sortedD (hc : X.calm = true) (hu : X.A.units + 2 < cLine) : CallR X (.builtin "sorted") (fun xs H Q => ∃ a kvs ks, xs = [V.ref a] ∧ Rd H a (.dT kvs) ∧ kvs.map (·.1) = ks.map keyOf ∧ kvs.length < 64 ∧
    ∀ l ys, H l = none → ys.length = ks.length → (∀ (i j : Nat), (srt ks)[i]? = some j → ∃ b, ys[i]? = some (V.ref b) ∧ H b = some (.tup ((ks.getD j []).map V.str))) → Q (.ref l) (upd H l (.lst ys))) := by
  intro pins s σ H xs us Q I r h
  obtain ⟨a, kvs, ks, rfl, ha, hk0, h64, q⟩ := h
  obtain ⟨u, rfl, ru⟩ := vals1 r
  cases ru
  obtain ⟨od, es, ep, h1, h2, h3, h4, h5, h6, h7⟩ := dt_raw I ha
  have hlk : kvs.length = ks.length := by have := congrArg List.length hk0; simpa using this
  refine Calls.call_function_entry kind_sorted plain_sorted entry_sorted (args_sorted1 _) ?_
  unfold Builtin.«sorted»
  refine wpAny_bind (m := checkCount "sorted" 1 1 _) (wpAny_pure ?_)
  refine wpAny_bind (PySem.W.kdu_collect (src_keys h4 h2 h3) (I.ok.hd hc) h1 (by rw [h5]; exact h6) fun h' tk acc' hk hacc => ?_)
  have hl : acc'.toList.length = kvs.length := by rw [Array.length_toList, hacc.1, h5]
  have sl : 64 ≤ sizeLine := by decide
  refine wpAny_bind (wpAny_newList ?_ (by rw [hl]; omega))
  have hoL : (h'.push { cls := .type "list", data := .seq acc'.toList.toArray }).get? h'.objs.size = some (seqObj "list" acc'.toList.toArray 0) := Heap.get?_push_size _ rfl
  refine wpAny_bind (wpAny_holding (wpAny_call_entry slot_list_sort ⟨_, hoL, rfl⟩ entry_list_sort ?_ (args_list_sort _)))
  obtain ⟨ys, vy, ly, ky⟩ := keys_vals h5 h7 hacc
  have I' : Inv X pins σ H { s with heap := h', toks := tk } := I.kept hk
  have key : ∀ (i : Nat) k, ks[i]? = some k → ∃ b, ys[i]? = some (V.ref b) ∧ H b = some (.tup (k.map V.str)) := fun i k e => by
    have : (kvs.map (·.1))[i]? = some (keyOf k) := by rw [hk0, List.getElem?_map, e]; rfl
    rw [List.getElem?_map] at this
    obtain ⟨p, e1, e2⟩ := Option.map_eq_some_iff.mp this
    obtain ⟨b, e3, e4⟩ := ky i p e1
    exact ⟨b, e3, by rw [e4, e2, keyOf_kV]⟩
  have fin : ∀ (h'' : Heap) (c' : Nat), h''.get? h'.objs.size = some (seqObj "list" ((srt ks).map fun i => acc'.toList.getD i .none).toArray c') → (∀ b o, b ≠ h'.objs.size → (h'.push { cls := .type "list", data := .seq acc'.toList.toArray }).get? b = some o → h''.get? b = some o) → (∀ j ∈ srt ks, j < ks.length) → (srt ks).length = ks.length →
      EP X pins σ Q (.ref h'.objs.size) { s with heap := h'', toks := tk } := fun h'' c' hD hk2 hj hls => by
    have hj' : ∀ j ∈ srt ks, j < ys.length := fun j z => by rw [ly, hlk]; exact hj j z
    refine ⟨.ref h'.objs.size, _, I'.laid (t' := tk) (fun b o e => hk2 b o (Nat.ne_of_lt (Heap.lt_size e)) (Heap.get?_push_of_some _ e)) (Nat.le_refl _) (show ObjOk X.prog X.w _ h'' _ (.lst ((srt ks).map fun i => ys.getD i .non)) from ⟨by rw [List.length_map, hls]; omega, _, c', vals_map vy _ hj', hD⟩), rfl, q _ _ (I'.hok.fresh (Nat.le_refl _)) (by rw [List.length_map, hls]) fun i j e => ?_⟩
    obtain ⟨b, e1, e2⟩ := key j (ks.getD j []) (by
      have := hj j (List.mem_of_getElem? e)
      rw [List.getD_eq_getElem?_getD, List.getElem?_eq_getElem this]
      rfl)
    refine ⟨b, ?_, e2⟩
    rw [List.getElem?_map, e]
    show some (ys.getD j .non) = _
    rw [List.getD_eq_getElem?_getD, e1]
    rfl
  by_cases h2s : 2 ≤ kvs.length
  · refine sort_many (ks := ks) hoL (by rw [hl]; exact h2s) (by rw [hl]; exact h64) (by show X.A.units + 1 + 1 < cLine; omega) ?_ fun h'' c' hD hk2 => ⟨_, rfl, wpAny_pure ⟨_, rfl, ?_⟩⟩
    · refine paired_of (by rw [hl, hlk]) fun i x y e1 e2 => ?_
      obtain ⟨b, e3, e4⟩ := key i y e2
      obtain ⟨u, e5, e6⟩ := vy.get e3
      rw [e5] at e1
      cases e1
      cases e6
      obtain ⟨_, its, rv, ⟨o, g1, g2, g3⟩⟩ := I'.hok b _ e4
      exact ⟨b, its.toArray, rfl, ⟨o, Heap.get?_push_of_some _ g1, g2, g3⟩, strs_of rv⟩
    · have pm := srt_perm (ks := ks) (by omega)
      exact fin h'' c' hD hk2 (fun j z => by have := pm.mem_iff.mp z; simpa using this) (by rw [pm.length_eq, List.length_range])
  · refine sort_small hoL (by rw [hl]; omega) fun h'' c' hD hk2 => ⟨_, rfl, wpAny_pure ⟨_, rfl, ?_⟩⟩
    refine fin h'' c' ?_ hk2 ?_ ?_
    · rw [hD]
      match ks, hlk, acc'.toList, hl with
      | [], _, [], _ => rfl
      | [k], _, [v], _ => rfl
      | _ :: _ :: _, e, _, _ => simp only [List.length_cons] at e; omega
      | [], e1, _ :: _, e2 => simp only [List.length_cons, List.length_nil] at e1 e2; omega
      | [_], e1, [], e2 => simp only [List.length_cons, List.length_nil] at e1 e2; omega
      | [_], e1, _ :: _ :: _, e2 => simp only [List.length_cons, List.length_nil] at e1 e2; omega
    · match ks, hlk with
      | [], _ => intro j z; cases z
      | [k], _ => intro j z; rw [srt_one, List.mem_singleton] at z; rw [z]; exact Nat.one_pos
      | _ :: _ :: _, e => simp only [List.length_cons] at e; omega
    · match ks, hlk with
      | [], _ => rfl
      | [k], _ => rfl
      | _ :: _ :: _, e => simp only [List.length_cons] at e; omega
end
end L2
end
section
set_option Elab.async false
set_option linter.all false
set_option maxRecDepth 100000
set_option maxHeartbeats 1000000
namespace L2
open PySem PySem.Spec PyProof.Rows
structure LenSc (sc : Scope) (x : Str) : Prop where
  kind : sc.kind = .function
  co : sc.isCoroutine = false
  gen : sc.isGenerator = false
  nocell : ∀ p ∈ sc.names, p.2 ≠ NameKind.cell
  par : sc.names.lookup x = some .local
  parK : ∀ qual L q c cl, (PySem.W.envX qual sc L q c cl).kindOf x = some .local
  len : ∀ qual L q c cl, (PySem.W.envX qual sc L q c cl).kindOf "len" = some .globalImplicit
section
variable {prog : Program} {w : World} {A : Around} {E : Value → Shared → Prop} {s : Shared}
theorem lam_len {cl : List (Str × Addr)} {q t c' : Addr} {qual x : Str} {params : Arguments} {sc : Scope} {pm ctv : Value} {p1 p2 p3 : Pos} {items : Array Value} {mg mb : Str → Option Value} {Q : Value → Shared → Prop}
    (hf : s.heap.get? q = some (PySem.W.kla_obj "<lambda>" qual params (.Call (.Name "len" p1) [.Name x p2] [] p3) sc cl pm c' ctv)) (ok : LenSc sc x) (hdp : A.depth < recursionLimit) (hrec : s.heap.CodeRec (.ref c') qual) (lim : s.heap.NoLimit)
    (hg : s.heap.Ns mainGlobals mg) (hm : mg "len" = none) (hb : s.heap.Ns builtinsNs mb) (hv : mb "len" = some (.builtin "len")) (hbind : ∀ v, bindArgs (PySem.W.kla_fn "<lambda>" qual params (.Call (.Name "len" p1) [.Name x p2] [] p3) sc cl pm (.ref c') ctv) ⟨[v], []⟩ = pure [(x, v)])
    (ht : IsTup s.heap t items) (hz : (items.size : Int) < 2 ^ 63) (hxd : (x == ("__debug__" : Str)) = false) (hQ : ∀ h' tk tok, (∀ b o, s.heap.get? b = some o → h'.get? b = some o) → Q (.int items.size tok) { s with heap := h', toks := tk }) :
    wpAny (model prog w) A (call (.ref q) [.ref t]) Q E s := by
  refine wpAny_call (PySem.W.kla_callFunE hdp hf rfl ok.co ok.gen rfl hrec ?_)
  show wpAny _ _ (bindArgs (PySem.W.kla_fn "<lambda>" qual params (.Call (.Name "len" p1) [.Name x p2] [] p3) sc cl pm (.ref c') ctv) ⟨[.ref t], []⟩) _ _ s
  rw [hbind]
  refine wpAny_pure (wpAny_newFunctionEnv ok.nocell (fun z hz => ?_) (fun h1 hns hsb => ?_) ok.kind)
  · rw [List.mem_singleton.mp hz]; exact ok.par
  have hk1 : ∀ b o, s.heap.get? b = some o → h1.get? b = some o := fun b o e => hsb.extBut b o (Nat.ne_of_lt (Heap.lt_size e)) (Heap.get?_push_of_some _ e)
  refine ⟨lim.keeps hk1, PySem.W.kla_codeExpr ?_⟩
  refine wpAny_Call_Name_kw (Calls.Name_function_global ok.kind (ok.len qual _ q (.ref c') cl) (Calls.loadGlobal_builtin (hg.keeps hk1) hm (hb.keeps hk1) hv ?_) (by decide))
  refine PyProof.Rows.callWith_builtin1 ?_ rfl rfl
  refine Calls.spliced_cons (wpAny_Name (wpAny_loadName_local ok.kind (ok.parK qual _ q (.ref c') cl) hns (v := .ref t) ?_ ?_) hxd)
  · simp
  · refine Calls.spliced_nil ?_
    have ht1 : IsTup h1 t items := let ⟨o, e, c, d⟩ := ht; ⟨o, hk1 _ _ e, c, d⟩
    exact len_tuple (s := { s with heap := h1, toks := s.toks + ([(x, Value.ref t)] : List (Str × Value)).length }) ht1 hz (hQ _ _ _ hk1)
end
section
variable {X : Cx} {pins : List (Addr × Obj)} {σ : St} {H : Hp} {s : Shared}
theorem Inv.reloc {h' : Heap} {m : Str → Option Value} {tk : Nat} (I : Inv X pins σ H s) (hns : s.heap.Ns X.env.locals m) (hns' : h'.Ns X.env.locals m) (kp : ∀ b o, b ≠ X.env.locals → s.heap.get? b = some o → h'.get? b = some o) : Inv X pins σ H { s with heap := h', toks := tk } := by
  have nl : ∀ b ob, X.s₀.heap.get? b = some ob → b ≠ X.env.locals := fun b ob e => Nat.ne_of_lt (Nat.lt_of_lt_of_le (Heap.lt_size e) I.ok.above)
  have cellKp : ∀ x c v, X.env.cells.lookup x = some c → s.heap.IsCell c v → h'.IsCell c v := fun x c v e hc => by
    refine isCell_slots hc fun o e1 => ⟨o.slots, kp c o (fun z => I.cne x c e z) e1⟩
  refine ⟨I.ok, I.os, I.bare, ⟨fun b o e n hb hx => kp b o (nl b o e) (I.base.keep b o e n hb hx), fun b o e n hb hx => ?_, I.base.free, fun b o e hx => ?_, I.base.tups, I.base.frzs, I.base.tbls⟩, ⟨m, hns', fun i x v h1 h2 vis => ?_⟩, fun x c e => ?_, I.free, I.freeC, fun p hp => ?_, fun b u q => ?_, I.len⟩
  · obtain ⟨sl, e1⟩ := I.base.slot b o e n hb hx
    exact ⟨sl, kp b _ (nl b o e) e1⟩
  · obtain ⟨o', e1⟩ := I.base.there b o e hx
    exact ⟨o', kp b _ (nl b o e) e1⟩
  · obtain ⟨m0, hn0, hl⟩ := I.loc
    have em : m0 = m := by
      obtain ⟨o1, es1, ep1, a1, a2, _, a3⟩ := id hn0
      obtain ⟨o2, es2, ep2, b1, b2, _, b3⟩ := id hns
      rw [a1] at b1
      cases b1
      rw [a2] at b2
      cases b2
      funext z
      rw [← a3, ← b3]
    subst em
    obtain ⟨u, r, l⟩ := hl i x v h1 h2 vis
    refine ⟨u, r, ?_⟩
    rcases l with l | ⟨hk, c, hc, hcell⟩
    · exact .inl l
    · exact .inr ⟨hk, c, hc, cellKp x c _ hc hcell⟩
  · obtain ⟨v, hv⟩ := I.cell x c e
    exact ⟨v, cellKp x c v e hv⟩
  · obtain ⟨h1, h2, h3, h4, h5⟩ := I.pin p hp
    exact ⟨kp _ _ h3 h1, h2, h3, h4, h5⟩
  · refine (I.hok b u q).stay (fun c v hc r => kp c v (fun z => ?_) r) (fun _ r => r) fun _ _ r => r
    have := I.free
    rcases hc with hc | hc
    · rw [← z, hc, q] at this; cases this
    · rw [← z, hc] at this; cases this
noncomputable def tMaxLen (P : Addr) (qual : Str) (te : TE) : TE := fun σ H Q => te σ H fun v H1 => ∃ (l : Addr) (xs : List V) (ns : List Nat), v = .ref l ∧ H1 l = some (.lst xs) ∧ xs ≠ [] ∧ xs.length ≤ 1000 ∧ ns.length = xs.length ∧ (∀ (i : Nat) x n, xs[i]? = some x → ns[i]? = some n → ∃ t ys, x = .ref t ∧ H1 t = some (.tup ys) ∧ ys.length = n) ∧ Tbl H1 P qual ∧
  ∀ (i : Nat) x H', xs[i]? = some x → (∀ (j : Nat), j < xs.length → ns.getD j 0 ≤ ns.getD i 0) → Grown P H1 H' → Tbl H' P qual → Q x H'
theorem pe_maxLen {e : Expr} {te : TE} {c P : Addr} {x : Str} {params : Arguments} {sc : Scope} {p pl pk pos p1 p2 p3 : Pos} (hg : Gl X "max") (hm : X.mg "max" = none) (hl : X.mg "len" = none) (he : PE X e te) (hcode : X.env.code = .ref c) (hC : PySem.W.codeHdIn X.K c P = true) (hB : BmAt X.mg X.base) (hc : X.calm = true) (hdp : X.A.depth + 3 < recursionLimit)
    (ok : LenSc sc x) (hxd : (x == ("__debug__" : Str)) = false := by decide) (hnf : ∀ p ∈ sc.names, p.2 ≠ NameKind.free)
    (hbind : ∀ (cl : List (Str × Addr)) (pm ctv : Value) (c' : Addr) (v : Value), bindArgs (PySem.W.kla_fn "<lambda>" (X.env.qual ++ "<lambda>") params (.Call (.Name "len" p1) [.Name x p2] [] p3) sc cl pm (.ref c') ctv) ⟨[v], []⟩ = pure [(x, v)] := by intros; rfl) (hdef : defaultsOf params X.env = ([], []) := by rfl)
    (hs : starEach [e] X.env = [(false, eval e X.env)] := by rfl) :
    PE X (.Call (.Name "max" p) [e] [⟨some "key", .Lambda params (.Call (.Name "len" p1) [.Name x p2] [] p3) sc pl, pk⟩] pos) (tMaxLen P (X.env.qual ++ "<lambda>") te) := by
  intro pins s σ H Q I h
  refine wpAny_Call_Name_kw (ld_blt I hg hm PyProof.Rows.boot_max ?_)
  refine callWith_builtin_kwB (by rw [hs]; rfl) rfl (evalArgs_kw2 rfl ?_ hs)
  rw [hs]
  refine Calls.spliced_cons (thn (he pins s σ H _ I h) fun v s1 ⟨x1, H1, I1, r1, q1⟩ => Calls.spliced_nil ?_)
  obtain ⟨l, xs, ns, rfl, hxs, hne, hz, hnl, hit, hT, q⟩ := q1
  cases r1
  show wpAny _ _ (evalAll [do let v ← eval (.Lambda params (.Call (.Name "len" p1) [.Name x p2] [] p3) sc pl) X.env; standAt pos; pure v]) _ _ s1
  refine wpAny_evalAll_cons (wpAny_bind (lam_make I1 hcode hC hT hB hdef (fun p hp e => absurd e (hnf p hp)) fun f c' ctv pm H2 s2 I2 hf hf0 hc' gr tb => wpAny_bind (wpAny_standAt (wpAny_pure (wpAny_evalAll_nil ?_)))))
  show wpAny _ _ (call (.builtin "max") [.ref l] [("key", .ref f)]) _ _ s2
  have nP : ∀ {b : Addr} {o : HO}, H1 b = some o → (∀ ps, o ≠ .tbl ps) → b ≠ P := fun {b o} e n z => by
    obtain ⟨ps, e2, _⟩ := hT
    rw [z, e2] at e
    exact n ps (Option.some.inj e).symm
  have hxs2 : H2 l = some (.lst xs) := gr l _ (nP hxs fun _ z => nomatch z) hxs
  obtain ⟨z1, its, n0, rv, hlen, hobj⟩ := I2.lstM hxs2
  obtain ⟨m, hns, _⟩ := id I2.loc
  have nL : ∀ {b : Addr} {o : HO}, H2 b = some o → b ≠ X.env.locals := fun {b o} e z => by have := I2.free; rw [← z, e] at this; cases this
  have bL : ∀ b o, X.base.get? b = some o → b ≠ X.env.locals := fun b o e => Nat.ne_of_lt (Nat.lt_of_lt_of_le (Heap.lt_size (I2.ok.bs b o e).1) I2.ok.above)
  have kpN : ∀ {h : Heap} {own : List (Addr × Obj)}, News (Att.noObjs s2.heap) X.env.locals h (allNews (Att.noObjs s2.heap) s2.heap X.env.locals ++ own) → ∀ b o, b ≠ X.env.locals → s2.heap.get? b = some o → h.get? b = some o := fun {h own} N b o n e => (N (b, o) (List.mem_append_left _ (mem_allNews n (Att.noObjs_get _ _) e))).1
  have kpB : ∀ {h : Heap} {own : List (Addr × Obj)}, News (Att.noObjs s2.heap) X.env.locals h (allNews (Att.noObjs s2.heap) s2.heap X.env.locals ++ own) → ∀ b o, X.base.get? b = some o → h.get? b = some o := fun N b o e => kpN N b o (bL b o e) (I2.bk b o e)
  have kpN0 : ∀ {h : Heap}, News (Att.noObjs s2.heap) X.env.locals h (allNews (Att.noObjs s2.heap) s2.heap X.env.locals) → ∀ b o, b ≠ X.env.locals → s2.heap.get? b = some o → h.get? b = some o := fun {h} N b o n e => (N (b, o) (mem_allNews n (Att.noObjs_get _ _) e)).1
  have ftr : f ≠ X.env.locals := fun z => by
    obtain ⟨o, es, ep, e1, e2, _⟩ := hns
    rw [← z, hf] at e1
    cases e1
    cases e2
  have nn : ∀ i : Nat, i < xs.length → ∃ n, ns[i]? = some n ∧ ns.getD i 0 = n := fun i hi => by
    have : i < ns.length := by rw [hnl]; exact hi
    exact ⟨ns[i], by simp [this], by simp [List.getD_eq_getElem?_getD, this]⟩
  obtain ⟨mb, hmb1, hmb2⟩ := I2.mod.blt
  refine kmk_max (fun i => ((ns.getD i 0 : Nat) : Int)) (I2.ok.hd hc) (Att.fr_all hns) news_all (fun h F N => ⟨_, kpN0 N l _ (nL hxs2) hobj, rfl, _, rfl⟩) (by rw [← hlen]; exact List.length_pos_iff.mpr hne) (fun i v hv h tk own F N => ?_) fun i v h' tk' hv hmax F N => ?_
  · have hi : i < xs.length := by rw [hlen]; exact (List.getElem?_eq_some_iff.mp hv).1
    obtain ⟨n, e1, e2⟩ := nn i hi
    obtain ⟨t, ys, e3, e4, e5⟩ := hit i xs[i] n (by simp [hi]) e1
    obtain ⟨u, e6, e7⟩ := rv.get (show xs[i]? = some xs[i] by simp [hi])
    rw [hv] at e6
    cases e6
    rw [e3] at e7
    cases e7
    have e4' : H2 t = some (.tup ys) := gr t _ (nP e4 fun _ z => nomatch z) e4
    obtain ⟨zt, tits, rt, ⟨ot, g1, g2, g3⟩⟩ := I2.hok t _ e4'
    have hsz : tits.toArray.size = n := by rw [List.size_toArray, ← rt.length, e5]
    refine lam_len (s := { s2 with heap := h, toks := tk }) (items := tits.toArray) (kpN N f _ ftr hf) ok (by show X.A.depth < _; omega) ?_ (I2.mod.nolimit.keeps (kpB N)) (I2.mod.glob.keeps (kpB N)) hl (hmb1.keeps (kpB N)) ((hmb2 "len" (by decide)).trans PySem.boot_len) (hbind _ pm ctv c') ⟨ot, kpN N t _ (nL e4') g1, g2, g3⟩ ?_ hxd fun h3 tk3 tok kp3 => ?_
    · obtain ⟨φ, ⟨oc, ec⟩, st⟩ := I2.hok c' _ hc'
      exact st _ _ φ fun o e => kpN N c' o (nL hc') e
    · rw [hsz, ← e5]
      have := line63
      omega
    · obtain ⟨f1, f2, f3⟩ := F
      refine ⟨h3, tk3, tok, rfl, ?_, ⟨f1.keeps kp3, fun b o e => kp3 _ _ (f2 b o e), f3⟩, fun p hp => ?_⟩
      · rw [hsz, e2]
      · obtain ⟨a1, a2, a3⟩ := N p hp
        exact ⟨kp3 _ _ a1, a2, a3⟩
  · have hi : i < xs.length := by rw [hlen]; exact (List.getElem?_eq_some_iff.mp hv).1
    obtain ⟨u, e6, e7⟩ := rv.get (show xs[i]? = some xs[i] by simp [hi])
    rw [hv] at e6
    cases e6
    exact ⟨xs[i], H2, I2.reloc hns F.ns fun b o n e => kpN0 N b o n e, e7, q i xs[i] H2 (by simp [hi]) (fun j hj => by have := (hmax j (by rw [← hlen]; exact hj)).1; omega) gr tb⟩
end
end L2
end
section
set_option Elab.async false
set_option linter.all false
set_option maxRecDepth 100000
set_option maxHeartbeats 1000000
namespace L2
open PySem PySem.Spec PyProof.Rows
section
variable {X : Cx}
theorem mt_insert : MtM X "list.insert" (fun x vs H Q => ∃ (l : Addr) (xs : List V) (i : Nat) (y : V), x = .ref l ∧ vs = [.int i, y] ∧ H l = some (.lst xs) ∧ i ≤ xs.length ∧ xs.length < 1000 ∧ Q .non (upd H l (.lst (xs.take i ++ y :: xs.drop i)))) := by
  intro pins s σ H x vs v us Q I rx rv h
  obtain ⟨l, xs, i, y, rfl, rfl, hH, hi, hz, q⟩ := h
  cases rx
  obtain ⟨u, u2, rfl, ⟨t, rfl⟩, r2⟩ := rv.two
  obtain ⟨z, its, n, r, hl, e⟩ := I.lstM hH
  have hs : 1000 ≤ sizeLine := by decide
  obtain ⟨j, hj⟩ : ∃ j : Int, (i : Int) = j := ⟨_, rfl⟩
  rw [hj]
  have hfit : ¬ (!Builtin.List.listFitsIndex j) = true := by
    have h63 : ((2 : Int) ^ 63) = 9223372036854775808 := by decide
    have := fitsIndex_both (k := j) (by rw [h63]; omega) (by rw [h63]; omega)
    rw [this]
    decide
  have hsz : its.toArray.size ≤ sizeLine := by rw [List.size_toArray, ← hl]; exact z
  have hm := AutoSeq1.list_insert_list_int_val_1 l its.toArray n j t u2 hfit hsz
  refine call_meets F.slot_list_insert ⟨_, e, rfl⟩ F.entry_list_insert (F.args_list_insert_3 _ _ _) hm ⟨e, ?_⟩
  · refine ⟨.non, _, I.lset (its' := its.take i ++ u2 :: its.drop i) hH e ?_ ((r.take i).append (.cons r2 (r.drop i))) ?_, rfl, q⟩
    · have hn : ¬ j < 0 := by omega
      have hjt : j.toNat = i := by omega
      simp only [hn, if_false, hjt, List.size_toArray]
      rw [Nat.min_eq_left (by omega)]
      apply Array.toList_inj.mp
      simp
      exact List.take_of_length_le (by rw [List.length_drop]; exact Nat.le_refl _)
    · rw [List.length_append, List.length_cons, List.length_take, List.length_drop]
      omega
end
section
variable {prog : Program} {w : World} {A : Around} {E : Value → Shared → Prop} {s : Shared} {κ : Type} [DecidableEq κ] {knd : HeapKind prog w κ}
theorem same_pairs {nm : String} {a b : Addr} {xs ys : List (κ × Addr × Value)} {Q : Bool → Shared → Prop} (sa : (a == sysModules) = false) (sb : (b == sysModules) = false) (hu : knd.room A) (da : s.heap.DictOfH knd a xs) (db : s.heap.DictOfH knd b ys) (e : Nat → Bool)
    (he : ∀ (i : Nat) (x : κ × Addr × Value), xs[i]? = some x → (∃ (j : Nat) (y : Addr × Value), ys[j]? = some (x.1, y) ∧ SeqAt.EqAt A s x.2.2 y.2 (e i)) ∨ ((∀ (j : Nat) (y : Addr × Value), ys[j]? ≠ some (x.1, y)) ∧ e i = false))
    (h : Q (decide (xs.length = ys.length) && (List.range xs.length).all e) s) : wpAny (model prog w) A (Builtin.Dict.samePairs nm a b) Q E s := by
  obtain ⟨oa, ea, pa, a1, a2, a3, a4, a5, a6⟩ := id da
  obtain ⟨ob, eb, pb, b1, b2, b3, b4, b5, b6⟩ := id db
  have za := size_of_entries a4
  have zb := size_of_entries b4
  unfold Builtin.Dict.samePairs Builtin.Dict.showsAll
  rw [if_neg (by rw [sa]; exact Bool.false_ne_true), if_neg (by rw [sb]; exact Bool.false_ne_true)]
  refine wpAny_bind (wpAny_pure (wpAny_bind (wpAny_pure (wpAny_bind (wpAny_dictEntries a1 a3 (wpAny_bind (wpAny_dictEntries b1 b3 ?_)))))))
  dsimp only
  rw [za, zb]
  by_cases hl : xs.length = ys.length
  · rw [if_neg (by simp [hl])]
    refine wpAny_bind (wpAny_dictEpoch a1 a3 ?_)
    rw [decide_eq_true hl, Bool.true_and] at h
    rw [Std.Legacy.Range.forIn_eq_forIn_range']
    refine wpAny_bind (wpAny_forIn_list _ (fun rest b s' => b.1 = none ∧ s' = s ∧ ∃ k, k ≤ xs.length ∧ rest = List.range' k (xs.length - k) ∧ (List.range k).all e = true) _ ?_ ?_ _ _ ?_)
    · rintro i rest bb s' ⟨hb, rfl, k, hk, hr, hal⟩
      have hkl : k < xs.length := by
        rcases Nat.lt_or_ge k xs.length with z | z
        · exact z
        · rw [Nat.sub_eq_zero_of_le z] at hr; cases hr
      have hr2 : List.range' k (xs.length - k) = k :: List.range' (k + 1) (xs.length - (k + 1)) := by
        have : xs.length - k = (xs.length - (k + 1)) + 1 := by omega
        rw [this, List.range'_succ]
      rw [hr2] at hr
      obtain ⟨rfl, rfl⟩ := List.cons.inj hr
      have hx : xs[i]? = some xs[i] := by simp [hkl]
      have hent : ea[i]? = some (entryOfKey knd xs[i]) := by rw [entry_at a4 i, hx]; rfl
      refine wpAny_bind (wpAny_dictEntries a1 a3 ?_)
      rw [hent]
      have got : wpAny (model prog w) A (holding [(entryOfKey knd xs[i]).key, (entryOfKey knd xs[i]).val] do
                let __x ← dictFind b (entryOfKey knd xs[i]).key (entryOfKey knd xs[i]).hash
                match __x with
                  | some j => do
                    let __do_lift ← dictEntries b
                    match __do_lift[j]? with
                      | some f => holding [f.val] (eqBool (entryOfKey knd xs[i]).val f.val)
                      | x => unsupported "internal:dict-equal"
                  | x => pure false) (fun r s'' => r = e i ∧ s'' = s') E s' := by
        refine wpAny_holding ?_
        rcases he i xs[i] hx with ⟨j, y, e1, e2⟩ | ⟨e1, e2⟩
        · refine wpAny_bind (wpAny_dictFind_heap hu (a5 xs[i] (List.getElem_mem hkl)) b1 b3 b4 b5 b6 (fun no => absurd e1 (no j y)) fun j' p hj' => ?_)
          have ej : j' = j := idxH_unique b6 hj' e1
          subst ej
          rw [e1] at hj'
          cases hj'
          refine wpAny_bind (wpAny_dictEntries b1 b3 ?_)
          have hentb : eb[j']? = some (entryOfKey knd (xs[i].1, y)) := by rw [entry_at b4 j', e1]; rfl
          rw [hentb]
          exact wpAny_holding (e2 _ _ _ _ ⟨rfl, rfl⟩)
        · exact wpAny_bind (wpAny_dictFind_heap hu (a5 xs[i] (List.getElem_mem hkl)) b1 b3 b4 b5 b6 (fun _ => wpAny_pure ⟨e2.symm, rfl⟩) fun j' p hj' => absurd hj' (e1 j' p))
      refine wpAny_bind (wpAny_mono got (fun r s'' hr => ?_) fun _ _ z => z)
      obtain ⟨rfl, rfl⟩ := hr
      cases ei : e i with
      | false =>
        have bad : (List.range xs.length).all e = false := by
          rw [Bool.eq_false_iff]
          intro z2
          rw [List.all_eq_true] at z2
          have := z2 i (List.mem_range.mpr hkl)
          rw [ei] at this
          cases this
        rw [bad] at h
        show wpAny _ _ (pure (ForInStep.done (some false, ()))) _ _ _
        exact wpAny_pure (wpAny_pure h)
      | true =>
        show wpAny _ _ (dictEpoch a >>= _) _ _ _
        refine wpAny_bind (wpAny_dictEpoch a1 a3 ?_)
        rw [if_neg (by simp)]
        refine wpAny_pure ⟨rfl, rfl, i + 1, hkl, rfl, ?_⟩
        rw [List.range_succ, List.all_append, hal]
        simp [ei]
    · rintro b s' ⟨hb, rfl, k, hk, hr, hal⟩
      have hkk : k = xs.length := by
        rcases Nat.lt_or_ge k xs.length with z | z
        · have : xs.length - k = (xs.length - (k + 1)) + 1 := by omega
          rw [this, List.range'_succ] at hr
          cases hr
        · omega
      subst hkk
      rw [hal] at h
      rw [hb]
      exact wpAny_pure h
    · exact ⟨rfl, rfl, 0, Nat.zero_le _, by simp, rfl⟩
  · rw [if_pos (by simp [hl])]
    rw [decide_eq_false hl, Bool.false_and] at h
    exact wpAny_bind (wpAny_rule (wpAny_pure h))
end
end L2
end
section
set_option Elab.async false
set_option linter.all false
set_option maxRecDepth 100000
set_option maxHeartbeats 1000000
namespace L2
open PySem PySem.Spec PyProof.Rows
theorem paired_back {α β : Type} {F : α → β → Prop} : ∀ {l : List α} {m : List β} {i : Nat} {y : β}, Paired F l m → m[i]? = some y → ∃ x, l[i]? = some x ∧ F x y
  | _, _, _, _, .nil, h => by simp at h
  | a :: _, b :: _, 0, y, .cons h _, e => by
    have e : b = y := by simpa using e
    subst e
    exact ⟨a, rfl, h⟩
  | _, _, i + 1, y, .cons _ t, e => by
    obtain ⟨x, e1, e2⟩ := paired_back (i := i) (y := y) t (by simpa using e)
    exact ⟨x, by simpa using e1, e2⟩
theorem valV_none {κ : Type} [DecidableEq κ] {kvs : List (κ × V)} {k : κ} {j : Nat} {p : κ × V} (h : valV kvs k = none) (e : kvs[j]? = some p) (ek : p.1 = k) : False := by
  unfold valV at h
  rw [Option.map_eq_none_iff, List.find?_eq_none] at h
  exact h p (List.mem_of_getElem? e) (by simpa using ek)
section
variable {X : Cx}
noncomputable def PairsAre (K : PySem.W.Frag) (H : Hp) (n : Nat) (kvs kvs2 : List (List Key × V)) (e : Nat → Bool) : Prop := ∀ (i : Nat) (p : List Key × V), kvs[i]? = some p → (∃ v, valV kvs2 p.1 = some v ∧ Cmp K H n p.2 v (e i)) ∨ (valV kvs2 p.1 = none ∧ e i = false)
theorem op_eqD {n : Nat} (hu : X.A.units + n + 2 < cLine) : OpR X (compareOp .Eq) (fun x y H Q => ∃ (a b : Addr) (kvs kvs2 : List (List Key × V)) (e : Nat → Bool), x = .ref a ∧ y = .ref b ∧ H a = some (.dT kvs) ∧ H b = some (.dT kvs2) ∧ PairsAre X.K H n kvs kvs2 e ∧ Q (.bl (decide (kvs.length = kvs2.length) && (List.range kvs.length).all e)) H) := by
  intro pins s σ H x y v u Q I rx ry h
  obtain ⟨a, b, kvs, kvs2, e, rfl, rfl, ha, hb, hp, q⟩ := h
  cases rx
  cases ry
  obtain ⟨za, sa, xs, ra, da⟩ := dt_of I.hok ha
  obtain ⟨zb, sb, ys, rb, db⟩ := dt_of I.hok hb
  have la : kvs.length = xs.length := Paired.length ra
  have lb : kvs2.length = ys.length := Paired.length rb
  show wpAny _ _ (richCompare .Eq (.ref a) (.ref b)) _ _ s
  refine wpAny_richCompare_same_room da.typeIs db.typeIs PySem.F.slot_dict_eq ?_ (by omega)
  refine wpAny_call_entry PySem.F.slot_dict_eq da.typeIs PySem.F.entry_dict_eq ?_ (PySem.F.args_dict_eq_2 _ _)
  unfold Builtin.«dict.__eq__»
  show wpAny _ _ (Builtin.Dict.dictSlotArgs "__eq__" ⟨[.ref a, .ref b], []⟩ >>= _) _ _ s
  refine wpAny_bind ?_
  unfold Builtin.Dict.dictSlotArgs
  refine wpAny_bind (wpAny_notOrdered_dict da.typeIs ?_)
  show wpAny _ _ (pure (Value.ref a, Value.ref b)) _ _ s
  refine wpAny_pure ?_
  dsimp only
  refine wpAny_bind (wpAny_isInstance (b := true) db.typeIs (by first | rfl | kernel_rfl) ?_)
  rw [if_neg (by decide)]
  refine wpAny_bind (wpAny_pure (wpAny_bind (wpAny_pure (wpAny_bind (same_pairs sa sb (tupleKind_room_in1 (by omega)) da db e (fun i x hx => ?_) ?_)))))
  · obtain ⟨p, e1, e2, e3, e4⟩ := paired_back ra hx
    rcases hp i p e1 with ⟨v, g1, g2⟩ | ⟨g1, g2⟩
    · obtain ⟨j, hj⟩ := valV_at g1
      obtain ⟨y, f1, f2, f3, f4⟩ := paired_at rb hj
      refine .inl ⟨j, y.2, ?_, (g2 X pins σ s X.A.in1 _ _ rfl I e4 f4 (by rw [in1_units]; omega)).1⟩
      rw [f1, ← e2]
      obtain ⟨y1, y2⟩ := y
      cases f2
      rfl
    · refine .inr ⟨fun j y hj => ?_, g2⟩
      obtain ⟨p2, f1, f2, f3, f4⟩ := paired_back rb hj
      rw [← e2] at f2
      exact valV_none g1 f1 f2
  · refine wpAny_pure ⟨_, rfl, (fun z => nomatch z), .bl _, H, I, rfl, ?_⟩
    rw [la, lb] at q
    have e0 : ∀ b : Bool, (b == true) = b := fun b => by cases b <;> rfl
    rw [e0]
    exact q
noncomputable def OwnEq (K : PySem.W.Frag) (C f : Addr) : Prop := ∀ (h : Heap) (x : Addr) (o : Obj), K.In h → h.get? x = some o → o.cls = .ref C → h.OwnEqNoNe x C f "object" [Value.type "object"]
section
variable {CX : CXT} {k : Nat} {f C : Addr} {fd : FuncData} {ps : List Str} {sp : Sp} {E : XK}
theorem run_eq {A : Around} {pins : List (Addr × Obj)} {σ : St} {H : Hp} {s : Shared} {a : Addr} {v : V} {u : Value} {Q : Bool → Hp → Prop} (F : FnOk X.prog X.w X.K X.mg X.base CX k f fd ps sp) (hr : Room k A) (hb : Binds X.K fd ps []) (hx : Passes CX X E) (I : Inv X pins σ H s) (e0 : Env0 X.prog X.w X.K X.mg X.base A X.stack s H) (rv : RelV v u)
    (h : sp [.ref a, v] H (fun v H' => ∃ b, v = .bl b ∧ Q b H') E) : wpAny (model X.prog X.w) A (call (.ref f) [.ref a, u]) (fun w s' => ∃ b H', w = .bool b ∧ Inv X pins σ H' s' ∧ Q b H') X.xe s := by
  refine wpAny_call (codeAny_mono (F.run A X.stack s H ⟨[.ref a, u], []⟩ [.ref a, u] [.ref a, v] _ E hr e0 ?_ (.cons rfl (.cons rv .nil)) h) fun r s' hq => ?_)
  · have := hb s [.ref a, u] I.kIn (by simpa using F.len _ _ _ _ h)
    simpa using this
  · cases r with
    | error e => exact hx pins σ H s e s' I hq
    | ok fl =>
      cases fl with
      | ret w =>
        obtain ⟨v', H', I', r', b, rfl, q'⟩ := I.after hq
        cases r'
        exact ⟨b, H', rfl, I', q'⟩
      | next => exact False.elim hq
      | brk => exact False.elim hq
      | cont => exact False.elim hq
theorem op_neI (hE : OwnEq X.K C f) (F : FnOk X.prog X.w X.K X.mg X.base CX k f fd ps sp) (hr : Room (k + 1) X.A) (hb : Binds X.K fd ps []) (hx : Passes CX X E) (hu : X.A.units + 1 < cLine) :
    OpR X (compareOp .NotEq) (fun x y H Q => ∃ (a b dx dy : Addr) (fs gs : List (Str × V)), x = .ref a ∧ y = .ref b ∧ H a = some (.ins C dx fs) ∧ H b = some (.ins C dy gs) ∧ sp [.ref a, .ref b] H (fun v H' => ∃ r, v = .bl r ∧ Q (.bl (!r)) H') E) := by
  intro pins s σ H x y v u Q I rx ry h
  obtain ⟨a, b, dx, dy, fs, gs, rfl, rfl, ha, hb2, q⟩ := h
  cases rx
  cases ry
  obtain ⟨mA, O, _⟩ := ins_get I.hok ha
  obtain ⟨od, J, _⟩ := O.look
  obtain ⟨mA2, O2, _⟩ := ins_get I.hok hb2
  obtain ⟨od2, J2, _⟩ := O2.look
  refine compareOp_ne_ownEq PySem.F.cmp_object (hE _ a _ I.kIn J.at_ J.cls) J2.at_ J2.cls hu (wpAny_mono (run_eq F hr.in1 hb hx I I.env0.in1 (v := .ref b) (u := .ref b) rfl q) (fun w s' hw => ?_) fun _ _ z => z)
  obtain ⟨r, H', rfl, I', q'⟩ := hw
  exact ⟨r, rfl, .bl (!r), H', I', rfl, q'⟩
theorem op_eqI (hm : Meth X.K C "__eq__" f) (hnd : PySem.W.notFirst X.K C (.type "dict") = true) (F : FnOk X.prog X.w X.K X.mg X.base CX k f fd ps sp) (hr : Room k X.A) (hb : Binds X.K fd ps []) (hx : Passes CX X E) (hu : X.A.units < cLine) :
    OpR X (compareOp .Eq) (fun x y H Q => ∃ (a b dx : Addr) (fs : List (Str × V)), x = .ref a ∧ y = .ref b ∧ H a = some (.ins C dx fs) ∧ ((∃ dy gs, H b = some (.ins C dy gs)) ∨ ∃ kvs, H b = some (.dT kvs)) ∧ sp [.ref a, .ref b] H (fun v H' => ∃ r, v = .bl r ∧ Q (.bl r) H') E) := by
  intro pins s σ H x y v u Q I rx ry h
  obtain ⟨a, b, dx, fs, rfl, rfl, ha, hb2, q⟩ := h
  cases rx
  cases ry
  obtain ⟨mA, O, _⟩ := ins_get I.hok ha
  obtain ⟨od, J, _⟩ := O.look
  obtain ⟨m, Fr'⟩ := I.fr
  have ty : ∃ tb, PySem.W.Looks (model X.prog X.w) s.heap (typeOf (.ref b)) tb ∧ PySem.W.notFirst X.K C tb = true := by
    rcases hb2 with ⟨dy, gs, e⟩ | ⟨kvs, e⟩
    · obtain ⟨mA2, O2, _⟩ := ins_get I.hok e
      obtain ⟨od2, J2, _⟩ := O2.look
      exact ⟨.ref C, J2.type, by unfold PySem.W.notFirst; simp⟩
    · obtain ⟨_, _, _, _, o, _, _, e1, e2, _⟩ := dt_of I.hok e
      refine ⟨.type "dict", ?_, hnd⟩
      rw [← e2.1]
      exact (PySem.W.Looks.ld e1).andThen .now
  obtain ⟨tb, l1, l2⟩ := ty
  show wpAny _ _ (richCompare .Eq (.ref a) (.ref b)) _ _ s
  refine PySem.W.cmp_K hu Fr' I.mod.kin J l1 l2 hm.at_ hm.fn (wpAny_mono (run_eq F hr hb hx I I.env0 (v := .ref b) (u := .ref b) rfl q) (fun w s' hw => ?_) fun _ _ z => z)
  obtain ⟨r, H', rfl, I', q'⟩ := hw
  exact ⟨.bl r, H', I', rfl, q'⟩
end
end
end L2
end
section
set_option Elab.async false
set_option linter.all false
set_option maxRecDepth 100000
set_option maxHeartbeats 1000000
namespace L2
open PySem PySem.Spec PyProof.Rows
theorem size_down (n : Nat) : Builtin.Range.rangeSize n (-1) (-1) = n + 1 := by
  unfold Builtin.Range.rangeSize
  rw [if_neg (by decide), if_pos (by omega)]
  have : (-(-1) : Int) = 1 := rfl
  rw [this, Int.ediv_one]
  omega
theorem fits_long {i : Int} (h0 : -1000000 ≤ i) (h1 : i ≤ 1000000) : Builtin.Range.rangeFitsLong i = true := by
  unfold Builtin.Range.rangeFitsLong
  have h63 : ((2 : Int) ^ 63) = 9223372036854775808 := by decide
  simp only [h63, Bool.and_eq_true, decide_eq_true_eq]
  omega
noncomputable def ItD (n : Nat) : It := ⟨fun i _ => i < n + 1, fun i H x H' => H' = H ∧ x = .int ((n : Int) - i), fun i _ => n + 1 ≤ i⟩
theorem turn_down {P : Program} {w : World} {K : PySem.W.Frag} {tg : Expr} (it : Addr) (n : Nat) : Turn P w K tg (ItD n) [it] it (fun i h => IsRangeIter h it ((n : Int) + (i : Nat) * (-1)) (((n + 1 : Nat) : Int) - (i : Nat)) (-1)) where
  mem := by simp
  obj := fun i h st b hb => by
    have e : b = it := by simpa using hb
    subst e
    exact ⟨_, st, fun v z => by
      have z' : Data.fields _ = Data.cell v := z
      cases z'⟩
  keep := fun i h h' st k => k it (by simp) _ st
  item := by
    intro X hP hw hK hc i pins s σ H E I hf st hg
    subst hP hw hK
    obtain ⟨f0, f1, f2, f3, f4, f5⟩ := hf it (by simp)
    have W := Walks.range (prog := X.prog) (w := X.w) (I.ok.hd hc) it n (-1) (n + 1)
    refine W.item i s _ _ hg st fun v h' tk hv st' kk => ?_
    obtain ⟨t, rfl⟩ := hv
    have I1 : Inv X pins σ H { s with heap := h', toks := tk } := I.turned (fun b o hb e => kk b o (by simpa using hb) e) f0 f1 f3 f4 f5
    refine ⟨_, rfl, go_of (s := { s with heap := h', toks := tk }) (n := "range_iterator") st' rfl rfl (by decide) ⟨.int ((n : Int) - i), H, I1, ⟨t, ?_⟩, ⟨rfl, rfl⟩, st', fun b hb => (hf b hb).1⟩⟩
    have : (n : Int) + (i : Int) * (-1) = (n : Int) - i := by omega
    rw [this]
  done := by
    intro X hP hw hK hc i pins s σ H E I hf st hg
    subst hP hw hK
    obtain ⟨f0, f1, f2, f3, f4, f5⟩ := hf it (by simp)
    exact wpAny_pyNext_range_end (I.ok.hd hc) st (by have : n + 1 ≤ i := hg; omega) fun h' eb => ⟨rfl, I.turned (t' := s.toks) (fun b o hb e => eb b o hb e) f0 f1 f3 f4 f5⟩
  self := fun _ _ _ _ _ st h => wpAny_pyIter_rangeiter st h
section
variable {X : Cx} {tg : Expr}
noncomputable def iRngD (ta : TA) : TI := fun σ H R => ta σ H fun vs H1 => ∃ n : Nat, vs = [.int n, .int (-1), .int (-1)] ∧ n ≤ 1000 ∧ R (ItD n) H1
theorem pi_rangeD {a b c : Expr} {ta : TA} {p pos : Pos} (hg : Gl X "range") (hm : X.mg "range" = none) (ha : PA X [a, b, c] ta) (hs : starEach [a, b, c] X.env = [(false, eval a X.env), (false, eval b X.env), (false, eval c X.env)] := by rfl) (hs2 : starEach [b, c] X.env = [(false, eval b X.env), (false, eval c X.env)] := by rfl) :
    PI X tg (.Call (.Name "range" p) [a, b, c] [] pos) (iRngD ta) := by
  intro pins s σ H R I h
  refine Call_ (ld_blt I hg hm boot_range (PyProof.Rows.callWith_type1 (thn (ha pos pins s σ H _ I h) fun us s1 ⟨vs, H1, I1, r1, q1⟩ => ?_) (by rw [hs, hs2]) (by rw [hs2]; rfl)))
  obtain ⟨n, e, hn, q⟩ := q1
  subst e
  cases r1 with
  | cons r rr =>
    cases rr with
    | cons r' rr =>
      cases rr with
      | cons r'' rr =>
        cases rr
        obtain ⟨t, rfl⟩ := r
        obtain ⟨t', rfl⟩ := r'
        obtain ⟨t'', rfl⟩ := r''
        refine call_range_3 (by decide) ?_ (.inl ?_)
        · refine wpAny_pyIter_range (IsRange.new ..) ?_ ?_
          · unfold Builtin.Range.small
            rw [size_down, fits_long (by omega) (by omega), fits_long (by decide) (by decide), fits_long (by omega) (by omega), if_neg (by decide), fits_long (by decide) (by decide)]
            simp
          · have I2 := I1.kept (t' := s1.toks) (h' := s1.heap.push { cls := .type "range", data := .fields #[.int n t, .int (-1) t', .int (-1) t''] }) fun b o e => Heap.get?_push_of_some _ e
            refine ⟨(s1.heap.push { cls := .type "range", data := .fields #[.int n t, .int (-1) t', .int (-1) t''] }).objs.size, [(s1.heap.push { cls := .type "range", data := .fields #[.int n t, .int (-1) t', .int (-1) t''] }).objs.size], _, _, H1, rfl,
              I2.kept (t' := s1.toks) fun b o e => Heap.get?_push_of_some _ e, turn_down _ n, ?_, fun b hb => ?_, q⟩
            · have e1 : (n : Int) + ((0 : Nat) : Int) * (-1) = n := by simp
              have e2 : (((n + 1 : Nat) : Nat) : Int) - ((0 : Nat) : Int) = Builtin.Range.rangeSize n (-1) (-1) := by
                rw [size_down]
                omega
              show IsRangeIter _ _ ((n : Int) + ((0 : Nat) : Int) * (-1)) (((n + 1 : Nat) : Int) - ((0 : Nat) : Int)) (-1)
              rw [e1, e2]
              exact Heap.get?_push_size _ rfl
            · have e : b = (s1.heap.push { cls := .type "range", data := .fields #[.int n t, .int (-1) t', .int (-1) t''] }).objs.size := by simpa using hb
              subst e
              exact I2.fpOk (Nat.le_refl _) (I2.hok.fresh (Nat.le_refl _))
        · exact PyProof.noPylong_small (by decide)
end
end L2
end
section
set_option Elab.async false
set_option linter.all false
set_option maxRecDepth 100000
set_option maxHeartbeats 400000
namespace L2
open PySem
noncomputable abbrev Row := List Str × List Int
noncomputable def valR (R : List Row) (k : List Str) : Option (List Int) := (R.find? fun r => decide (r.1 = k)).map (·.2)
noncomputable def putR (R : List Row) (k : List Str) (ns : List Int) : List Row := if (R.any fun r => decide (r.1 = k)) = true then R.map (fun r => if r.1 = k then (r.1, ns) else r) else R ++ [(k, ns)]
noncomputable def dropR (R : List Row) (k : List Str) : List Row := R.filter fun r => decide (r.1 ≠ k)
noncomputable def RowsOk (F : V → List Int → Prop) (R : List Row) (kvs : List (List Key × V)) : Prop := Paired (fun (r : Row) kv => kv.1 = keyOf r.1 ∧ F kv.2 r.2) R kvs
theorem keyOf_inj : ∀ {a b : List Str}, keyOf a = keyOf b → a = b
  | [], [], _ => rfl
  | [], _ :: _, h => by cases h
  | _ :: _, [], h => by cases h
  | x :: a, y :: b, h => by
    have h1 := List.cons.inj h
    rw [Sum.inr.inj h1.1, keyOf_inj h1.2]
section
variable {F F' : V → List Int → Prop} {R : List Row} {kvs : List (List Key × V)} {k : List Str}
theorem rows_mono (h : RowsOk F R kvs) (m : ∀ v ns, F v ns → F' v ns) : RowsOk F' R kvs := Paired.mapP h fun _ _ q => ⟨q.1, m _ _ q.2⟩
theorem rows_len (h : RowsOk F R kvs) : R.length = kvs.length := Paired.length h
theorem rows_keys : ∀ {R : List Row} {kvs : List (List Key × V)}, RowsOk F R kvs → kvs.map (·.1) = (R.map (·.1)).map keyOf
  | _, _, .nil => rfl
  | _, _, .cons q t => by rw [List.map_cons, List.map_cons, List.map_cons, q.1, rows_keys t]
theorem key_dec {a b : List Str} : decide (keyOf a = keyOf b) = decide (a = b) := decide_eq_decide.mpr ⟨keyOf_inj, fun e => by rw [e]⟩
theorem rows_any : ∀ {R : List Row} {kvs : List (List Key × V)}, RowsOk F R kvs → (kvs.any fun kv => decide (kv.1 = keyOf k)) = R.any fun r => decide (r.1 = k)
  | _, _, .nil => rfl
  | _, _, .cons q t => by rw [List.any_cons, List.any_cons, q.1, key_dec, rows_any t]
theorem rows_val : ∀ {R : List Row} {kvs : List (List Key × V)}, RowsOk F R kvs → (valV kvs (keyOf k) = none ∧ valR R k = none) ∨ ∃ v ns, valV kvs (keyOf k) = some v ∧ valR R k = some ns ∧ F v ns
  | _, _, .nil => .inl ⟨rfl, rfl⟩
  | r :: R, kv :: kvs, .cons q t => by
    by_cases e : r.1 = k
    · refine .inr ⟨kv.2, r.2, valV_pos (by rw [q.1, e]), ?_, q.2⟩
      simp [valR, List.find?_cons, e]
    · have e' : ¬ kv.1 = keyOf k := fun z => e (keyOf_inj (by rw [← q.1, z]))
      have eR : valR (r :: R) k = valR R k := by simp [valR, List.find?_cons, e]
      rw [valV_neg e', eR]
      exact rows_val t
theorem rows_map {v : V} {ns : List Int} (hv : F v ns) : ∀ {R : List Row} {kvs : List (List Key × V)}, RowsOk F R kvs → RowsOk F (R.map fun r => if r.1 = k then (r.1, ns) else r) (kvs.map fun kv => if kv.1 = keyOf k then (kv.1, v) else kv)
  | _, _, .nil => .nil
  | r :: R, kv :: kvs, .cons q t => by
    refine .cons ?_ (rows_map hv t)
    dsimp only
    by_cases e : r.1 = k
    · rw [if_pos e, if_pos (by rw [q.1, e])]
      exact ⟨q.1, hv⟩
    · rw [if_neg e, if_neg (fun z => e (keyOf_inj (by rw [← q.1, z])))]
      exact q
theorem paired_snoc {α β : Type} {G : α → β → Prop} {x : α} {y : β} (h : G x y) : ∀ {xs : List α} {ys : List β}, Paired G xs ys → Paired G (xs ++ [x]) (ys ++ [y])
  | _, _, .nil => .cons h .nil
  | _, _, .cons q t => .cons q (paired_snoc h t)
theorem rows_put {v : V} {ns : List Int} (h : RowsOk F R kvs) (hv : F v ns) : RowsOk F (putR R k ns) (putK kvs (keyOf k) v) := by
  unfold putR putK
  rw [rows_any h]
  split
  · exact rows_map hv h
  · exact paired_snoc ⟨rfl, hv⟩ h
theorem rows_drop : ∀ {R : List Row} {kvs : List (List Key × V)}, RowsOk F R kvs → RowsOk F (dropR R k) (dropK kvs (keyOf k))
  | _, _, .nil => .nil
  | r :: R, kv :: kvs, .cons q t => by
    have ih := rows_drop t
    unfold dropR at ih ⊢
    by_cases e : r.1 = k
    · rw [dropK_pos (by rw [q.1, e]), List.filter_cons, if_neg (by simp [e])]
      exact ih
    · rw [dropK_neg (fun z => e (keyOf_inj (by rw [← q.1, z]))), List.filter_cons, if_pos (by simp [e])]
      exact .cons q ih
end
theorem keys_put {R : List Row} {k : List Str} {ns : List Int} : (putR R k ns).map (·.1) = if k ∈ R.map (·.1) then R.map (·.1) else R.map (·.1) ++ [k] := by
  unfold putR
  by_cases h : (R.any fun r => decide (r.1 = k)) = true
  · have hm : k ∈ R.map (·.1) := by
      obtain ⟨r, h1, h2⟩ := List.any_eq_true.mp h
      exact List.mem_map.mpr ⟨r, h1, of_decide_eq_true h2⟩
    rw [if_pos h, if_pos hm, List.map_map]
    refine List.map_congr_left fun r _ => ?_
    show (if r.1 = k then (r.1, ns) else r).1 = r.1
    split <;> rfl
  · have hm : ¬ k ∈ R.map (·.1) := fun z => by
      obtain ⟨r, h1, h2⟩ := List.mem_map.mp z
      exact h (List.any_eq_true.mpr ⟨r, h1, decide_eq_true h2⟩)
    rw [if_neg h, if_neg hm, List.map_append]
    rfl
theorem nodup_put {R : List Row} {k : List Str} {ns : List Int} (h : (R.map (·.1)).Nodup) : ((putR R k ns).map (·.1)).Nodup := by
  rw [keys_put]
  split
  · exact h
  · rename_i hm
    exact List.nodup_append.mpr ⟨h, (by simp), fun x hx y hy e => hm (by rw [← List.mem_singleton.mp hy, ← e]; exact hx)⟩
theorem nodup_drop {R : List Row} {k : List Str} (h : (R.map (·.1)).Nodup) : ((dropR R k).map (·.1)).Nodup := h.sublist (List.filter_sublist.map _)
theorem len_put {R : List Row} {k : List Str} {ns : List Int} : (putR R k ns).length ≤ R.length + 1 := by
  unfold putR
  split
  · rw [List.length_map]; exact Nat.le_succ _
  · simp
theorem len_drop {R : List Row} {k : List Str} : (dropR R k).length ≤ R.length := List.length_filter_le _ _
noncomputable def wayN (R : List Row) (ns : List Str) : Nat → Option Row
  | 0 => (valR R (ns.take 0)).map fun sd => (ns.take 0, sd)
  | m + 1 => match valR R (ns.take (m + 1)) with
    | some sd => some (ns.take (m + 1), sd)
    | none => wayN R ns m
noncomputable def wayR (R : List Row) (ns : List Str) : Option Row := wayN R ns ns.length
noncomputable def sidesR (R : List Row) (ns : List Str) : List Int := ((wayR R ns).map (·.2)).getD []
theorem wayN_hit {R : List Row} {ns : List Str} {m : Nat} {sd : List Int} (h : valR R (ns.take m) = some sd) : wayN R ns m = some (ns.take m, sd) := by
  cases m with
  | zero => unfold wayN; rw [h]; rfl
  | succ m => unfold wayN; rw [h]
theorem wayN_miss {R : List Row} {ns : List Str} {m : Nat} (h : valR R (ns.take (m + 1)) = none) : wayN R ns (m + 1) = wayN R ns m := by
  conv => lhs; unfold wayN
  rw [h]
theorem valR_mem {R : List Row} {k : List Str} {sd : List Int} (h : valR R k = some sd) : (k, sd) ∈ R := by
  unfold valR at h
  obtain ⟨r, h1, h2⟩ := Option.map_eq_some_iff.mp h
  have h3 : r.1 = k := by simpa using List.find?_some h1
  have h4 := List.mem_of_find?_eq_some h1
  rw [← h3, ← h2]
  exact h4
theorem valR_some {R : List Row} {k : List Str} (h : k ∈ R.map (·.1)) : ∃ sd, valR R k = some sd := by
  unfold valR
  cases e : R.find? fun r => decide (r.1 = k) with
  | some r => exact ⟨r.2, rfl⟩
  | none =>
    obtain ⟨r, h1, h2⟩ := List.mem_map.mp h
    exact absurd (decide_eq_true h2) (List.find?_eq_none.mp e r h1)
theorem way_down {R : List Row} {ns : List Str} (j : Nat) : ∀ m, j ≤ m → (∀ i, j < i → i ≤ m → valR R (ns.take i) = none) → wayN R ns m = wayN R ns j
  | m, hm, h => by
    induction m with
    | zero => have : j = 0 := by omega
              rw [this]
    | succ m ih =>
      by_cases e : j = m + 1
      · rw [e]
      · rw [wayN_miss (h (m + 1) (by omega) (Nat.le_refl _))]
        exact ih (by omega) fun i h1 h2 => h i h1 (by omega)
theorem take_len {ns k : List Str} (h : ns.take k.length = k) : k.length ≤ ns.length := by
  have := congrArg List.length h
  rw [List.length_take] at this
  omega
theorem way_max {R : List Row} {ns k : List Str} (hk : k ∈ R.map (·.1)) (hp : ns.take k.length = k) (hm : ∀ k' ∈ R.map (·.1), ns.take k'.length = k' → k'.length ≤ k.length) : ∃ sd, valR R k = some sd ∧ wayR R ns = some (k, sd) := by
  obtain ⟨sd, hs⟩ := valR_some hk
  refine ⟨sd, hs, ?_⟩
  unfold wayR
  rw [way_down k.length _ (take_len hp) fun i h1 h2 => ?_]
  · have := wayN_hit (R := R) (ns := ns) (m := k.length) (by rw [hp]; exact hs)
    rw [this, hp]
  · cases e : valR R (ns.take i) with
    | none => rfl
    | some sd' =>
      have hl : (ns.take i).length = i := by rw [List.length_take]; omega
      have := hm (ns.take i) (List.mem_map.mpr ⟨_, valR_mem e, rfl⟩) (by rw [hl])
      omega
theorem way_none {R : List Row} {ns : List Str} (hm : ∀ k' ∈ R.map (·.1), ¬ ns.take k'.length = k') : wayR R ns = none := by
  have no : ∀ i, i ≤ ns.length → valR R (ns.take i) = none := fun i hi => by
    cases e : valR R (ns.take i) with
    | none => rfl
    | some sd' =>
      have hl : (ns.take i).length = i := by rw [List.length_take]; omega
      exact absurd (by rw [hl]) (hm (ns.take i) (List.mem_map.mpr ⟨_, valR_mem e, rfl⟩))
  unfold wayR
  rw [way_down 0 _ (Nat.zero_le _) fun i h1 h2 => no i h2]
  unfold wayN
  rw [no 0 (Nat.zero_le _)]
  rfl
end L2
end
section
set_option Elab.async false
set_option linter.all false
set_option maxRecDepth 100000
set_option maxHeartbeats 4000000
namespace K20
open PySem L2
noncomputable def top (i : Nat) : Stmt := PySem.Challenge.pw_namewants_k20_whole_tables.main.body.getD i (.Pass ⟨0, 0, 0, 0⟩)
noncomputable abbrev sWhole : Stmt := top 14
noncomputable abbrev sWithin : Stmt := top 15
noncomputable abbrev sPart : Stmt := top 23
noncomputable abbrev sName : Stmt := top 24
noncomputable abbrev sNeedN : Stmt := top 26
structure Cal (P : Program) (w : World) (K : PySem.W.Frag) (mg : Str → Option Value) (base : Heap) (k : Nat) (x : Str) (f : Addr) (fd : FuncData) (ps : List Str) (sp : Sp) : Prop where
  ok : FnOk P w K mg base CX0 k f fd ps sp
  mg : mg x = some (.ref f)
  kp : PySem.W.keepIn K (.ref f) = true
  bd : Binds K fd ps []
theorem pe_fn {X : Cx} {k : Nat} {x : Str} {f : Addr} {fd : FuncData} {ps : List Str} {sp : Sp} {e : Expr} {es : List Expr} {t : TA} {p pos : Pos} (C : Cal X.prog X.w X.K X.mg X.base k x f fd ps sp) (hr : Room k X.A) (hg : Gl X x) (ha : PA X (e :: es) t)
    (hdb : (x == ("__debug__" : Str)) = false := by decide) (he : starEach (e :: es) X.env = (false, eval e X.env) :: starEach es X.env := by rfl) (hpl : (backTo pos (starEach es X.env)).any (·.1) = false := by rfl) :
    PE X (.Call (.Name x p) (e :: es) [] pos) (tCall sp [] E0 t) := pe_call C.ok hr hg C.mg C.kp C.bd .nil pass0 ha hdb he hpl
structure Glb (mg : Str → Option Value) : Prop where
  isi : mg "isinstance" = none
  int : mg "int" = none
  bool : mg "bool" = none
  str : mg "str" = none
  tuple : mg "tuple" = none
  list : mg "list" = none
  len : mg "len" = none
  all : mg "all" = none
  range : mg "range" = none
  max : mg "max" = none
  min : mg "min" = none
  signs : ∃ t, mg "SIGNS" = some (.str "abcdefghijklmnopqrstuvwxyz0123456789" t)
  partL : ∃ t, mg "PART_LONGEST" = some (.int 4 t)
  nameL : ∃ t, mg "NAME_LONGEST" = some (.int 5 t)
  sideM : ∃ t, mg "SIDE_MOST" = some (.int 7 t)
  set : mg "set" = none
  sorted : mg "sorted" = none
noncomputable def isWh : Kn → Bool | .int => true | _ => false
noncomputable def spWhole (K : PySem.W.Frag) : Sp := fun vs H Q _ => ∃ v k, vs = [v] ∧ KindV K H v k ∧ Q (.bl (isWh k)) H
noncomputable def within : V → Int → Int → Bool
  | .int i, lo, hi => decide (lo ≤ i) && decide (i ≤ hi)
  | _, _, _ => false
noncomputable def spWithin (K : PySem.W.Frag) : Sp := fun vs H Q _ => ∃ v k lo hi, vs = [v, .int lo, .int hi] ∧ KindV K H v k ∧ Q (.bl (within v lo hi)) H
theorem within_not {K : PySem.W.Frag} {H : Hp} {v : V} {k : Kn} (h : KindV K H v k) (n : k ≠ .int) (lo hi : Int) : within v lo hi = false := by
  have h := h.sh
  cases v with
  | int i => cases k <;> first | exact absurd rfl n | cases h
  | _ => rfl
section
variable {P : Program} {w : World} {K : PySem.W.Frag} {mg : Str → Option Value} {base : Heap}
theorem scWhole : FnScope ["thing"] ["thing"] (defScope sWhole) := ⟨rfl, rfl, rfl, by decide +kernel, rfl, by decide +kernel, by decide +kernel⟩
theorem ok_whole {f : Addr} {fd : FuncData} (F : Fun K "is_whole" "is_whole" sWhole f fd) (G : Glb mg) : FnOk P w K mg base CX0 1 f fd ["thing"] (spWhole K) := by
  refine F.ok scWhole (fun vs H Q E h => ?_) (fun cdv A outer s H vs Q E hr h => ?_)
  · obtain ⟨v, k, rfl, _⟩ := h
    rfl
  · obtain ⟨v, k, rfl, hk, q⟩ := h
    refine ⟨_, pss_one (ps_ret (pe_and (pe_callB (call_isiK (kit_int _)) (by rfl) G.isi PyProof.Rows.boot_isinstance (pa_cons (pv 0) (pa_cons (pe_bltn (v := .ty "int") (by rfl) G.int PyProof.Rows.boot_int rfl) pa_nil)))
      (pe_one (pe_not (pe_callB (call_isiK (kit_bool _)) (by rfl) G.isi PyProof.Rows.boot_isinstance (pa_cons (pv 0) (pa_cons (pe_bltn (v := .ty "bool") (by rfl) G.bool PyProof.Rows.boot_bool rfl) pa_nil))))))), ?_⟩
    refine ⟨_, rfl, _, k, rfl, hk, _, rfl, ?_⟩
    cases k with
    | int => exact iteT ⟨_, rfl, _, .int, rfl, hk, _, rfl, q⟩
    | bl => exact iteT ⟨_, rfl, _, .bl, rfl, hk, _, rfl, q⟩
    | _ => exact iteF q
theorem scWithin : FnScope ["thing", "least", "most"] ["thing", "least", "most"] (defScope sWithin) := ⟨rfl, rfl, rfl, by decide +kernel, rfl, by decide +kernel, by decide +kernel⟩
theorem ok_within {f f1 : Addr} {fd fd1 : FuncData} (F : Fun K "is_within" "is_within" sWithin f fd) (G : Glb mg) (C1 : Cal P w K mg base 1 "is_whole" f1 fd1 ["thing"] (spWhole K)) : FnOk P w K mg base CX0 2 f fd ["thing", "least", "most"] (spWithin K) := by
  refine F.ok scWithin (fun vs H Q E h => ?_) (fun cdv A outer s H vs Q E hr h => ?_)
  · obtain ⟨v, k, lo, hi, rfl, _⟩ := h
    rfl
  · obtain ⟨v, k, lo, hi, rfl, hk, q⟩ := h
    refine ⟨_, pss_one (ps_ret (pe_and (pe_fn C1 hr (by rfl) (pa_cons (pv 0) pa_nil)) (pe_one (pe_chain op_le op_le (pv 1) (pv 0) (pv 2))))), ?_⟩
    refine ⟨_, rfl, v, k, rfl, hk, _, rfl, ?_⟩
    cases k with
    | int =>
      obtain ⟨i, rfl⟩ := kind_int hk
      refine iteT ⟨_, rfl, _, rfl, _, _, rfl, rfl, _, rfl, ?_⟩
      refine ite2 (fun h1 => ?_) (fun h1 => ?_)
      · refine ⟨_, rfl, _, _, rfl, rfl, ?_⟩
        have : within (.int i) lo hi = decide (i ≤ hi) := by simp only [within, h1, Bool.true_and]
        show Q (.bl (decide (i ≤ hi))) H
        rw [← this]; exact q
      · have : within (.int i) lo hi = false := by simp only [within]; rw [Bool.eq_false_iff.mpr h1, Bool.false_and]
        rw [← this]; exact q
    | _ =>
      refine iteF ?_
      rw [← within_not hk (fun z => nomatch z) lo hi]
      exact q
end
end K20
end
section
set_option Elab.async false
set_option linter.all false
set_option maxRecDepth 100000
set_option maxHeartbeats 4000000
namespace K20
open PySem L2
noncomputable def signB (c : Nat) : Bool := !(Builtin.Str.occurrences "abcdefghijklmnopqrstuvwxyz0123456789" ⟨#[c]⟩ 0 (Str.length "abcdefghijklmnopqrstuvwxyz0123456789") 1).isEmpty
noncomputable def partB (x : Str) : Bool := (decide ((1 : Int) ≤ x.length) && decide ((x.length : Int) ≤ 4)) && x.cps.toList.all signB
noncomputable def PartV (K : PySem.W.Frag) (H : Hp) (v : V) (b : Bool) : Prop := (∃ x, v = .str x ∧ x.length ≤ sizeLine ∧ b = partB x) ∨ ∃ k, KindV K H v k ∧ isStr k = false ∧ b = false
noncomputable def spPart (K : PySem.W.Frag) : Sp := fun vs H Q _ => ∃ v b, vs = [v] ∧ PartV K H v b ∧ ∀ H', Same H H' → Q (.bl b) H'
theorem same_upd {H : Hp} {a : Addr} {o : HO} (h : H a = none) : Same H (upd H a o) := fun b u e => by rw [upd_ne (ne_of_none e h)]; exact e
section
variable {P : Program} {w : World} {K : PySem.W.Frag} {mg : Str → Option Value} {base : Heap}
theorem scPart : FnScope ["thing"] ["thing"] (defScope sPart) := ⟨rfl, rfl, rfl, by decide +kernel, rfl, by decide +kernel, by decide +kernel⟩
theorem ok_part {f : Addr} {fd : FuncData} (F : Fun K "is_part" "is_part" sPart f fd) (G : Glb mg) : FnOk P w K mg base CX0 1 f fd ["thing"] (spPart K) := by
  refine F.ok scPart (fun vs H Q E h => ?_) (fun cdv A outer s H vs Q E hr h => ?_)
  · obtain ⟨v, b, rfl, _⟩ := h
    rfl
  · obtain ⟨v, b, rfl, hp, q⟩ := h
    obtain ⟨t1, m1⟩ := G.partL
    obtain ⟨t2, m2⟩ := G.signs
    refine ⟨_, pss_cons (ps_if (PW.pt (pw_or (pt_not (pt_val (pe_callB (call_isiK (kit_str _)) (by rfl) G.isi PyProof.Rows.boot_isinstance (pa_cons (pv 0) (pa_cons (pe_bltn (v := .ty "str") (by rfl) G.str PyProof.Rows.boot_str rfl) pa_nil)))))
        (pw_or1 (pt_not (pt_chain op_le op_le pe_int (pe_callB call_len (by rfl) G.len PySem.boot_len (pa_cons (pv 0) pa_nil)) (pe_glob (v := .int 4) (by rfl) m1 ⟨t1, rfl⟩)))))) (pss_one (ps_ret pe_bl)) pss_nil)
      (pss_one (ps_ret (pe_callB (call_allL rfl) (by rfl) G.all PyProof.Rows.boot_all (pa_cons (pe_lc rfl (by rfl) (by show (["sign", "thing"] : List Str).Nodup; decide +kernel) (pi_str (pv 0)) (fun _ _ _ _ => pf_nil)
        (fun _ _ _ _ => pe_cmpR op_in_str (pv 0) (pe_glob (v := .str "abcdefghijklmnopqrstuvwxyz0123456789") (by rfl) m2 ⟨t2, rfl⟩) (by with_unfolding_all rfl))) pa_nil)))), ?_⟩
    rcases hp with ⟨x, rfl, hz, hb⟩ | ⟨k, hk, hs, rfl⟩
    · refine ⟨_, rfl, _, .str, rfl, kn_str x, _, rfl, ?_⟩
      refine iteF ⟨_, rfl, _, x.length, rfl, ⟨hz, rfl⟩, _, _, rfl, rfl, _, rfl, ?_⟩
      have tail : (decide ((1 : Int) ≤ x.length) && decide ((x.length : Int) ≤ 4)) = true → (tCB (rAll K) (tCons (tLc (iStr (tVar 0)) tAlways (tOp (fun x y H Q => ∃ i j, x = V.str i ∧ y = V.str j ∧ Q (V.bl (!(Builtin.Str.occurrences j i 0 j.length 1).isEmpty)) H) (tVar 0) (tC (.str "abcdefghijklmnopqrstuvwxyz0123456789")))) tNil)) (start ["thing"] [.str x]) H Q := fun hl => by
        refine ⟨_, rfl, x, rfl, lc_by x.cps.size (fun i ys H' => H' = H ∧ ys = ((x.cps.toList.take i).map signB).map V.bl) ⟨rfl, by simp⟩ (fun i ys H' hi hp => ?_) hz (fun i ys H' hi _ => hi) (fun i ys H' y H'' hi hp hy => ?_) (fun ys H' hp => ?_)⟩
        · rw [hp.2, List.length_map, List.length_map, List.length_take]
          omega
        · obtain ⟨rfl, rfl⟩ := hp
          obtain ⟨rfl, c, hc, rfl⟩ := hy
          refine alw ⟨_, rfl, _, _, rfl, rfl, ?_⟩
          refine ⟨rfl, ?_⟩
          have e : x.cps.toList[i]? = some c := by simpa using hc
          rw [List.take_add_one, e, List.map_append, List.map_append]
          rfl
        · obtain ⟨rfl, rfl⟩ := hp
          refine ⟨Nat.le_refl _, fun D hD => ⟨D, (x.cps.toList).map signB, rfl, ?_, ?_⟩⟩
          · refine SqL.of ?_
            rw [upd_same, List.take_of_length_le (by simp)]
          · have : b = ((x.cps.toList).map signB).all id := by
              rw [hb, partB, hl, Bool.true_and, List.all_map]
              rfl
            rw [← this]
            exact q _ (same_upd hD)
      refine ite2 (fun h1 => ?_) (fun h1 => ?_)
      · refine ⟨_, _, rfl, rfl, _, rfl, ?_⟩
        by_cases h2 : (x.length : Int) ≤ 4
        · rw [decide_eq_true h2]
          refine iteF ?_
          exact tail (by rw [h1, decide_eq_true h2]; rfl)
        · rw [decide_eq_false h2]
          refine iteT ?_
          have : b = false := by rw [hb, partB, decide_eq_false h2, Bool.and_false, Bool.false_and]
          rw [← this]
          exact q _ (Same.refl _)
      · refine ⟨_, rfl, ?_⟩
        refine iteT ?_
        have : b = false := by
          rw [hb, partB]
          have h1 : decide ((1 : Int) ≤ x.length) = false := Bool.eq_false_iff.mpr h1
          rw [h1, Bool.false_and, Bool.false_and]
        rw [← this]
        exact q _ (Same.refl _)
    · refine ⟨_, rfl, _, k, rfl, hk, _, rfl, ?_⟩
      rw [hs]
      exact iteT (iteT (q _ (Same.refl _)))
end
end K20
end
section
set_option Elab.async false
set_option linter.all false
set_option maxRecDepth 100000
set_option maxHeartbeats 4000000
namespace K20
open PySem L2
theorem tyOf_mono {K : PySem.W.Frag} {H H' : Hp} {v : V} {t : Value} (h : TyOf K H v t) (e : Same H H') : TyOf K H' v t := by
  cases h with
  | non => exact .non
  | bl x => exact .bl x
  | int i => exact .int i
  | str x => exact .str x
  | flt x => exact .flt x
  | lst q => exact .lst (e _ _ q)
  | frz q => exact .frz (e _ _ q)
  | tup q => exact .tup (e _ _ q)
  | dK q => exact .dK (e _ _ q)
  | dT q => exact .dT (e _ _ q)
  | ins q a b c d f => exact .ins (e _ _ q) a b c d f
theorem kindV_mono {K : PySem.W.Frag} {H H' : Hp} {v : V} {k : Kn} (h : KindV K H v k) (e : Same H H') : KindV K H' v k := ⟨tyOf_mono h.ty e, h.sh⟩
theorem partV_mono {K : PySem.W.Frag} {H H' : Hp} {v : V} {b : Bool} (h : PartV K H v b) (e : Same H H') : PartV K H' v b := by
  rcases h with h | ⟨k, h, r⟩
  · exact .inl h
  · exact .inr ⟨k, kindV_mono h e, r⟩
noncomputable def NameV (K : PySem.W.Frag) (H : Hp) (v : V) (b : Bool) : Prop :=
  (∃ (a : Addr) (xs : List V) (bs : List Bool), v = .ref a ∧ H a = some (.tup xs) ∧ xs.length ≤ sizeLine ∧ bs.length = xs.length ∧ (∀ (i : Nat) x b', xs[i]? = some x → bs[i]? = some b' → PartV K H x b') ∧
    b = ((decide ((1 : Int) ≤ xs.length) && decide ((xs.length : Int) ≤ 5)) && bs.all id)) ∨ ∃ k, KindV K H v k ∧ isTup k = false ∧ b = false
noncomputable def spName (K : PySem.W.Frag) : Sp := fun vs H Q _ => ∃ v b, vs = [v] ∧ NameV K H v b ∧ ∀ H', Same H H' → Q (.bl b) H'
noncomputable def spNeedN (K : PySem.W.Frag) : Sp := fun vs H Q _ => ∃ v, vs = [v] ∧ NameV K H v true ∧ ∀ H', Same H H' → Q .non H'
section
variable {P : Program} {w : World} {K : PySem.W.Frag} {mg : Str → Option Value} {base : Heap}
theorem scName : FnScope ["thing"] ["thing"] (defScope sName) := ⟨rfl, rfl, rfl, by decide +kernel, rfl, by decide +kernel, by decide +kernel⟩
theorem ok_name {f f1 : Addr} {fd fd1 : FuncData} (F : Fun K "is_name" "is_name" sName f fd) (G : Glb mg) (C1 : Cal P w K mg base 1 "is_part" f1 fd1 ["thing"] (spPart K)) : FnOk P w K mg base CX0 2 f fd ["thing"] (spName K) := by
  refine F.ok scName (fun vs H Q E h => ?_) (fun cdv A outer s H vs Q E hr h => ?_)
  · obtain ⟨v, b, rfl, _⟩ := h
    rfl
  · obtain ⟨v, b, rfl, hp, q⟩ := h
    obtain ⟨t1, m1⟩ := G.nameL
    refine ⟨_, pss_cons (ps_if (PW.pt (pw_or (pt_not (pt_val (pe_callB (call_isiK (kit_tuple _)) (by rfl) G.isi PyProof.Rows.boot_isinstance (pa_cons (pv 0) (pa_cons (pe_bltn (v := .ty "tuple") (by rfl) G.tuple PyProof.Rows.boot_tuple rfl) pa_nil)))))
        (pw_or1 (pt_not (pt_chain op_le op_le pe_int (pe_callB call_len (by rfl) G.len PySem.boot_len (pa_cons (pv 0) pa_nil)) (pe_glob (v := .int 5) (by rfl) m1 ⟨t1, rfl⟩)))))) (pss_one (ps_ret pe_bl)) pss_nil)
      (pss_one (ps_ret (pe_callB (call_allL rfl) (by rfl) G.all PyProof.Rows.boot_all (pa_cons (pe_lc rfl (by rfl) (by show (["part", "thing"] : List Str).Nodup; decide +kernel) (pi_tup (pv 0)) (fun _ _ _ _ => pf_nil)
        (fun _ _ _ _ => pe_fn C1 hr (by rfl) (pa_cons (pv 0) pa_nil))) pa_nil)))), ?_⟩
    rcases hp with ⟨a, xs, bs, rfl, ha, hz, hl, hbs, hb⟩ | ⟨k, hk, hs, rfl⟩
    · refine ⟨_, rfl, _, .tup, rfl, kn_tup ha, _, rfl, ?_⟩
      refine iteF ⟨_, rfl, _, xs.length, rfl, .inr ⟨xs, SqT.of ha, rfl⟩, _, _, rfl, rfl, _, rfl, ?_⟩
      have tail : (decide ((1 : Int) ≤ xs.length) && decide ((xs.length : Int) ≤ 5)) = true → (tCB (rAll K) (tCons (tLc (iTup K (tVar 0)) tAlways (tCall (spPart K) [] E0 (tCons (tVar 0) tNil))) tNil)) (start ["thing"] [.ref a]) H Q := fun hln => by
        refine ⟨_, rfl, a, rfl, ⟨xs, SqT.of ha⟩, lc_by xs.length (fun i ys H' => Same H H' ∧ ys = (bs.take i).map V.bl) ⟨Same.refl _, by simp⟩ (fun i ys H' hi hp => ?_) hz (fun i ys H' hi hp => ?_) (fun i ys H' y H'' hi hp hy => ?_) (fun ys H' hp => ?_)⟩
        · rw [hp.2, List.length_map, List.length_take]
          omega
        · exact ⟨xs, xs[i], SqT.of (hp.1 _ _ ha), by simp [hi]⟩
        · obtain ⟨s1, rfl⟩ := hp
          obtain ⟨rfl, hx⟩ := hy
          have hx := hx xs (SqT.of (s1 _ _ ha))
          have hbi : bs[i]? = some bs[i] := by simp [hl, hi]
          refine alw ⟨_, rfl, y, bs[i], rfl, partV_mono (hbs i y _ hx hbi) s1, fun H3 s3 => ⟨s1.trans s3, ?_⟩⟩
          rw [List.take_add_one, hbi, List.map_append]
          rfl
        · obtain ⟨s1, rfl⟩ := hp
          refine ⟨⟨xs, SqT.of (s1 _ _ ha), Nat.le_refl _⟩, fun D hD => ⟨D, bs, rfl, ?_, ?_⟩⟩
          · refine SqL.of ?_
            rw [upd_same, List.take_of_length_le (by omega)]
          · have : b = bs.all id := by rw [hb, hln, Bool.true_and]
            rw [← this]
            exact q _ (s1.trans (same_upd hD))
      refine ite2 (fun h1 => ?_) (fun h1 => ?_)
      · refine ⟨_, _, rfl, rfl, _, rfl, ?_⟩
        by_cases h2 : (xs.length : Int) ≤ 5
        · rw [decide_eq_true h2]
          refine iteF ?_
          exact tail (by rw [h1, decide_eq_true h2]; rfl)
        · rw [decide_eq_false h2]
          refine iteT ?_
          have : b = false := by rw [hb, decide_eq_false h2, Bool.and_false, Bool.false_and]
          rw [← this]
          exact q _ (Same.refl _)
      · refine ⟨_, rfl, ?_⟩
        refine iteT ?_
        have : b = false := by
          rw [hb]
          have h1 : decide ((1 : Int) ≤ xs.length) = false := Bool.eq_false_iff.mpr h1
          rw [h1, Bool.false_and, Bool.false_and]
        rw [← this]
        exact q _ (Same.refl _)
    · refine ⟨_, rfl, _, k, rfl, hk, _, rfl, ?_⟩
      rw [hs]
      exact iteT (iteT (q _ (Same.refl _)))
theorem scNeedN : FnScope ["thing"] ["thing"] (defScope sNeedN) := ⟨rfl, rfl, rfl, by decide +kernel, rfl, by decide +kernel, by decide +kernel⟩
theorem ok_needN {f f1 : Addr} {fd fd1 : FuncData} (F : Fun K "need_name" "need_name" sNeedN f fd) (G : Glb mg) (C1 : Cal P w K mg base 2 "is_name" f1 fd1 ["thing"] (spName K)) : FnOk P w K mg base CX0 3 f fd ["thing"] (spNeedN K) := by
  refine F.ok scNeedN (fun vs H Q E h => ?_) (fun cdv A outer s H vs Q E hr h => ?_)
  · obtain ⟨v, rfl, _⟩ := h
    rfl
  · obtain ⟨v, rfl, hp, q⟩ := h
    refine ⟨_, pss_one (ps_if (pt_not (pt_val (pe_fn C1 hr (by rfl) (pa_cons (pv 0) pa_nil)))) (pss_one ps_never) pss_nil), ?_⟩
    exact ⟨_, rfl, v, true, rfl, hp, fun H' s' => ⟨_, rfl, iteF (q H' s')⟩⟩
end
end K20
end
section
set_option Elab.async false
set_option linter.all false
set_option maxRecDepth 100000
set_option maxHeartbeats 4000000
namespace K20
open PySem L2
noncomputable abbrev sCell : Stmt := top 31
noncomputable abbrev sDrawn : Stmt := top 32
noncomputable abbrev sRoll : Stmt := top 33
noncomputable abbrev sRounds : Stmt := top 34
noncomputable abbrev sHead : Stmt := top 37
noncomputable def Kept (d : Addr) (H H' : Hp) : Prop := ∀ b o, b ≠ d → H b = some o → H' b = some o
theorem Kept.refl (d : Addr) (H : Hp) : Kept d H H := fun _ _ _ h => h
theorem Kept.trans {d : Addr} {H H1 H2 : Hp} (a : Kept d H H1) (b : Kept d H1 H2) : Kept d H H2 := fun c o n h => b c o n (a c o n h)
theorem Kept.of {d : Addr} {H H' : Hp} (h : Same H H') : Kept d H H' := fun b o _ e => h b o e
theorem kept_upd {d : Addr} {H : Hp} {o : HO} : Kept d H (upd H d o) := fun b u n e => by rw [upd_ne n]; exact e
noncomputable def DiceAt (H : Hp) (d : Addr) : Prop := ∃ a b : Int, H d = some (.lst [.int a, .int b])
theorem DiceAt.same {H H' : Hp} {d : Addr} (h : DiceAt H d) (e : Same H H') : DiceAt H' d := let ⟨a, b, q⟩ := h; ⟨a, b, e _ _ q⟩
noncomputable def spCell (K : PySem.W.Frag) : Sp := fun vs H Q _ => ∃ (a : Addr) (ns : List Int) (k : Int), vs = [.ref a, .int k] ∧ SqL K H a (ns.map V.int) ∧ ns.length ≤ 63 ∧ 0 ≤ k ∧ ∀ z H', Same H H' → Q (.int z) H'
noncomputable def spDrawn : Sp := fun vs H Q _ => ∃ c k : Int, vs = [.int c, .int k] ∧ ∀ z : Int, 0 ≤ z → Q (.int z) H
noncomputable def spRoll : Sp := fun vs H Q _ => ∃ (d : Addr) (m : Int), vs = [.ref d, .int m] ∧ DiceAt H d ∧ 0 < m ∧ m < 1073741824 ∧ ∀ (r : Int) (H' : Hp), 0 ≤ r → r < m → DiceAt H' d → Kept d H H' → Q (.int r) H'
section
variable {P : Program} {w : World} {K : PySem.W.Frag} {mg : Str → Option Value} {base : Heap}
theorem scCell : FnScope ["_law_script", "_law_k"] ["_law_script", "_law_k"] (defScope sCell) := ⟨rfl, rfl, rfl, by decide +kernel, rfl, by decide +kernel, by decide +kernel⟩
theorem units_of {A : Around} {k n : Nat} (hr : Room k A) (h : n ≤ 60) : A.units + n < cLine := by have := hr.units; omega
theorem ok_cell {f : Addr} {fd : FuncData} (F : Fun K "_law_cell" "_law_cell" sCell f fd) (G : Glb mg) : FnOk P w K mg base CX0 1 f fd ["_law_script", "_law_k"] (spCell K) := by
  refine F.ok scCell (fun vs H Q E h => ?_) (fun cdv A outer s H vs Q E hr h => ?_)
  · obtain ⟨a, ns, k, rfl, _⟩ := h
    rfl
  · obtain ⟨a, ns, k, rfl, ha, hl, h0, q⟩ := h
    refine ⟨_, pss_cons (ps_if (pt_cmpR (op_eqC (n := 1) (units_of hr (by decide))) (pv 0) (pe_lst pa_nil) (nomark _)) (pss_one (ps_ret (pe_op op_mul (pv 1) pe_int))) pss_nil)
      (pss_one (ps_ret (pe_op op_add (pe_ix ix_list (pv 0) (pe_op op_mod (pv 1) (pe_callB call_len (by rfl) G.len PySem.boot_len (pa_cons (pv 0) pa_nil))) (fun _ _ => rfl))
        (pe_op op_mul (pe_op op_fdiv (pv 1) (pe_callB call_len (by rfl) G.len PySem.boot_len (pa_cons (pv 0) pa_nil))) pe_int)))), ?_⟩
    refine ⟨_, rfl, Nat.zero_le _, fun l hl0 => ?_⟩
    have s1 : Same H (upd H l (.lst [])) := same_upd hl0
    have ha1 := s1.seq ha
    cases ns with
    | nil =>
      refine ⟨true, ?_, _, rfl, iteT ?_⟩
      · exact cmp_same_lists (n := 0) ha1 (SqL.of upd_same) rfl (fun j x y h1 _ => by simp at h1)
      · exact ⟨_, rfl, _, _, rfl, rfl, .inr ⟨by decide, by decide⟩, q _ _ s1⟩
    | cons n0 r =>
      refine ⟨false, ?_, _, rfl, iteF ?_⟩
      · exact cmp_lists_len ha1 (SqL.of upd_same) (by simp)
      · have hn : ((((n0 :: r).map V.int).length : Nat) : Int) = (r.length : Int) + 1 := by simp
        have hr63 : r.length ≤ 62 := by simpa using hl
        refine ⟨_, rfl, _, rfl, _, rfl, _, _, rfl, .inl ⟨_, ha1, rfl⟩, _, _, rfl, rfl, by rw [hn]; omega, ?_⟩
        obtain ⟨j, hj⟩ := Int.eq_ofNat_of_zero_le (Int.emod_nonneg k (show ((((n0 :: r).map V.int).length : Nat) : Int) ≠ 0 by rw [hn]; omega))
        have hjl : j < ((n0 :: r).map V.int).length := by
          have := Int.emod_lt_of_pos k (show (0 : Int) < ((((n0 :: r).map V.int).length : Nat) : Int) by rw [hn]; omega)
          omega
        have hjl2 : j < (n0 :: r).length := by simpa using hjl
        refine ⟨a, _, _, V.int ((n0 :: r)[j]), rfl, rfl, ha1, ?_, ?_⟩
        · rw [hj]
          exact atI_nat (by rw [List.getElem?_map, List.getElem?_eq_getElem hjl2]; rfl)
        · refine ⟨_, rfl, _, rfl, _, _, rfl, .inl ⟨_, ha1, rfl⟩, _, _, rfl, rfl, ⟨by rw [hn]; omega, by rw [hn]; omega⟩, _, _, rfl, rfl, .inr ⟨by decide, by decide⟩, _, _, rfl, rfl, q _ _ s1⟩
theorem scDrawn : FnScope ["_law_cell_here", "_law_k", "_law_more"] ["_law_cell_here", "_law_k"] (defScope sDrawn) := ⟨rfl, rfl, rfl, by decide +kernel, rfl, by decide +kernel, by decide +kernel⟩
theorem bits_of {z : Int} {m : Nat} (h0 : 0 ≤ z) (h1 : z < 2 ^ m) : Builtin.Int.intBits z ≤ m := by
  refine (PySem.intBits_le_iff (x := z) (m := m)).mpr ?_
  have : (z.natAbs : Int) = z := by omega
  have h2 : (z.natAbs : Int) < ((2 ^ m : Nat) : Int) := by rw [this]; simpa using h1
  exact Int.ofNat_lt.mp h2
theorem mulOk {a b : Int} (ha0 : 0 ≤ a) (ha : a < 2 ^ 250) (hb0 : 0 ≤ b) (hb : b < 2 ^ 250) : IntMulOk a b := PySem.IntMulOk.of_bits (Nat.le_trans (bits_of ha0 ha) (by decide)) (Nat.le_trans (bits_of hb0 hb) (by decide))
theorem m1_nn (x : Int) : 0 ≤ x % 340282366920938463463374607431768211507 := Int.emod_nonneg _ (by decide)
theorem m1_lt (x : Int) : x % 340282366920938463463374607431768211507 < 2 ^ 250 := Int.lt_trans (Int.emod_lt_of_pos _ (by decide)) (by decide)
theorem m2_nn (x : Int) : 0 ≤ x % 340282366920938463463374607431768211297 := Int.emod_nonneg _ (by decide)
theorem m2_lt (x : Int) : x % 340282366920938463463374607431768211297 < 2 ^ 250 := Int.lt_trans (Int.emod_lt_of_pos _ (by decide)) (by decide)
theorem a_nn (y : Int) : 0 ≤ y % 18446744073709551557 + 1 := by have := Int.emod_nonneg y (show (18446744073709551557 : Int) ≠ 0 by decide); omega
theorem a_lt (y : Int) : y % 18446744073709551557 + 1 < 2 ^ 66 := by have := Int.emod_lt_of_pos y (show (0 : Int) < 18446744073709551557 by decide); omega
theorem b_nn (x : Int) : 0 ≤ x % 340282366920938463463374607431768211297 / 18446744073709551557 + 1 := by have := Int.ediv_nonneg (m2_nn x) (show (0 : Int) ≤ 18446744073709551557 by decide); omega
theorem b_lt (x : Int) : x % 340282366920938463463374607431768211297 / 18446744073709551557 + 1 < 2 ^ 130 := by
  have h1 := Int.ediv_le_self 18446744073709551557 (m2_nn x)
  have h2 : x % 340282366920938463463374607431768211297 < 340282366920938463463374607431768211297 := Int.emod_lt_of_pos _ (by decide)
  omega
theorem ab_lt (x y : Int) : (y % 18446744073709551557 + 1) * (x % 340282366920938463463374607431768211297 / 18446744073709551557 + 1) < 2 ^ 250 :=
  Int.lt_of_le_of_lt (Int.mul_le_mul (Int.le_of_lt (a_lt y)) (Int.le_of_lt (b_lt x)) (b_nn x) (by decide)) (by decide)
theorem ok_drawn {f : Addr} {fd : FuncData} (F : Fun K "_law_drawn" "_law_drawn" sDrawn f fd) : FnOk P w K mg base CX0 1 f fd ["_law_cell_here", "_law_k"] spDrawn := by
  refine F.ok scDrawn (fun vs H Q E h => ?_) (fun cdv A outer s H vs Q E hr h => ?_)
  · obtain ⟨c, k, rfl, _⟩ := h
    rfl
  · obtain ⟨c, k, rfl, q⟩ := h
    refine ⟨_, pss_cons (ps_set (i := 2) scDrawn.nd rfl (Or.inl rfl) (pe_op op_mod (pe_op op_add (pe_op op_mul (pv 0) pe_int) (pe_op op_mul (pe_op op_add (pv 1) pe_int) pe_int)) pe_int))
      (pss_cons (ps_set (i := 2) scDrawn.nd rfl (Or.inl rfl) (pe_op op_mod (pe_op op_mulX (pv 2) (pv 2)) pe_int))
      (pss_cons (ps_set (i := 2) scDrawn.nd rfl (Or.inl rfl) (pe_op op_mulX (pe_op op_mulX (pe_op op_add (pe_op op_mod (pv 2) pe_int) pe_int) (pe_op op_add (pe_op op_fdivX (pv 2) pe_int) pe_int)) (pv 2)))
      (pss_one (ps_ret (pe_op op_mod (pv 2) pe_int))))), ?_⟩
    refine ⟨_, rfl, _, _, rfl, rfl, .inr ⟨by decide, by decide⟩, _, rfl, _, _, rfl, rfl, _, _, rfl, rfl, .inr ⟨by decide, by decide⟩, _, _, rfl, rfl, _, _, rfl, rfl, (by show (0 : Int) < 340282366920938463463374607431768211507; decide), ?_⟩
    refine ⟨_, rfl, _, rfl, _, _, rfl, rfl, mulOk (m1_nn _) (m1_lt _) (m1_nn _) (m1_lt _), _, _, rfl, rfl, (by show (0 : Int) < 340282366920938463463374607431768211297; decide), ?_⟩
    refine ⟨_, rfl, _, _, rfl, rfl, (by show (0 : Int) < 18446744073709551557; decide), _, _, rfl, rfl, _, rfl, _, _, rfl, rfl, ⟨by decide, by decide +kernel⟩, _, _, rfl, rfl, ?_⟩
    refine ⟨_, _, rfl, rfl, mulOk (a_nn _) (Int.lt_trans (a_lt _) (by decide)) (b_nn _) (Int.lt_trans (b_lt _) (by decide)), _, rfl, _, _, rfl, rfl, mulOk (Int.mul_nonneg (a_nn _) (b_nn _)) (ab_lt _ _) (m2_nn _) (m2_lt _), ?_⟩
    exact ⟨_, rfl, _, _, rfl, rfl, (by show (0 : Int) < 340282366920938463463374607431768211507; decide), q _ (m1_nn _)⟩
end
end K20
end
section
set_option Elab.async false
set_option linter.all false
set_option maxRecDepth 100000
set_option maxHeartbeats 4000000
namespace K20
open PySem L2
noncomputable def parts5 : List Str := ["a", "b", "c", "x9", "long"]
theorem parts5_good : ∀ x ∈ parts5, partB x = true := by decide +kernel
noncomputable def spRounds (K : PySem.W.Frag) : Sp := fun vs H Q _ => ∃ (a : Addr) (ns : List Int) (m : Int), vs = [.ref a, .int m] ∧ SqL K H a (ns.map V.int) ∧ ns.length ≤ 63 ∧ 0 ≤ m ∧ m ≤ 8 ∧
  ∀ (l : Addr) (ds : List Addr) (H' : Hp), Same H H' → H' l = some (.lst (ds.map V.ref)) → (∀ d ∈ ds, DiceAt H' d ∧ H d = none) → H l = none → ds.length ≤ 8 → l ∉ ds → Q (.ref l) H'
noncomputable def Told (d : Addr) (H : Hp) (ok : List Str → Prop) (Q : VK) : Prop := ∀ (p : Addr) (ps : List Str) (H' : Hp), ok ps → H' p = some (.tup (ps.map V.str)) → DiceAt H' d → Kept d H H' → Q (.ref p) H'
noncomputable def HeadOk (ps : List Str) : Prop := ps.length ≤ 4 ∧ ∀ x ∈ ps, x ∈ parts5
noncomputable def NameOk (ps : List Str) : Prop := 1 ≤ ps.length ∧ ps.length ≤ 5 ∧ ∀ x ∈ ps, x ∈ parts5
noncomputable def spHead : Sp := fun vs H Q _ => ∃ d : Addr, vs = [.ref d] ∧ DiceAt H d ∧ Told d H HeadOk Q
section
variable {P : Program} {w : World} {K : PySem.W.Frag} {mg : Str → Option Value} {base : Heap}
theorem scRoll : FnScope ["_law_dice", "_law_many", "_law_told_here"] ["_law_dice", "_law_many"] (defScope sRoll) := ⟨rfl, rfl, rfl, by decide +kernel, rfl, by decide +kernel, by decide +kernel⟩
theorem ok_roll {f f1 : Addr} {fd fd1 : FuncData} (F : Fun K "_law_roll" "_law_roll" sRoll f fd) (C1 : Cal P w K mg base 1 "_law_drawn" f1 fd1 ["_law_cell_here", "_law_k"] spDrawn) : FnOk P w K mg base CX0 2 f fd ["_law_dice", "_law_many"] spRoll := by
  refine F.ok scRoll (fun vs H Q E h => ?_) (fun cdv A outer s H vs Q E hr h => ?_)
  · obtain ⟨d, m, rfl, _⟩ := h
    rfl
  · obtain ⟨d, m, rfl, ⟨a, b, hd⟩, m0, m1, q⟩ := h
    refine ⟨_, pss_cons (ps_if (pt_cmpR op_ge (pe_ix ix_list (pv 0) pe_int (fun _ _ => rfl)) (pe_op op_pow pe_int pe_int) (nomark _))
        (pss_cons (ps_set (i := 2) scRoll.nd rfl (Or.inl rfl) (pe_op op_mod (pe_ix ix_list (pv 0) pe_int (fun _ _ => rfl)) (pv 1)))
        (pss_cons (ps_asg (pe_op op_fdiv (pe_ix ix_list (pv 0) pe_int (fun _ _ => rfl)) (pv 1)) (pg_sub (pv 0) pe_int set_list))
        (pss_one (ps_ret (pv 2))))) pss_nil)
      (pss_cons (ps_asg (pe_op op_add (pe_ix ix_list (pv 0) pe_int (fun _ _ => rfl)) pe_int) (pg_sub (pv 0) pe_int set_list))
      (pss_one (ps_ret (pe_op op_mod (pe_op op_fdiv (pe_fn C1 hr (by rfl) (pa_cons (pe_ix ix_list (pv 0) pe_int (fun _ _ => rfl)) (pa_cons (pe_ix ix_list (pv 0) pe_int (fun _ _ => rfl)) pa_nil))) pe_int) (pv 1))))), ?_⟩
    refine ⟨_, rfl, d, _, 0, .int a, rfl, rfl, SqL.of hd, rfl, _, _, rfl, rfl, ⟨by decide, by decide, by decide⟩, _, _, rfl, rfl, _, rfl, ?_⟩
    refine ite2 (fun _ => ?_) (fun _ => ?_)
    · refine ⟨_, rfl, d, _, 0, .int a, rfl, rfl, SqL.of hd, rfl, _, rfl, _, _, rfl, rfl, m0, ?_⟩
      refine ⟨_, rfl, d, _, 0, .int a, rfl, rfl, SqL.of hd, rfl, _, rfl, _, _, rfl, rfl, ⟨m0, m1⟩, ?_⟩
      refine ⟨_, rfl, d, _, 0, 0, rfl, rfl, hd, rfl, ?_⟩
      exact ⟨_, rfl, q _ _ (Int.emod_nonneg _ (by omega)) (Int.emod_lt_of_pos _ m0) ⟨_, _, upd_same⟩ kept_upd⟩
    · refine ⟨_, rfl, d, _, 1, .int b, rfl, rfl, SqL.of hd, rfl, _, _, rfl, rfl, ?_⟩
      refine ⟨_, rfl, d, _, 1, 1, rfl, rfl, hd, rfl, ?_⟩
      refine ⟨_, rfl, d, _, 0, .int a, rfl, rfl, SqL.of upd_same, rfl, _, rfl, d, _, 1, .int (b + 1), rfl, rfl, SqL.of upd_same, rfl, _, _, rfl, fun z z0 => ?_⟩
      refine ⟨_, _, rfl, rfl, ⟨by decide, by decide⟩, _, rfl, _, _, rfl, rfl, m0, ?_⟩
      exact q _ _ (Int.emod_nonneg _ (by omega)) (Int.emod_lt_of_pos _ m0) ⟨_, _, upd_same⟩ kept_upd
theorem scRounds : FnScope ["_law_script", "_law_most"] ["_law_script", "_law_most"] (defScope sRounds) := ⟨rfl, rfl, rfl, by decide +kernel, rfl, by decide +kernel, by decide +kernel⟩
theorem ok_rounds {f f1 : Addr} {fd fd1 : FuncData} (F : Fun K "_law_rounds" "_law_rounds" sRounds f fd) (G : Glb mg) (C1 : Cal P w K mg base 1 "_law_cell" f1 fd1 ["_law_script", "_law_k"] (spCell K)) : FnOk P w K mg base CX0 2 f fd ["_law_script", "_law_most"] (spRounds K) := by
  refine F.ok scRounds (fun vs H Q E h => ?_) (fun cdv A outer s H vs Q E hr h => ?_)
  · obtain ⟨a, ns, m, rfl, _⟩ := h
    rfl
  · obtain ⟨a, ns, m, rfl, ha, hl, m0, m8, q⟩ := h
    refine ⟨_, pss_one (ps_ret (pe_lc rfl (by rfl) (by show (["_law_k", "_law_script", "_law_most"] : List Str).Nodup; decide +kernel)
      (pi_range1 (by rfl) G.range (pa_cons (pe_callB (call_max2 rfl) (by rfl) G.max PyProof.Rows.boot_max (pa_cons pe_int (pa_cons (pe_callB (call_min2 rfl) (by rfl) G.min PyProof.Rows.boot_min (pa_cons (pv 1) (pa_cons (pe_callB call_len (by rfl) G.len PySem.boot_len (pa_cons (pv 0) pa_nil)) pa_nil))) pa_nil))) pa_nil))
      (fun _ _ _ _ => pf_nil) (fun _ _ _ _ => pe_lst (pa_cons (pe_fn C1 hr (by rfl) (pa_cons (pv 1) (pa_cons (pv 0) pa_nil))) (pa_cons pe_int pa_nil))))), ?_⟩
    refine ⟨_, rfl, _, rfl, _, _, rfl, .inl ⟨_, ha, rfl⟩, _, _, rfl, _, _, rfl, _, rfl, ?_⟩
    generalize hj : (if (if (((ns.map V.int).length : Nat) : Int) < m then (((ns.map V.int).length : Nat) : Int) else m) > 1 then (if (((ns.map V.int).length : Nat) : Int) < m then (((ns.map V.int).length : Nat) : Int) else m) else 1) = j
    have j8 : 0 ≤ j ∧ j ≤ 8 := by rw [← hj]; split <;> split <;> omega
    refine ⟨by omega, by omega, lc_by j.toNat (fun i ys H' => Same H H' ∧ ∃ ds : List Addr, ys = ds.map V.ref ∧ (∀ d ∈ ds, DiceAt H' d ∧ H d = none) ∧ ds.length = i) ⟨Same.refl _, [], rfl, by simp, rfl⟩ (fun i ys H' hi hp => ?_) (Nat.le_trans (show j.toNat ≤ 8 by omega) (by decide)) (fun i ys H' hi hp => hi) (fun i ys H' y H'' hi hp hy => ?_) (fun ys H' hp => ?_)⟩
    · obtain ⟨_, ds, rfl, _, hd⟩ := hp
      rw [List.length_map]
      omega
    · obtain ⟨s1, ds, rfl, hds, hd⟩ := hp
      obtain ⟨rfl, rfl⟩ := hy
      refine alw ⟨_, rfl, _, rfl, a, ns, _, rfl, s1.seq ha, hl, by omega, fun z H3 s3 => ⟨(by show 2 ≤ sizeLine; decide), fun l hl0 => ?_⟩⟩
      have s4 : Same H'' (upd H3 l (.lst [.int z, .int 0])) := s3.trans (same_upd hl0)
      refine ⟨s1.trans s4, ds ++ [l], by simp, fun d hd' => ?_, by simp [hd]⟩
      rcases List.mem_append.mp hd' with h | h
      · exact ⟨(hds d h).1.same s4, (hds d h).2⟩
      · rw [List.mem_singleton.mp h]
        exact ⟨⟨_, _, upd_same⟩, (s1.trans s3).free hl0⟩
    · obtain ⟨s1, ds, rfl, hds, hd⟩ := hp
      refine ⟨Nat.le_refl _, fun D hD => ?_⟩
      refine q D ds _ (s1.trans (same_upd hD)) upd_same (fun d h => ⟨(hds d h).1.same (same_upd hD), (hds d h).2⟩) (s1.free hD) (by omega) fun h => ?_
      obtain ⟨_, _, e⟩ := (hds D h).1
      rw [hD] at e
      cases e
theorem scHead : FnScope ["_law_dice", "_law_parts"] ["_law_dice"] (defScope sHead) := ⟨rfl, rfl, rfl, by decide +kernel, rfl, by decide +kernel, by decide +kernel⟩
theorem parts_at {i : Int} (h0 : 0 ≤ i) (h1 : i < 5) : ∃ x ∈ parts5, atI (parts5.map V.str) i = some (.str x) := by
  obtain ⟨j, rfl⟩ := Int.eq_ofNat_of_zero_le h0
  have hj : j < parts5.length := by show j < 5; omega
  exact ⟨parts5[j], List.getElem_mem hj, atI_nat (by rw [List.getElem?_map, List.getElem?_eq_getElem hj]; rfl)⟩
theorem ok_head {f f1 : Addr} {fd fd1 : FuncData} (F : Fun K "_law_head" "_law_head" sHead f fd) (G : Glb mg) (C1 : Cal P w K mg base 2 "_law_roll" f1 fd1 ["_law_dice", "_law_many"] spRoll) : FnOk P w K mg base CX0 3 f fd ["_law_dice"] spHead := by
  refine F.ok scHead (fun vs H Q E h => ?_) (fun cdv A outer s H vs Q E hr h => ?_)
  · obtain ⟨d, rfl, _⟩ := h
    rfl
  · obtain ⟨d, rfl, hd, q⟩ := h
    refine ⟨_, pss_cons (ps_set (i := 1) scHead.nd rfl (Or.inr rfl) (pe_lst (pa_cons pe_str (pa_cons pe_str (pa_cons pe_str (pa_cons pe_str (pa_cons pe_str pa_nil)))))))
      (pss_one (ps_ret (pe_callTy call_tuple_of (by rfl) G.tuple PyProof.Rows.boot_tuple (pa_cons (pe_lc rfl (by rfl) (by show (["_law_turn", "_law_dice", "_law_parts"] : List Str).Nodup; decide +kernel)
        (pi_range1 (by rfl) G.range (pa_cons (pe_fn C1 hr (by rfl) (pa_cons (pv 0) (pa_cons pe_int pa_nil))) pa_nil))
        (fun _ _ _ _ => pf_nil) (fun _ _ _ _ => pe_ix (r := rIxL K) ix_list (pv 2) (pe_op op_mul (pe_fn C1 hr (by rfl) (pa_cons (pv 1) (pa_cons pe_int pa_nil))) (pe_fn C1 hr (by rfl) (pa_cons (pv 1) (pa_cons pe_int pa_nil)))) (fun _ _ => rfl))) pa_nil)))), ?_⟩
    refine ⟨by decide, fun pl hpl => ?_⟩
    have k0 : Kept d H (upd H pl (.lst (parts5.map V.str))) := .of (same_upd hpl)
    have nd : pl ≠ d := fun e => by obtain ⟨_, _, z⟩ := hd; rw [← e, hpl] at z; cases z
    refine ⟨_, rfl, d, 5, rfl, hd.same (same_upd hpl), by decide, by decide, fun r H1 r0 r5 hd1 k1 => ⟨_, rfl, by omega, by omega, ?_⟩⟩
    have h1 : H1 pl = some (.lst (parts5.map V.str)) := k1 pl _ nd upd_same
    refine lc_by r.toNat (fun i ys H' => Kept d H1 H' ∧ DiceAt H' d ∧ ∃ ps : List Str, ys = ps.map V.str ∧ ps.length = i ∧ ∀ x ∈ ps, x ∈ parts5) ⟨Kept.refl _ _, hd1, [], rfl, rfl, by simp⟩ (fun i ys H' hi hp => ?_) (Nat.le_trans (show r.toNat ≤ 5 by omega) (by decide)) (fun i ys H' hi hp => hi) (fun i ys H' y H'' hi hp hy => ?_) (fun ys H' hp => ?_)
    · obtain ⟨_, _, ps, rfl, e, _⟩ := hp
      rw [List.length_map]
      omega
    · obtain ⟨k2, hd2, ps, rfl, e, hps⟩ := hp
      obtain ⟨rfl, rfl⟩ := hy
      refine alw ⟨_, rfl, _, rfl, d, 5, rfl, hd2, by decide, by decide, fun r1 H3 a0 a5 hd3 k3 => ⟨_, rfl, d, 2, rfl, hd3, by decide, by decide, fun r2 H4 b0 b2 hd4 k4 => ?_⟩⟩
      have hr : r1 * r2 = 0 ∨ r1 * r2 = r1 := by
        have : r2 = 0 ∨ r2 = 1 := by omega
        rcases this with h | h <;> subst h <;> simp
      obtain ⟨x, hx, ex⟩ := parts_at (i := r1 * r2) (by omega) (by omega)
      refine ⟨_, _, rfl, rfl, .inl ⟨by omega, by omega⟩, pl, _, _, _, rfl, rfl, SqL.of (k4 pl _ nd (k3 pl _ nd (k2 pl _ nd h1))), ex, ?_⟩
      refine ⟨(k2.trans k3).trans k4, hd4, ps ++ [x], by simp, by simp [e], fun z hz => ?_⟩
      rcases List.mem_append.mp hz with h | h
      · exact hps z h
      · rw [List.mem_singleton.mp h]; exact hx
    · obtain ⟨k2, hd2, ps, rfl, e, hps⟩ := hp
      refine ⟨Nat.le_refl _, fun D hD => ⟨D, _, rfl, .inl ⟨SqL.of upd_same, fun l hl => ?_⟩⟩⟩
      have s3 : Same H' (upd (upd H' D (.lst (ps.map V.str))) l (.tup (ps.map V.str))) := (same_upd hD).trans (same_upd hl)
      exact q l ps _ ⟨by omega, hps⟩ upd_same (hd2.same s3) ((k0.trans (k1.trans k2)).trans (.of s3))
end
end K20
end
section
set_option Elab.async false
set_option linter.all false
set_option maxRecDepth 100000
set_option maxHeartbeats 4000000
namespace K20
open PySem L2
noncomputable abbrev sWord : Stmt := top 35
noncomputable abbrev sTold : Stmt := top 36
noncomputable def words9 : List Str := ["BadName", "BadSides", "BadNumber", "BadLetter", "NoHouse", "NoWay", "NoLetter", "Gone", "BadStory"]
noncomputable def flags9 (j : Nat) : List Bool := [decide (0 = j), decide (1 = j), decide (2 = j), decide (3 = j), decide (4 = j), decide (5 = j), decide (6 = j), decide (7 = j), decide (8 = j)]
theorem flags_sum : ∀ j, j < 9 → ((flags9 j).map fun b => if b = true then (1 : Int) else 0).sum = 1 := by decide
theorem flags_at : ∀ j, j < 9 → (flags9 j)[j]? = some true ∧ ∀ m, m < j → (flags9 j)[m]? = some false := by decide
structure Nine (K : PySem.W.Frag) (mg : Str → Option Value) (c0 c1 c2 c3 c4 c5 c6 c7 c8 W : Addr) : Prop where
  m0 : mg "BadName" = some (.ref c0)
  m1 : mg "BadSides" = some (.ref c1)
  m2 : mg "BadNumber" = some (.ref c2)
  m3 : mg "BadLetter" = some (.ref c3)
  m4 : mg "NoHouse" = some (.ref c4)
  m5 : mg "NoWay" = some (.ref c5)
  m6 : mg "NoLetter" = some (.ref c6)
  m7 : mg "Gone" = some (.ref c7)
  m8 : mg "BadStory" = some (.ref c8)
  mW : mg "WantError" = some (.ref W)
  hB : PySem.W.mroIn K W (.type "BaseException") = some true
  ve : mg "ValueError" = none
  sum : mg "sum" = none
structure Flg (K : PySem.W.Frag) (cs : List Addr) (W C : Addr) (j : Nat) : Prop where
  lt : j < 9
  is : ExcIs K C
  up : PySem.W.kitCls K (.ref C) (.ref W) = some true
  fl : ∀ i c, cs[i]? = some c → PySem.W.kitOne K (.ref C) (.ref c) = some (decide (i = j))
  ve : PySem.W.kitOne K (.ref C) (.type "ValueError") = some true
noncomputable def spWord (K : PySem.W.Frag) (cs : List Addr) (W : Addr) : Sp := fun vs H Q _ => ∃ (a : Addr) (o : Obj) (C : Addr) (j : Nat) (wrd : Str), vs = [.ref a] ∧ H a = some (excH o) ∧ ExcObj o C ∧ Flg K cs W C j ∧ words9[j]? = some wrd ∧
  ∀ (t : Addr) (H' : Hp), Same H H' → H' t = some (.tup [.str "refused", .str wrd]) → Q (.ref t) H'
section
variable {P : Program} {w : World} {K : PySem.W.Frag} {mg : Str → Option Value} {base : Heap}
theorem scWord : FnScope ["_law_e", "_law_flags", "_law_words"] ["_law_e"] (defScope sWord) := ⟨rfl, rfl, rfl, by decide +kernel, rfl, by decide +kernel, by decide +kernel⟩
theorem ok_word {f c0 c1 c2 c3 c4 c5 c6 c7 c8 W : Addr} {fd : FuncData} (F : Fun K "_law_word" "_law_word" sWord f fd) (G : Glb mg) (N : Nine K mg c0 c1 c2 c3 c4 c5 c6 c7 c8 W) : FnH P w K mg base 1 f fd ["_law_e"] (spWord K [c0, c1, c2, c3, c4, c5, c6, c7, c8] W) := by
  refine fnh_of F scWord (fun vs H Q E h => ?_) (fun cdv A outer s H vs Q sob hu h => ?_)
  · obtain ⟨a, o, C, j, wrd, rfl, _⟩ := h
    rfl
  · obtain ⟨a, o, C, j, wrd, rfl, ha, eo, fl, hw, k⟩ := h
    refine ⟨_, pss_cons (ps_set (i := 1) scWord.nd rfl (Or.inl rfl) (pe_lst (pa_cons (pe_callB call_isiE (by rfl) G.isi PyProof.Rows.boot_isinstance (pa_cons (pv 0) (pa_cons (pe_glob (v := .ref c0) (by rfl) N.m0 rfl) pa_nil))) (pa_cons (pe_callB call_isiE (by rfl) G.isi PyProof.Rows.boot_isinstance (pa_cons (pv 0) (pa_cons (pe_glob (v := .ref c1) (by rfl) N.m1 rfl) pa_nil))) (pa_cons (pe_callB call_isiE (by rfl) G.isi PyProof.Rows.boot_isinstance (pa_cons (pv 0) (pa_cons (pe_glob (v := .ref c2) (by rfl) N.m2 rfl) pa_nil))) (pa_cons (pe_callB call_isiE (by rfl) G.isi PyProof.Rows.boot_isinstance (pa_cons (pv 0) (pa_cons (pe_glob (v := .ref c3) (by rfl) N.m3 rfl) pa_nil))) pa_nil))))))
      (pss_cons (ps_set (i := 1) scWord.nd rfl (Or.inl rfl) (pe_op op_cat (pv 1) (pe_lst (pa_cons (pe_callB call_isiE (by rfl) G.isi PyProof.Rows.boot_isinstance (pa_cons (pv 0) (pa_cons (pe_glob (v := .ref c4) (by rfl) N.m4 rfl) pa_nil))) (pa_cons (pe_callB call_isiE (by rfl) G.isi PyProof.Rows.boot_isinstance (pa_cons (pv 0) (pa_cons (pe_glob (v := .ref c5) (by rfl) N.m5 rfl) pa_nil))) (pa_cons (pe_callB call_isiE (by rfl) G.isi PyProof.Rows.boot_isinstance (pa_cons (pv 0) (pa_cons (pe_glob (v := .ref c6) (by rfl) N.m6 rfl) pa_nil))) (pa_cons (pe_callB call_isiE (by rfl) G.isi PyProof.Rows.boot_isinstance (pa_cons (pv 0) (pa_cons (pe_glob (v := .ref c7) (by rfl) N.m7 rfl) pa_nil))) pa_nil)))))))
      (pss_cons (ps_expr (pe_bm PySem.F.plainAttrs_list PySem.F.slot_list_append PySem.F.type_list_append mt_append (pv 1) (pa_cons (pe_callB call_isiE (by rfl) G.isi PyProof.Rows.boot_isinstance (pa_cons (pv 0) (pa_cons (pe_glob (v := .ref c8) (by rfl) N.m8 rfl) pa_nil))) pa_nil)))
      (pss_cons (ps_set (i := 2) scWord.nd rfl (Or.inl rfl) (pe_lst (pa_cons pe_str (pa_cons pe_str (pa_cons pe_str (pa_cons pe_str (pa_cons pe_str (pa_cons pe_str (pa_cons pe_str (pa_cons pe_str (pa_cons pe_str pa_nil)))))))))))
      (pss_cons (ps_if (PW.pt (pw_or (pt_cmpR op_ne (pe_callB (call_sumH sob) (by rfl) N.sum PyProof.Rows.boot_sum (pa_cons (pe_lcH sob (by rfl) (by show (["_law_flag", "_law_e", "_law_flags", "_law_words"] : List Str).Nodup; decide +kernel) (pv 1) (fun _ _ _ _ => pf_nil)
          (fun _ _ _ _ => pe_callTy call_int1 (by rfl) G.int PyProof.Rows.boot_int (pa_cons (pv 0) pa_nil))) pa_nil)) pe_int (nomark _))
          (pw_or1 (pt_not (pt_val (pe_callB call_isiE (by rfl) G.isi PyProof.Rows.boot_isinstance (pa_cons (pv 0) (pa_cons (pe_bltn (v := .ty "ValueError") (by rfl) N.ve PyProof.Rows.Boot.«ValueError» rfl) pa_nil)))))))) (pss_one ps_never) pss_nil)
      (pss_one (ps_ret (pe_tup (pa_cons pe_str (pa_cons (pe_ix ix_list (pv 2) (pe_bm PySem.F.plainAttrs_list PySem.F.slot_list_index PySem.F.type_list_index mt_indexT (pv 1) (pa_cons pe_bl pa_nil)) (fun _ _ => rfl)) pa_nil))))))))), ?_⟩
    have HA := ha
    refine ⟨_, rfl, a, o, C, .ref c0, .ref c0, _, rfl, HA, eo, fl.is, fun _ z => z, fl.fl 0 c0 rfl, _, rfl, a, o, C, .ref c1, .ref c1, _, rfl, HA, eo, fl.is, fun _ z => z, fl.fl 1 c1 rfl, _, rfl, a, o, C, .ref c2, .ref c2, _, rfl, HA, eo, fl.is, fun _ z => z, fl.fl 2 c2 rfl, _, rfl, a, o, C, .ref c3, .ref c3, _, rfl, HA, eo, fl.is, fun _ z => z, fl.fl 3 c3 rfl, (by show 4 ≤ sizeLine; decide), fun l1 h1 => ?_⟩
    have s1 := same_upd (o := .lst [.bl (decide (0 = j)), .bl (decide (1 = j)), .bl (decide (2 = j)), .bl (decide (3 = j))]) h1
    have HA := s1 _ _ ha
    refine ⟨_, rfl, _, rfl, a, o, C, .ref c4, .ref c4, _, rfl, HA, eo, fl.is, fun _ z => z, fl.fl 4 c4 rfl, _, rfl, a, o, C, .ref c5, .ref c5, _, rfl, HA, eo, fl.is, fun _ z => z, fl.fl 5 c5 rfl, _, rfl, a, o, C, .ref c6, .ref c6, _, rfl, HA, eo, fl.is, fun _ z => z, fl.fl 6 c6 rfl, _, rfl, a, o, C, .ref c7, .ref c7, _, rfl, HA, eo, fl.is, fun _ z => z, fl.fl 7 c7 rfl, (by show 4 ≤ sizeLine; decide), fun l2 h2 => ?_⟩
    have s2 := same_upd (o := .lst [.bl (decide (4 = j)), .bl (decide (5 = j)), .bl (decide (6 = j)), .bl (decide (7 = j))]) h2
    refine ⟨l1, l2, _, _, rfl, rfl, s2 _ _ upd_same, upd_same, (by show 8 ≤ sizeLine; decide), fun l3 h3 => ?_⟩
    have s3 := same_upd (o := .lst ([.bl (decide (0 = j)), .bl (decide (1 = j)), .bl (decide (2 = j)), .bl (decide (3 = j))] ++ [.bl (decide (4 = j)), .bl (decide (5 = j)), .bl (decide (6 = j)), .bl (decide (7 = j))])) h3
    have s13 := (s1.trans s2).trans s3
    have HA := s13 _ _ ha
    have f3 : H l3 = none := (s1.trans s2).free h3
    refine ⟨_, rfl, .inl ⟨rfl, _, SqL.of upd_same⟩, _, rfl, a, o, C, .ref c8, .ref c8, _, rfl, HA, eo, fl.is, fun _ z => z, fl.fl 8 c8 rfl, l3, _, _, rfl, rfl, upd_same, (by show 8 < sizeLine; decide), ?_⟩
    rw [upd_upd]
    generalize hHH : upd (upd (upd H l1 _) l2 _) l3 _ = H4
    have h4 : H4 l3 = some (.lst ((flags9 j).map V.bl)) := by rw [← hHH]; exact upd_same
    have s4 : Same H H4 := fun b ob e => by rw [← hHH, upd_ne (ne_of_none e f3)]; exact (s1.trans s2) _ _ e
    refine ⟨(by show 9 ≤ sizeLine; decide), fun l4 h4n => ?_⟩
    have s5 := same_upd (o := .lst (words9.map V.str)) h4n
    have HA := (s4.trans s5) _ _ ha
    have h5 := s5 _ _ h4
    have hw5 : upd H4 l4 (.lst (words9.map V.str)) l4 = some (.lst (words9.map V.str)) := upd_same
    have s05 := s4.trans s5
    clear hHH
    refine ⟨_, rfl, l3, rfl, ⟨_, SqL.of h5⟩, lc_by 9 (fun i ys H' => H' = upd H4 l4 (.lst (words9.map V.str)) ∧ ys = ((flags9 j).take i).map fun b => V.int (if b = true then 1 else 0)) ⟨rfl, rfl⟩ (fun i ys H' hi hp => ?_) (by decide) (fun i ys H' hi hp => ?_) (fun i ys H' y H'' hi hp hy => ?_) (fun ys H' hp => ?_)⟩
    · rw [hp.2, List.length_map, List.length_take]
      omega
    · have hi9 : i < (flags9 j).length := hi
      rw [hp.1]
      exact ⟨_, V.bl (flags9 j)[i], SqL.of h5, by rw [List.getElem?_map, List.getElem?_eq_getElem hi9]; rfl⟩
    · obtain ⟨rfl, rfl⟩ := hp
      obtain ⟨rfl, hy⟩ := hy
      have hi9 : i < (flags9 j).length := hi
      have hy := hy _ (SqL.of h5)
      rw [List.getElem?_map, List.getElem?_eq_getElem hi9] at hy
      cases hy
      refine alw ⟨_, rfl, .inr ⟨(flags9 j)[i], rfl, rfl, ?_⟩⟩
      rw [List.take_add_one, List.getElem?_eq_getElem hi9, List.map_append]
      rfl
    · obtain ⟨rfl, rfl⟩ := hp
      refine ⟨⟨_, SqL.of h5, Nat.le_refl _⟩, fun D hD => ?_⟩
      have s6 := same_upd (o := .lst (((flags9 j).take 9).map fun b => V.int (if b = true then 1 else 0))) hD
      refine ⟨D, (flags9 j).map fun b => if b = true then 1 else 0, rfl, SqL.of (by rw [upd_same, List.map_map]; rfl), rfl, _, rfl, ?_⟩
      refine iteNS (congrArg V.int (flags_sum j fl.lt)) ?_
      refine ⟨_, rfl, a, o, C, .ty "ValueError", .type "ValueError", _, rfl, s6 _ _ HA, eo, fl.is, fun _ z => z, fl.ve, _, rfl, ?_⟩
      refine ⟨_, rfl, _, rfl, .inl ⟨rfl, _, SqL.of (s6 _ _ h5)⟩, l3, flags9 j, j, rfl, rfl, s6 _ _ h5, (flags_at j fl.lt).1, (flags_at j fl.lt).2, (by show 9 ≤ 1000; decide), l4, _, _, .str wrd, rfl, rfl, SqL.of (s6 _ _ hw5), atI_nat (by rw [List.getElem?_map, hw]; rfl), (by show 2 ≤ sizeLine; decide), fun t ht => ?_⟩
      exact k t _ ((s05.trans s6).trans (same_upd ht)) upd_same
theorem scTold : FnScope NTold ["_law_deed"] (defScope sTold) := ⟨rfl, rfl, rfl, by decide +kernel, rfl, by decide +kernel, by decide +kernel⟩
noncomputable def wd9 (K : PySem.W.Frag) (cs : List Addr) (W : Addr) : Addr → Str → Prop := fun C wrd => ∃ j, Flg K cs W C j ∧ words9[j]? = some wrd ∧ j ≠ 7
theorem ok_told {ft fW c0 c1 c2 c3 c4 c5 c6 c7 c8 W : Addr} {fdt fdW : FuncData} (F : Fun K "_law_told" "_law_told" sTold ft fdt) (bT : Binds K fdt ["_law_deed"] []) (G : Glb mg) (N : Nine K mg c0 c1 c2 c3 c4 c5 c6 c7 c8 W)
    (FW : FnH P w K mg base 1 fW fdW ["_law_e"] (spWord K [c0, c1, c2, c3, c4, c5, c6, c7, c8] W)) (mW : mg "_law_word" = some (.ref fW)) (kW : PySem.W.keepIn K (.ref fW) = true) (bW : Binds K fdW ["_law_e"] []) :
    ToldOk P w K mg base 1 ft W fdt (wd9 K [c0, c1, c2, c3, c4, c5, c6, c7, c8] W) := by
  refine ⟨fun kd A outer s H f Q pr hkw hr e0 hD hfn hf0 hpr => ?_⟩
  have KX : K.In s.heap := e0.mod.kin.keeps fun b o e => (e0.bs b o e).1
  refine told_run F scTold rfl rfl rfl (fun cd => by rfl) N.mW N.hB hr e0 (bT s [.ref f] KX rfl) hD hfn hf0 hpr ?_
  rintro cd a C o H2 eo ⟨wrd, ⟨j, fl, hw, j7⟩, q⟩ hn
  have hdp : A.depth + 1 + 3 * 1 + 5 < recursionLimit := by have := hr.dp; omega
  have hun : A.units + 3 + 16 * 1 + 200 < cLine := by have := hr.un; omega
  refine ⟨_, pss_one (ps_ret (pe_op op_catA (pe_callH (ex := a) FW rfl eo hdp hun (by rfl) mW kW bW (pa_cons (pv 1) pa_nil))
    (pe_ifExp (pt_val (pe_callB call_isiE (by rfl) G.isi PyProof.Rows.boot_isinstance (pa_cons (pv 1) (pa_cons (pe_glob (v := .ref c7) (by rfl) N.m7 rfl) pa_nil)))) pe_no (pe_tup pa_nil)))), ?_⟩
  refine ⟨_, rfl, upd_same, a, o, C, j, wrd, rfl, upd_same, eo, fl, hw, fun t H' sm ht => ?_⟩
  refine ⟨_, rfl, a, o, C, .ref c7, .ref c7, _, rfl, sm _ _ upd_same, eo, fl.is, fun _ z => z, fl.fl 7 c7 rfl, _, rfl, ?_⟩
  rw [decide_eq_false (Ne.symm j7)]
  refine iteF ⟨Nat.zero_le _, fun t0 ht0 => ?_⟩
  have s0 : Same H2 (upd H2 a (excH o)) := same_upd hn
  have s1 := same_upd (o := .tup []) ht0
  refine ⟨t, t0, _, _, rfl, rfl, SqT.of (s1 _ _ ht), SqT.of upd_same, (by show 2 ≤ sizeLine; decide), (fun z => by cases z), fun _ _ => ?_, fun _ z => absurd rfl z⟩
  exact q t _ ((s0.trans sm).trans s1) (s1 _ _ ht)
end
end K20
end
section
set_option Elab.async false
set_option linter.all false
set_option maxRecDepth 100000
set_option maxHeartbeats 4000000
namespace K20
open PySem L2
noncomputable abbrev sSide : Stmt := top 16
noncomputable abbrev sSides : Stmt := top 17
noncomputable abbrev sNeedS : Stmt := top 18
noncomputable abbrev sBeg : Stmt := top 25
noncomputable abbrev sNeedB : Stmt := top 27
noncomputable def isLst : Kn → Bool | .lst => true | _ => false
noncomputable def asInt : V → Option Int | .int i => some i | _ => none
noncomputable def sidesB (xs : List V) : Bool := xs.all (fun x => within x 0 7) && decide ((xs.filterMap asInt).Nodup)
noncomputable def SidesV (K : PySem.W.Frag) (H : Hp) (v : V) (b : Bool) : Prop := (∃ (l : Addr) (xs : List V), v = .ref l ∧ H l = some (.lst xs) ∧ xs.length ≤ 100 ∧ (∀ x ∈ xs, ∃ k, KindV K H x k) ∧ b = sidesB xs) ∨ ∃ k, KindV K H v k ∧ isLst k = false ∧ b = false
noncomputable def spSides (K : PySem.W.Frag) : Sp := fun vs H Q _ => ∃ v b, vs = [v] ∧ SidesV K H v b ∧ ∀ H', Same H H' → Q (.bl b) H'
theorem within_int {x : V} {lo hi : Int} (h : within x lo hi = true) : ∃ i, x = .int i := by
  cases x with
  | int i => exact ⟨i, rfl⟩
  | _ => cases h
theorem all_ints : ∀ {xs : List V}, xs.all (fun x => within x 0 7) = true → xs = (xs.filterMap asInt).map V.int
  | [], _ => rfl
  | x :: r, h => by
    rw [List.all_cons, Bool.and_eq_true] at h
    obtain ⟨i, rfl⟩ := within_int h.1
    have := all_ints h.2
    show V.int i :: r = V.int i :: (r.filterMap asInt).map V.int
    rw [← this]
theorem sidesV_mono {K : PySem.W.Frag} {H H' : Hp} {v : V} {b : Bool} (h : SidesV K H v b) (e : Same H H') : SidesV K H' v b := by
  rcases h with ⟨l, xs, rfl, h1, h2, h3, h4⟩ | ⟨k, h1, h2, h3⟩
  · exact .inl ⟨l, xs, rfl, e _ _ h1, h2, fun x hx => let ⟨k, z⟩ := h3 x hx; ⟨k, kindV_mono z e⟩, h4⟩
  · exact .inr ⟨k, kindV_mono h1 e, h2, h3⟩
structure Rz (K : PySem.W.Frag) (mg : Str → Option Value) (x : Str) (C : Addr) : Prop where
  ec : ExcC K C
  mg : mg x = some (.ref C)
noncomputable def BegV (K : PySem.W.Frag) (H : Hp) (v : V) (b : Bool) : Prop := ∃ b1, NameV K H v b1 ∧ ((b1 = true ∧ b = true) ∨ (b1 = false ∧ ((∃ (a : Addr) (xs : List V), v = .ref a ∧ H a = some (.tup xs) ∧ xs.length ≤ 1000 ∧ b = decide (xs.length = 0)) ∨ ∃ k, KindV K H v k ∧ isTup k = false ∧ b = false)))
noncomputable def spBeg (K : PySem.W.Frag) : Sp := fun vs H Q _ => ∃ v b, vs = [v] ∧ BegV K H v b ∧ ∀ H', Same H H' → Q (.bl b) H'
noncomputable def spNeedB (K : PySem.W.Frag) : Sp := fun vs H Q _ => ∃ v, vs = [v] ∧ BegV K H v true ∧ ∀ H', Same H H' → Q .non H'
noncomputable def spNeedS (K : PySem.W.Frag) : Sp := fun vs H Q _ => ∃ v, vs = [v] ∧ SidesV K H v true ∧ ∀ H', Same H H' → Q .non H'
noncomputable abbrev sAny : Stmt := top 38
noncomputable def spAny : Sp := fun vs H Q _ => ∃ d : Addr, vs = [.ref d] ∧ DiceAt H d ∧ Told d H NameOk Q
section
variable {P : Program} {w : World} {K : PySem.W.Frag} {mg : Str → Option Value} {base : Heap}
noncomputable def spSide (K : PySem.W.Frag) : Sp := fun vs H Q _ => ∃ v k, vs = [v] ∧ KindV K H v k ∧ Q (.bl (within v 0 7)) H
theorem scSide : FnScope ["thing"] ["thing"] (defScope sSide) := ⟨rfl, rfl, rfl, by decide +kernel, rfl, by decide +kernel, by decide +kernel⟩
theorem ok_side {f f1 : Addr} {fd fd1 : FuncData} (F : Fun K "is_side" "is_side" sSide f fd) (G : Glb mg) (C1 : Cal P w K mg base 2 "is_within" f1 fd1 ["thing", "least", "most"] (spWithin K)) : FnOk P w K mg base CX0 3 f fd ["thing"] (spSide K) := by
  refine F.ok scSide (fun vs H Q E h => ?_) (fun cdv A outer s H vs Q E hr h => ?_)
  · obtain ⟨v, k, rfl, _⟩ := h
    rfl
  · obtain ⟨v, k, rfl, hk, q⟩ := h
    obtain ⟨t1, m1⟩ := G.sideM
    exact ⟨_, pss_one (ps_ret (pe_fn C1 hr (by rfl) (pa_cons (pv 0) (pa_cons pe_int (pa_cons (pe_glob (v := .int 7) (by rfl) m1 ⟨t1, rfl⟩) pa_nil))))), _, rfl, v, k, 0, 7, rfl, hk, q⟩
theorem scSides : FnScope ["thing"] ["thing"] (defScope sSides) := ⟨rfl, rfl, rfl, by decide +kernel, rfl, by decide +kernel, by decide +kernel⟩
theorem ok_sides {f f1 : Addr} {fd fd1 : FuncData} (F : Fun K "is_sides" "is_sides" sSides f fd) (G : Glb mg) (C1 : Cal P w K mg base 3 "is_side" f1 fd1 ["thing"] (spSide K)) : FnOk P w K mg base CX0 4 f fd ["thing"] (spSides K) := by
  refine F.ok scSides (fun vs H Q E h => ?_) (fun cdv A outer s H vs Q E hr h => ?_)
  · obtain ⟨v, b, rfl, _⟩ := h
    rfl
  · obtain ⟨v, b, rfl, hp, q⟩ := h
    refine ⟨_, pss_cons (ps_if (pt_not (pt_val (pe_callB (call_isiK (kit_list _)) (by rfl) G.isi PyProof.Rows.boot_isinstance (pa_cons (pv 0) (pa_cons (pe_bltn (v := .ty "list") (by rfl) G.list PyProof.Rows.boot_list rfl) pa_nil))))) (pss_one (ps_ret pe_bl)) pss_nil)
      (pss_cons (ps_if (pt_not (pt_val (pe_callB (call_allL rfl) (by rfl) G.all PyProof.Rows.boot_all (pa_cons (pe_lc rfl (by rfl) (by show (["side", "thing"] : List Str).Nodup; decide +kernel) (pi_list (pv 0)) (fun _ _ _ _ => pf_nil)
        (fun _ _ _ _ => pe_fn C1 hr (by rfl) (pa_cons (pv 0) pa_nil))) pa_nil)))) (pss_one (ps_ret pe_bl)) pss_nil)
      (pss_one (ps_ret (pe_cmpR op_eq (pe_callB call_lenS (by rfl) G.len PySem.boot_len (pa_cons (pe_callTy (call_setI rfl) (by rfl) G.set PyProof.Rows.boot_set (pa_cons (pv 0) pa_nil)) pa_nil)) (pe_callB call_len (by rfl) G.len PySem.boot_len (pa_cons (pv 0) pa_nil)) (nomark _))))), ?_⟩
    rcases hp with ⟨l, xs, rfl, hl, hz, hks, hb⟩ | ⟨k, hk, hs, rfl⟩
    · refine ⟨_, rfl, _, .lst, rfl, kn_lst hl, _, rfl, iteF ?_⟩
      refine ⟨_, rfl, l, rfl, ⟨xs, SqL.of hl⟩, lc_by xs.length (fun i ys H' => H' = H ∧ ys = ((xs.take i).map fun x => within x 0 7).map V.bl) ⟨rfl, by simp⟩ (fun i ys H' hi hp => ?_) (Nat.le_of_lt (small1000 (by omega))) (fun i ys H' hi hp => ?_) (fun i ys H' y H'' hi hp hy => ?_) (fun ys H' hp => ?_)⟩
      · rw [hp.2, List.length_map, List.length_map, List.length_take]
        omega
      · rw [hp.1]
        exact ⟨xs, xs[i], SqL.of hl, by simp [hi]⟩
      · obtain ⟨rfl, rfl⟩ := hp
        obtain ⟨rfl, hy⟩ := hy
        have hy := hy xs (SqL.of hl)
        obtain ⟨k, hk⟩ := hks y (List.mem_of_getElem? hy)
        refine alw ⟨_, rfl, y, k, rfl, hk, rfl, ?_⟩
        rw [List.take_add_one, hy, List.map_append, List.map_append]
        rfl
      · obtain ⟨rfl, rfl⟩ := hp
        refine ⟨⟨xs, SqL.of hl, Nat.le_refl _⟩, fun D hD => ⟨D, xs.map fun x => within x 0 7, rfl, SqL.of (by rw [upd_same, List.take_of_length_le (Nat.le_refl _)]), _, rfl, ?_⟩⟩
        have s1 := same_upd (o := .lst (((xs.take xs.length).map fun x => within x 0 7).map V.bl)) hD
        have ea : (xs.map fun x => within x 0 7).all id = xs.all fun x => within x 0 7 := by rw [List.all_map]; rfl
        rw [ea]
        cases e : xs.all fun x => within x 0 7 with
        | false =>
          refine iteT ?_
          have : b = false := by rw [hb]; unfold sidesB; rw [e]; rfl
          rw [← this]
          exact q _ s1
        | true =>
          have ei := all_ints e
          have el : (xs.filterMap asInt).length = xs.length := by
            have := congrArg List.length ei
            rw [List.length_map] at this
            exact this.symm
          refine iteF ⟨_, rfl, l, xs.filterMap asInt, rfl, SqL.of (by rw [← ei]; exact s1 _ _ hl), by omega, fun p S n hp hn hiff => ⟨p, S, n, rfl, upd_same, _, rfl, _, xs.length, rfl, .inl ⟨xs, SqL.of (same_upd hp _ _ (s1 _ _ hl)), rfl⟩, ?_⟩⟩
          refine ⟨rfl, ?_⟩
          have eb : decide (V.int ((n : Nat) : Int) = V.int ((xs.length : Nat) : Int)) = b := by
            rw [hb]
            unfold sidesB
            rw [e, Bool.true_and]
            refine decide_eq_decide.mpr ⟨fun z => ?_, fun z => ?_⟩
            · have := V.int.inj z
              exact hiff.mp (by omega)
            · have := hiff.mpr z
              rw [this, el]
          rw [eb]
          exact q _ (s1.trans (same_upd hp))
    · refine ⟨_, rfl, _, k, rfl, hk, _, rfl, ?_⟩
      have : L2.isLst k = false := by cases k <;> first | rfl | cases hs
      rw [this]
      exact iteT (q _ (Same.refl _))
theorem scNeedS : FnScope ["thing"] ["thing"] (defScope sNeedS) := ⟨rfl, rfl, rfl, by decide +kernel, rfl, by decide +kernel, by decide +kernel⟩
theorem ok_needS {f f1 : Addr} {fd fd1 : FuncData} (F : Fun K "need_sides" "need_sides" sNeedS f fd) (C1 : Cal P w K mg base 4 "is_sides" f1 fd1 ["thing"] (spSides K)) : FnOk P w K mg base CX0 5 f fd ["thing"] (spNeedS K) := by
  refine F.ok scNeedS (fun vs H Q E h => ?_) (fun cdv A outer s H vs Q E hr h => ?_)
  · obtain ⟨v, rfl, _⟩ := h
    rfl
  · obtain ⟨v, rfl, hp, q⟩ := h
    refine ⟨_, pss_one (ps_if (pt_not (pt_val (pe_fn C1 hr (by rfl) (pa_cons (pv 0) pa_nil)))) (pss_one ps_never) pss_nil), ?_⟩
    exact ⟨_, rfl, v, true, rfl, hp, fun H' s' => ⟨_, rfl, iteF (q H' s')⟩⟩
theorem scBeg : FnScope ["thing"] ["thing"] (defScope sBeg) := ⟨rfl, rfl, rfl, by decide +kernel, rfl, by decide +kernel, by decide +kernel⟩
theorem ok_beg {f f1 : Addr} {fd fd1 : FuncData} (F : Fun K "is_beginning" "is_beginning" sBeg f fd) (G : Glb mg) (C1 : Cal P w K mg base 2 "is_name" f1 fd1 ["thing"] (spName K)) : FnOk P w K mg base CX0 3 f fd ["thing"] (spBeg K) := by
  refine F.ok scBeg (fun vs H Q E h => ?_) (fun cdv A outer s H vs Q E hr h => ?_)
  · obtain ⟨v, b, rfl, _⟩ := h
    rfl
  · obtain ⟨v, b, rfl, ⟨b1, hn, hb⟩, q⟩ := h
    refine ⟨_, pss_one (ps_ret (pe_or (pe_fn C1 hr (by rfl) (pa_cons (pv 0) pa_nil)) (pe_one (pe_and (pe_callB (call_isiK (kit_tuple _)) (by rfl) G.isi PyProof.Rows.boot_isinstance (pa_cons (pv 0) (pa_cons (pe_bltn (v := .ty "tuple") (by rfl) G.tuple PyProof.Rows.boot_tuple rfl) pa_nil)))
      (pe_one (pe_cmpR op_eq (pe_callB call_len (by rfl) G.len PySem.boot_len (pa_cons (pv 0) pa_nil)) pe_int (nomark _))))))), ?_⟩
    refine ⟨_, rfl, v, b1, rfl, hn, fun H1 s1 => ⟨_, rfl, ?_⟩⟩
    rcases hb with ⟨rfl, rfl⟩ | ⟨rfl, hb⟩
    · exact q H1 s1
    · rcases hb with ⟨a, xs, rfl, ha, hz, rfl⟩ | ⟨k, hk, hs, rfl⟩
      · have ha1 := s1 _ _ ha
        refine ⟨_, rfl, _, .tup, rfl, kn_tup ha1, _, rfl, ⟨_, rfl, _, xs.length, rfl, .inr ⟨xs, SqT.of ha1, rfl⟩, rfl, ?_⟩⟩
        have : decide (V.int ((xs.length : Nat) : Int) = V.int 0) = decide (xs.length = 0) := decide_eq_decide.mpr ⟨fun z => by have := V.int.inj z; omega, fun z => by rw [z]; rfl⟩
        rw [this]
        exact q H1 s1
      · refine ⟨_, rfl, _, k, rfl, kindV_mono hk s1, _, rfl, ?_⟩
        rw [hs]
        exact q H1 s1
theorem scNeedB : FnScope ["thing"] ["thing"] (defScope sNeedB) := ⟨rfl, rfl, rfl, by decide +kernel, rfl, by decide +kernel, by decide +kernel⟩
theorem ok_needB {f f1 : Addr} {fd fd1 : FuncData} (F : Fun K "need_beginning" "need_beginning" sNeedB f fd) (C1 : Cal P w K mg base 3 "is_beginning" f1 fd1 ["thing"] (spBeg K)) : FnOk P w K mg base CX0 4 f fd ["thing"] (spNeedB K) := by
  refine F.ok scNeedB (fun vs H Q E h => ?_) (fun cdv A outer s H vs Q E hr h => ?_)
  · obtain ⟨v, rfl, _⟩ := h
    rfl
  · obtain ⟨v, rfl, hp, q⟩ := h
    refine ⟨_, pss_one (ps_if (pt_not (pt_val (pe_fn C1 hr (by rfl) (pa_cons (pv 0) pa_nil)))) (pss_one ps_never) pss_nil), ?_⟩
    exact ⟨_, rfl, v, true, rfl, hp, fun H' s' => ⟨_, rfl, iteF (q H' s')⟩⟩
theorem scAny : FnScope ["_law_dice"] ["_law_dice"] (defScope sAny) := ⟨rfl, rfl, rfl, by decide +kernel, rfl, by decide +kernel, by decide +kernel⟩
theorem ok_any {f f1 f2 : Addr} {fd fd1 fd2 : FuncData} (F : Fun K "_law_any_name" "_law_any_name" sAny f fd) (C1 : Cal P w K mg base 2 "_law_roll" f1 fd1 ["_law_dice", "_law_many"] spRoll) (C2 : Cal P w K mg base 3 "_law_head" f2 fd2 ["_law_dice"] spHead) :
    FnOk P w K mg base CX0 4 f fd ["_law_dice"] spAny := by
  refine F.ok scAny (fun vs H Q E h => ?_) (fun cdv A outer s H vs Q E hr h => ?_)
  · obtain ⟨d, rfl, _⟩ := h
    rfl
  · obtain ⟨d, rfl, hd, q⟩ := h
    refine ⟨_, pss_one (ps_ret (pe_ifExp (pt_cmpR op_eq (pe_fn C1 (hr.mono (by decide)) (by rfl) (pa_cons (pv 0) (pa_cons pe_int pa_nil))) pe_int (nomark _)) (pe_tup (pa_cons pe_str pa_nil))
      (pe_op op_catA (pe_fn C2 hr (by rfl) (pa_cons (pv 0) pa_nil)) (pe_tup (pa_cons (pe_ix ix_list (pe_lst (pa_cons pe_str (pa_cons pe_str pa_nil))) (pe_fn C1 (hr.mono (by decide)) (by rfl) (pa_cons (pv 0) (pa_cons pe_int pa_nil))) (fun _ _ => rfl)) pa_nil))))), ?_⟩
    refine ⟨_, rfl, d, 3, rfl, hd, by decide, by decide, fun r H1 r0 r3 hd1 k1 => ⟨rfl, _, rfl, ?_⟩⟩
    refine ite2 (fun _ => ?_) (fun _ => ?_)
    · refine ⟨by decide, fun p hp => ?_⟩
      exact q p ["a"] _ ⟨by decide, by decide, by decide +kernel⟩ upd_same (hd1.same (same_upd hp)) (k1.trans (.of (same_upd hp)))
    · refine ⟨_, rfl, d, rfl, hd1, fun p ps H2 ho hp hd2 k2 => ⟨by decide, fun l hl => ⟨_, rfl, d, 2, rfl, hd2.same (same_upd hl), by decide, by decide, fun r2 H3 a0 a2 hd3 k3 => ?_⟩⟩⟩
      have nl : l ≠ d := fun e => by obtain ⟨_, _, z⟩ := hd2; rw [← e, hl] at z; cases z
      have np : p ≠ d := fun e => by obtain ⟨_, _, z⟩ := hd2; rw [← e, hp] at z; cases z
      have hl3 : H3 l = some (.lst [.str "a", .str "b"]) := k3 l _ nl upd_same
      have hp3 : H3 p = some (.tup (ps.map V.str)) := k3 p _ np ((same_upd hl) _ _ hp)
      have kk : Kept d H H3 := (k1.trans k2).trans ((Kept.of (same_upd hl)).trans k3)
      obtain ⟨x, hx, ex⟩ : ∃ x ∈ parts5, atI ([.str "a", .str "b"] : List V) r2 = some (.str x) := by
        have : r2 = 0 ∨ r2 = 1 := by omega
        rcases this with h | h
        · subst h; exact ⟨"a", by decide +kernel, rfl⟩
        · subst h; exact ⟨"b", by decide +kernel, rfl⟩
      refine ⟨l, _, r2, .str x, rfl, rfl, SqL.of hl3, ex, (by show 1 ≤ sizeLine; decide), fun t ht => ?_⟩
      have s4 : Same H3 (upd H3 t (.tup [.str x])) := same_upd ht
      have hlen : ps.length ≤ 4 := ho.1
      refine ⟨p, t, ps.map V.str, [.str x], rfl, rfl, SqT.of (s4 _ _ hp3), SqT.of upd_same, ?_, fun h0 => ?_, fun _ h => (by cases h), fun _ _ t2 ht2 => ?_⟩
      · rw [List.length_map]
        exact Nat.le_trans (show ps.length + 1 ≤ 5 by omega) (by decide)
      · exact q t [x] _ ⟨by simp, by simp, by simpa using hx⟩ upd_same (hd3.same s4) (kk.trans (.of s4))
      · refine q t2 (ps ++ [x]) _ ⟨by simp, by simp; omega, fun z hz => ?_⟩ (by rw [upd_same, List.map_append]; rfl) (hd3.same (s4.trans (same_upd ht2))) (kk.trans (.of (s4.trans (same_upd ht2))))
        rcases List.mem_append.mp hz with h | h
        · exact ho.2 z h
        · rw [List.mem_singleton.mp h]; exact hx
end
end K20
end
section
set_option Elab.async false
set_option linter.all false
set_option maxRecDepth 100000
set_option maxHeartbeats 400000
namespace K20
open PySem L2
noncomputable abbrev sTInit : Stmt := inClass (top 29) 0
noncomputable abbrev sTPut : Stmt := inClass (top 29) 1
noncomputable abbrev sTDrop : Stmt := inClass (top 29) 2
noncomputable abbrev sTWay : Stmt := inClass (top 29) 3
noncomputable abbrev sTSides : Stmt := inClass (top 29) 4
noncomputable abbrev sTRows : Stmt := inClass (top 29) 5
noncomputable abbrev sTLen : Stmt := inClass (top 29) 8
noncomputable abbrev sTEq : Stmt := inClass (top 29) 9
noncomputable def tflds (d : Addr) : List (Str × V) := putF "held" (.ref d) []
theorem tflds_held (d : Addr) : (tflds d).lookup ("held" : Str) = some (.ref d) := by
  unfold tflds
  rw [lookup_putF, if_pos rfl]
theorem tflds_no (d : Addr) {m : Str} (h1 : ¬ m = "held") : (tflds d).lookup m = none := by
  unfold tflds
  rw [lookup_putF, if_neg h1]
  rfl
noncomputable def Tups (H H' : Hp) : Prop := ∀ b xs, H b = some (.tup xs) → H' b = some (.tup xs)
theorem Tups.of {H H' : Hp} (h : Same H H') : Tups H H' := fun b xs e => h b _ e
theorem tups_upd {H : Hp} {d : Addr} {o u : HO} (h : H d = some o) (n : ∀ xs, o ≠ .tup xs) : Tups H (upd H d u) := fun b xs e => by rw [upd_ne (ne_of e h (fun z => n xs z.symm))]; exact e
noncomputable def FT (H : Hp) (v : V) (ns : List Int) : Prop := ∃ t, v = .ref t ∧ H t = some (.tup (ns.map V.int))
structure TabAt (C : Addr) (H : Hp) (p d : Addr) (R : List Row) : Prop where
  ob : ∃ dx, H p = some (.ins C dx (tflds d))
  dc : ∃ kvs, H d = some (.dT kvs) ∧ RowsOk (FT H) R kvs
theorem FT.same {H H' : Hp} {v : V} {ns : List Int} (h : FT H v ns) (e : Tups H H') : FT H' v ns := let ⟨t, h1, h2⟩ := h; ⟨t, h1, e _ _ h2⟩
theorem TabAt.same {C : Addr} {H H' : Hp} {p d : Addr} {R : List Row} (h : TabAt C H p d R) (e : Same H H') : TabAt C H' p d R :=
  ⟨let ⟨dx, q⟩ := h.ob; ⟨dx, e _ _ q⟩, let ⟨kvs, h1, h2⟩ := h.dc; ⟨kvs, e _ _ h1, rows_mono h2 fun _ _ z => z.same (.of e)⟩⟩
structure Txt (K : PySem.W.Frag) (mg : Str → Option Value) (C : Addr) : Prop where
  cl : Cls K C
  nH : NoAttr K C "held"
  mgC : mg "Table" = some (.ref C)
structure Met (P : Program) (w : World) (K : PySem.W.Frag) (mg : Str → Option Value) (base : Heap) (CX : CXT) (C : Addr) (k : Nat) (m : Str) (f : Addr) (fd : FuncData) (ps : List Str) (sp : Sp) : Prop where
  at_ : Meth K C m f
  ok : FnOk P w K mg base CX k f fd ps sp
  bd : Binds K fd ps []
noncomputable def spTInit (C : Addr) : Sp := fun vs H Q _ => ∃ (p dx : Addr), vs = [.ref p] ∧ H p = some (.ins C dx []) ∧ ∀ (d : Addr) (H' : Hp), H d = none → TabAt C H' p d [] → (∀ b o, H b = some o → b ≠ p → H' b = some o) → Q .non H'
noncomputable def spTPut (K : PySem.W.Frag) (C : Addr) : Sp := fun vs H Q _ => ∃ (p d q l : Addr) (R : List Row) (ps : List Str) (ns : List Int), vs = [.ref p, .ref q, .ref l] ∧ H q = some (.tup (ps.map V.str)) ∧ BegV K H (.ref q) true ∧ H l = some (.lst (ns.map V.int)) ∧ SidesV K H (.ref l) true ∧ TabAt C H p d R ∧ R.length ≤ 900 ∧
    ∀ H' : Hp, TabAt C H' p d (putR R ps ns) → Kept d H H' → Q .non H'
noncomputable def spTDrop (K : PySem.W.Frag) (C Nm : Addr) : Sp := fun vs H Q E => ∃ (p d q : Addr) (R : List Row) (ps : List Str), vs = [.ref p, .ref q] ∧ H q = some (.tup (ps.map V.str)) ∧ BegV K H (.ref q) true ∧ TabAt C H p d R ∧ (valR R ps = none → ∀ H', Same H H' → E (.ref Nm) none H') ∧
  ((valR R ps).isSome = true → ∀ H', TabAt C H' p d (dropR R ps) → Kept d H H' → Q .non H')
noncomputable def WayAt (H : Hp) (v : V) : Option Row → Prop
  | none => v = .non
  | some (k, sd) => ∃ t b l : Addr, v = .ref t ∧ H t = some (.tup [.ref b, .ref l]) ∧ H b = some (.tup (k.map V.str)) ∧ H l = some (.lst (sd.map V.int))
noncomputable def spTWay (K : PySem.W.Frag) (C : Addr) : Sp := fun vs H Q _ => ∃ (p d q : Addr) (R : List Row) (ns : List Str), vs = [.ref p, .ref q] ∧ H q = some (.tup (ns.map V.str)) ∧ NameV K H (.ref q) true ∧ ns.length ≤ 5 ∧ TabAt C H p d R ∧ ∀ v H', Same H H' → WayAt H' v (wayR R ns) → Q v H'
noncomputable def spTSides (K : PySem.W.Frag) (C : Addr) : Sp := fun vs H Q _ => ∃ (p d q : Addr) (R : List Row) (ns : List Str), vs = [.ref p, .ref q] ∧ H q = some (.tup (ns.map V.str)) ∧ NameV K H (.ref q) true ∧ ns.length ≤ 5 ∧ TabAt C H p d R ∧ ∀ l H', Same H H' → H' l = some (.lst ((sidesR R ns).map V.int)) → Q (.ref l) H'
section
variable {P : Program} {w : World} {K : PySem.W.Frag} {mg : Str → Option Value} {base : Heap}
theorem scTInit : FnScope ["self"] ["self"] (defScope sTInit) := ⟨rfl, rfl, rfl, by decide +kernel, rfl, by decide +kernel, by decide +kernel⟩
theorem ok_tinit {f C : Addr} {fd : FuncData} (F : Fun K "__init__" "Table.__init__" sTInit f fd) (T : Txt K mg C) : FnOk P w K mg base CX0 1 f fd ["self"] (spTInit C) := by
  refine F.ok scTInit (fun vs H Q E h => ?_) (fun cdv A outer s H vs Q E hr h => ?_)
  · obtain ⟨p, dx, rfl, _⟩ := h
    rfl
  · obtain ⟨p, dx, rfl, hp, k⟩ := h
    refine ⟨_, pss_one (ps_fld (pv 0) pe_dnewT rfl), ?_⟩
    intro d hd
    have npd : p ≠ d := ne_of_none hp hd
    refine ⟨_, rfl, p, C, dx, [], rfl, (by rw [upd_ne npd]; exact hp), T.cl, T.nH, (by show 0 < 1000; decide), ?_⟩
    refine k d _ hd ⟨⟨dx, upd_same⟩, [], by rw [upd_ne (Ne.symm npd), upd_same], .nil⟩ fun b o e hb => ?_
    rw [upd_ne hb, upd_ne (ne_of_none e hd)]
    exact e
noncomputable abbrev NTPut : List Str := ["self", "beginning", "sides"]
theorem scTPut : FnScope NTPut NTPut (defScope sTPut) := ⟨rfl, rfl, rfl, by decide +kernel, rfl, by decide +kernel, by decide +kernel⟩
theorem ok_tput {f f1 f2 C : Addr} {fd fd1 fd2 : FuncData} (F : Fun K "put" "Table.put" sTPut f fd) (G : Glb mg) (T : Txt K mg C) (C1 : Cal P w K mg base 4 "need_beginning" f1 fd1 ["thing"] (spNeedB K)) (C2 : Cal P w K mg base 5 "need_sides" f2 fd2 ["thing"] (spNeedS K)) :
    FnOk P w K mg base CX0 6 f fd NTPut (spTPut K C) := by
  refine F.ok scTPut (fun vs H Q E h => ?_) (fun cdv A outer s H vs Q E hr h => ?_)
  · obtain ⟨p, d, q, l, R, ps, ns, rfl, _⟩ := h
    rfl
  · obtain ⟨p, d, q, l, R, ps, ns, rfl, hq, hb, hl, hs, tab, hz, k⟩ := h
    have hu : _ := hu_of hr
    refine ⟨_, pss_cons (ps_expr (pe_fn C1 (hr.mono (by decide)) (by rfl) (pa_cons (pv 1) pa_nil))) (pss_cons (ps_expr (pe_fn C2 hr (by rfl) (pa_cons (pv 2) pa_nil)))
      (pss_one (ps_dput hu (pe_fld (pv 0) rfl) (pv 1) (pe_callTy call_tuple_of (by rfl) G.tuple PyProof.Rows.boot_tuple (pa_cons (pv 2) pa_nil)) rfl))), ?_⟩
    refine ⟨_, rfl, _, rfl, hb, fun H1 s1 => ⟨_, rfl, _, rfl, sidesV_mono hs s1, fun H2 s2 => ?_⟩⟩
    have s12 := s1.trans s2
    have t2 := tab.same s12
    obtain ⟨dx, o2⟩ := t2.ob
    refine ⟨_, rfl, l, _, rfl, .inl ⟨SqL.of (s12 _ _ hl), fun t ht => ?_⟩⟩
    have s3 := same_upd (o := .tup (ns.map V.int)) ht
    have s13 := s12.trans s3
    have t3 := t2.same s3
    obtain ⟨kvs, e3, r3⟩ := t3.dc
    have hkl : kvs.length ≤ 900 := by rw [← rows_len r3]; exact hz
    refine ⟨_, rfl, p, C, dx, _, _, rfl, s3 _ _ o2, T.cl, T.nH, tflds_held _, _, rfl, d, _, rfl, DPut.t (k := keyOf ps) e3 (by rw [keyOf_kV]; exact s13 _ _ hq) (small1000 (by omega)), ?_⟩
    have npd : p ≠ d := ne_of (s3 _ _ o2) e3 (fun z => nomatch z)
    have tu : Tups (upd H2 t (.tup (ns.map V.int))) (upd (upd H2 t (.tup (ns.map V.int))) d (.dT (putK kvs (keyOf ps) (.ref t)))) := tups_upd e3 (fun _ z => nomatch z)
    exact k _ ⟨⟨dx, by rw [upd_ne npd]; exact s3 _ _ o2⟩, _, upd_same, rows_mono (rows_put r3 ⟨t, rfl, upd_same⟩) fun _ _ z => z.same tu⟩ ((Kept.of s13).trans kept_upd)
theorem scTDrop : FnScope ["self", "beginning"] ["self", "beginning"] (defScope sTDrop) := ⟨rfl, rfl, rfl, by decide +kernel, rfl, by decide +kernel, by decide +kernel⟩
theorem okx_tdrop {f f1 C Nm : Addr} {fd fd1 : FuncData} (F : Fun K "drop" "Table.drop" sTDrop f fd) (R0 : Rz K mg "BadName" Nm) (T : Txt K mg C) (C1 : Cal P w K mg base 4 "need_beginning" f1 fd1 ["thing"] (spNeedB K)) : FnOk P w K mg base (CXF P w) 5 f fd ["self", "beginning"] (spTDrop K C Nm) := by
  refine F.okX scTDrop (fun vs H Q E h => ?_) (fun cdv A outer s H vs Q E hr h => ?_)
  · obtain ⟨p, d, q, R, ps, rfl, _⟩ := h
    rfl
  · obtain ⟨p, d, q, R, ps, rfl, hq, hb, tab, q1, q2⟩ := h
    have hu : _ := hu_of hr
    refine ⟨_, pss_cons (ps_expr (pe_fn C1 hr (by rfl) (pa_cons (pv 1) pa_nil))) (pss_cons (ps_if (pt_cmp (pc_dnotin hu (pv 1) (pe_fld (pv 0) rfl))) (pss_one (ps_raise flies_cxOf rfl R0.ec (by rfl) R0.mg (pa_cons pe_str pa_nil))) pss_nil) (pss_one (ps_ddelT (units_of hr (by decide)) (pe_fld (pv 0) rfl) (pv 1)))), ?_⟩
    refine ⟨_, rfl, _, rfl, hb, fun H1 s1 => ?_⟩
    have t1 := tab.same s1
    obtain ⟨dx, o1⟩ := t1.ob
    obtain ⟨kvs, e1, r1⟩ := t1.dc
    have hq1 : H1 q = some (.tup ((keyOf ps).map kV)) := by rw [keyOf_kV]; exact s1 _ _ hq
    refine ⟨_, rfl, _, rfl, p, C, dx, _, _, rfl, o1, T.cl, T.nH, tflds_held _, d, _, rfl, DGet.t (k := keyOf ps) e1 hq1, _, rfl, ?_⟩
    rcases rows_val (k := ps) r1 with ⟨v1, v2⟩ | ⟨v, ns, v1, v2, v3⟩
    · rw [v1]
      refine iteT ⟨?_, q1 v2 H1 s1⟩
      show 1 ≤ sizeLine
      decide
    · rw [v1]
      refine iteF ⟨_, rfl, p, C, dx, _, _, rfl, o1, T.cl, T.nH, tflds_held _, _, rfl, d, q, kvs, keyOf ps, v, rfl, rfl, e1, hq1, v1, ?_⟩
      have npd : p ≠ d := ne_of o1 e1 (fun z => nomatch z)
      exact q2 (by rw [v2]; rfl) _ ⟨⟨dx, by rw [upd_ne npd]; exact o1⟩, _, upd_same, rows_mono (rows_drop r1) fun _ _ z => z.same (tups_upd e1 (fun _ z => nomatch z))⟩ ((Kept.of s1).trans kept_upd)
end
end K20
end
section
set_option Elab.async false
set_option linter.all false
set_option maxRecDepth 100000
set_option maxHeartbeats 400000
namespace K20
open PySem L2
section
variable {P : Program} {w : World} {K : PySem.W.Frag} {mg : Str → Option Value} {base : Heap}
theorem cut_take (ps : List Str) (m : Nat) : cutV (ps.map V.str) none (some (m : Int)) = (ps.take m).map V.str := by
  unfold cutV
  have h0 : HT.sIx (ps.map V.str).length 0 none = 0 := rfl
  have h1 : HT.sIx (ps.map V.str).length (ps.map V.str).length (some (m : Int)) = min m (ps.map V.str).length := by
    show (if (m : Int) < 0 then ((m : Int) + ((ps.map V.str).length : Int)).toNat else min (m : Int).toNat (ps.map V.str).length) = _
    rw [if_neg (by omega)]
    rfl
  rw [h0, h1, List.drop_zero, Nat.sub_zero, List.map_take, List.length_map]
  by_cases h : m ≤ ps.length
  · rw [Nat.min_eq_left h]
  · rw [Nat.min_eq_right (by omega), List.take_of_length_le (by simp), List.take_of_length_le (by simp; omega)]
theorem whole_take (ps : List Str) (m : Nat) (h : HT.sIx (ps.map V.str).length (ps.map V.str).length (some (m : Int)) = (ps.map V.str).length) : ps.take m = ps := by
  have h1 : HT.sIx (ps.map V.str).length (ps.map V.str).length (some (m : Int)) = min m (ps.map V.str).length := by
    show (if (m : Int) < 0 then ((m : Int) + ((ps.map V.str).length : Int)).toNat else min (m : Int).toNat (ps.map V.str).length) = _
    rw [if_neg (by omega)]
    rfl
  rw [h1, List.length_map] at h
  exact List.take_of_length_le (by omega)
noncomputable def rSlTA (K : PySem.W.Frag) : V → Option Int → Option Int → Hp → VK → Prop := fun x lo hi H Q => ∃ a xs, x = .ref a ∧ SqT K H a xs ∧ ((HT.sIx xs.length 0 lo = 0 ∧ HT.sIx xs.length xs.length hi = xs.length) → Q (.ref a) H) ∧ (¬ (HT.sIx xs.length 0 lo = 0 ∧ HT.sIx xs.length xs.length hi = xs.length) → ∀ p, H p = none → Q (.ref p) (upd H p (.tup (cutV xs lo hi))))
theorem sl_tupB {X : Cx} : SlR X (rSlTA X.K) := sl_tupA
theorem cutTo {K : PySem.W.Frag} {H : Hp} {q : Addr} {ns : List Str} {Q : VK} (h : H q = some (.tup (ns.map V.str))) (m : Nat) (k : ∀ b H', Same H H' → H' b = some (.tup ((ns.take m).map V.str)) → Q (.ref b) H') : rSlTA K (.ref q) none (some (m : Int)) H Q := by
  refine ⟨q, _, rfl, SqT.of h, fun hw => k q H (Same.refl _) ?_, fun hw p hp => k p _ (same_upd hp) ?_⟩
  · rw [whole_take ns m hw.2]; exact h
  · rw [upd_same, cut_take]
theorem scTWay : FnScope ["self", "name", "many", "beginning"] ["self", "name"] (defScope sTWay) := ⟨rfl, rfl, rfl, by decide +kernel, rfl, by decide +kernel, by decide +kernel⟩
theorem ok_tway {f f1 C : Addr} {fd fd1 : FuncData} (F : Fun K "way" "Table.way" sTWay f fd) (G : Glb mg) (T : Txt K mg C) (C1 : Cal P w K mg base 3 "need_name" f1 fd1 ["thing"] (spNeedN K)) : FnOk P w K mg base CX0 4 f fd ["self", "name"] (spTWay K C) := by
  refine F.ok scTWay (fun vs H Q E h => ?_) (fun cdv A outer s H vs Q E hr h => ?_)
  · obtain ⟨p, d, q, R, ns, rfl, _⟩ := h
    rfl
  · obtain ⟨p, d, q, R, ns, rfl, hq, hn, hl, tab, k⟩ := h
    have hu : _ := hu_of hr
    refine ⟨_, pss_cons (ps_expr (pe_fn C1 hr (by rfl) (pa_cons (pv 1) pa_nil)))
      (pss_cons (ps_for PassesOwn.never rfl (pi_rangeD (by rfl) G.range (pa_cons (pe_callB call_len (by rfl) G.len PySem.boot_len (pa_cons (pv 1) pa_nil)) (pa_cons (pe_un un_neg pe_int) (pa_cons (pe_un un_neg pe_int) pa_nil)))) (pg_name (i := 2) scTWay.nd rfl (Or.inl rfl))
        (pss_cons (ps_set (i := 3) scTWay.nd rfl (Or.inl rfl) (pe_slice sl_tupB (pv 1) po_none (po_some (pv 2))))
        (pss_one (ps_if (pt_cmp (pc_din hu (pv 3) (pe_fld (pv 0) rfl))) (pss_one (ps_ret (pe_tup (pa_cons (pv 3) (pa_cons (pe_callTy call_list_of (by rfl) G.list PyProof.Rows.boot_list (pa_cons (pe_dget hu (pe_fld (pv 0) rfl) (pv 3) (fun _ _ => rfl)) pa_nil)) pa_nil))))) pss_nil)))
        (fun _ => rfl))
      (pss_one (ps_ret pe_non))), ?_⟩
    refine ⟨_, rfl, _, rfl, hn, fun H1 s1 => ?_⟩
    refine ⟨_, rfl, _, (ns.map V.str).length, rfl, .inr ⟨_, SqT.of (s1 _ _ hq), rfl⟩, _, rfl, _, rfl, ns.length, by rw [List.length_map], by omega, ?_⟩
    refine ⟨fun i m σ H' => m = ns.length + 1 - i ∧ i ≤ ns.length + 1 ∧ Same H H' ∧ (∃ x2 x3 : Option V, σ = [some (.ref p), some (.ref q), x2, x3]) ∧ (∀ j, ns.length < i + j → j ≤ ns.length → valR R (ns.take j) = none), ⟨_, rfl, Nat.zero_le _, s1, ⟨_, _, rfl⟩, fun j h1 h2 => by omega⟩, ?_⟩
    rintro i m σ H2 ⟨rfl, hi, s2, ⟨x2, x3, rfl⟩, no⟩
    by_cases hlt : i < ns.length + 1
    · refine .inr ⟨hlt, fun σ' H' => Same H H' ∧ (∃ x2 x3 : Option V, σ' = [some (.ref p), some (.ref q), x2, x3]) ∧ (∀ j, ns.length < i + 1 + j → j ≤ ns.length → valR R (ns.take j) = none), fun σ' H' ⟨a1, a2, a3⟩ => ⟨_, by omega, rfl, hlt, a1, a2, a3⟩, ?_⟩
      rintro x H3 ⟨rfl, rfl⟩
      have em : (ns.length : Int) - (i : Int) = ((ns.length - i : Nat) : Int) := by omega
      rw [em]
      refine ⟨_, rfl, _, rfl, _, rfl, cutTo (s2 _ _ hq) (ns.length - i) fun b H4 s4 hb => ?_⟩
      have s14 := s2.trans s4
      have t4 := tab.same s14
      obtain ⟨dx, o4⟩ := t4.ob
      obtain ⟨kvs, e4, r4⟩ := t4.dc
      have hb4 : H4 b = some (.tup ((keyOf (ns.take (ns.length - i))).map kV)) := by rw [keyOf_kV]; exact hb
      refine ⟨_, rfl, _, rfl, p, C, dx, _, _, rfl, o4, T.cl, T.nH, tflds_held _, d, _, rfl, DGet.t e4 hb4, _, rfl, ?_⟩
      rcases rows_val (k := ns.take (ns.length - i)) r4 with ⟨v1, v2⟩ | ⟨v, sd, v1, v2, t, rfl, v3⟩
      · rw [v1]
        refine iteF ⟨s14, ⟨_, _, rfl⟩, fun j h1 h2 => ?_⟩
        by_cases ej : j = ns.length - i
        · rw [ej]; exact v2
        · exact no j (by omega) h2
      · rw [v1]
        have dg := DGet.t (k := keyOf (ns.take (ns.length - i))) e4 hb4
        rw [v1] at dg
        refine iteT ⟨_, rfl, _, rfl, p, C, dx, _, _, rfl, o4, T.cl, T.nH, tflds_held _, _, rfl, d, .ref t, rfl, dg, t, _, rfl, .inr (SqT.of v3), fun l1 hl1 => ⟨(by show 2 ≤ sizeLine; decide), fun q1 hq1 => ?_⟩⟩
        have s5 := same_upd (o := .lst (sd.map V.int)) hl1
        have s6 := same_upd (o := .tup [.ref b, .ref l1]) hq1
        have s56 := s5.trans s6
        refine k _ _ (s14.trans s56) ?_
        have ew : wayR R ns = some (ns.take (ns.length - i), sd) := by
          unfold wayR
          rw [way_down (ns.length - i) _ (by omega) fun j h1 h2 => no j (by omega) h2]
          exact wayN_hit v2
        rw [ew]
        exact ⟨q1, b, l1, rfl, upd_same, s56 _ _ hb, s6 _ _ upd_same⟩
    · refine .inl ⟨by show ns.length + 1 ≤ i; omega, k _ _ s2 ?_⟩
      have ew : wayR R ns = none := by
        unfold wayR
        rw [way_down 0 _ (Nat.zero_le _) fun j h1 h2 => no j (by omega) h2]
        unfold wayN
        rw [no 0 (by omega) (Nat.zero_le _)]
        rfl
      rw [ew]
      rfl
theorem scTSides : FnScope ["self", "name", "found"] ["self", "name"] (defScope sTSides) := ⟨rfl, rfl, rfl, by decide +kernel, rfl, by decide +kernel, by decide +kernel⟩
theorem ok_tsides {f f1 C : Addr} {fd fd1 : FuncData} (F : Fun K "sides" "Table.sides" sTSides f fd) (T : Txt K mg C) (MW : Met P w K mg base CX0 C 4 "way" f1 fd1 ["self", "name"] (spTWay K C)) : FnOk P w K mg base CX0 5 f fd ["self", "name"] (spTSides K C) := by
  refine F.ok scTSides (fun vs H Q E h => ?_) (fun cdv A outer s H vs Q E hr h => ?_)
  · obtain ⟨p, d, q, R, ns, rfl, _⟩ := h
    rfl
  · obtain ⟨p, d, q, R, ns, rfl, hq, hn, hl, tab, k⟩ := h
    obtain ⟨dx, o1⟩ := tab.ob
    refine ⟨_, pss_cons (ps_set (i := 2) scTSides.nd rfl (Or.inl rfl) (pe_meth (pv 0) T.cl MW.at_ MW.ok hr MW.bd .nil pass0 (pa_cons (pv 1) pa_nil)))
      (pss_one (ps_ret (pe_ifExp (pt_cmpR op_isN (pv 2) pe_non (nomark _)) (pe_lst pa_nil) (pe_ix (r := rIxT K) ix_tup (pv 2) pe_int (fun _ _ => rfl))))), ?_⟩
    refine ⟨_, rfl, p, dx, _, rfl, o1, tflds_no _ (by decide +kernel), _, rfl, p, d, q, R, ns, rfl, hq, hn, hl, tab, fun v H1 s1 hw => ?_⟩
    cases e : wayR R ns with
    | none =>
      rw [e] at hw
      have es : sidesR R ns = [] := by unfold sidesR; rw [e]; rfl
      cases hw
      refine ⟨_, rfl, rfl, _, rfl, iteT ⟨Nat.zero_le _, fun l hl => k l _ (s1.trans (same_upd hl)) ?_⟩⟩
      rw [upd_same, es]
      rfl
    | some r =>
      rw [e] at hw
      have es : sidesR R ns = r.2 := by unfold sidesR; rw [e]; rfl
      obtain ⟨t, b, l, rfl, h1, h2, h3⟩ := hw
      refine ⟨_, rfl, rfl, _, rfl, iteF ⟨_, rfl, t, _, 1, .ref l, rfl, rfl, SqT.of h1, rfl, k l _ s1 ?_⟩⟩
      rw [es]
      exact h3
end
end K20
end
section
set_option Elab.async false
set_option linter.all false
set_option maxRecDepth 100000
set_option maxHeartbeats 400000
namespace K20
open PySem L2
theorem srt_len : ∀ ks : List (List Str), (srt ks).length = ks.length
  | [] => rfl
  | k :: r => by rw [(srt_perm (ks := k :: r) (by simp)).length_eq, List.length_range]
theorem srt_at {ks : List (List Str)} {i : Nat} (h : i < ks.length) : ∃ j k, (srt ks)[i]? = some j ∧ ks.getD j [] = k ∧ k ∈ ks := by
  have hl : i < (srt ks).length := by rw [srt_len]; exact h
  have hj : (srt ks)[i] < ks.length := by
    have := (srt_perm (ks := ks) (by omega)).mem_iff.mp (List.getElem_mem hl)
    simpa using this
  refine ⟨(srt ks)[i], _, by simp [hl], rfl, ?_⟩
  rw [List.getD_eq_getElem?_getD, List.getElem?_eq_getElem hj]
  exact List.getElem_mem hj
noncomputable def ord (R : List Row) : List Row := (srt (R.map (·.1))).map fun j => ((R.map (·.1)).getD j [], (valR R ((R.map (·.1)).getD j [])).getD [])
theorem ord_len (R : List Row) : (ord R).length = R.length := by unfold ord; rw [List.length_map, srt_len, List.length_map]
noncomputable def PairAt (H : Hp) (q : Addr) (r : Row) : Prop := ∃ b l : Addr, H q = some (.tup [.ref b, .ref l]) ∧ H b = some (.tup (r.1.map V.str)) ∧ H l = some (.lst (r.2.map V.int))
theorem PairAt.same {H H' : Hp} {q : Addr} {r : Row} (h : PairAt H q r) (s : Same H H') : PairAt H' q r := let ⟨b, l, h1, h2, h3⟩ := h; ⟨b, l, s _ _ h1, s _ _ h2, s _ _ h3⟩
noncomputable def RowsAt (H : Hp) (lr : Addr) (R : List Row) : Prop := ∃ qs : List Addr, H lr = some (.lst (qs.map V.ref)) ∧ Paired (PairAt H) qs (ord R)
theorem paired_same {H H' : Hp} (s : Same H H') {qs : List Addr} {rs : List Row} (h : Paired (PairAt H) qs rs) : Paired (PairAt H') qs rs := Paired.mapP h fun _ _ z => z.same s
theorem RowsAt.same {H H' : Hp} {lr : Addr} {R : List Row} (h : RowsAt H lr R) (s : Same H H') : RowsAt H' lr R := let ⟨qs, h1, h2⟩ := h; ⟨qs, s _ _ h1, paired_same s h2⟩
theorem cmp_ints {K : PySem.W.Frag} {H : Hp} {l l' : Addr} {ns : List Int} (h : H l = some (.lst (ns.map V.int))) (h' : H l' = some (.lst (ns.map V.int))) : Cmp K H 1 (.ref l) (.ref l') true := by
  refine cmp_same_lists (n := 0) (SqL.of h) (SqL.of h') rfl fun j x y e1 e2 => ?_
  rw [e1] at e2
  cases e2
  rw [List.getElem?_map] at e1
  obtain ⟨n, _, rfl⟩ := Option.map_eq_some_iff.mp e1
  have := cmp_flat (K := K) (H := H) (n := 0) (x := .int n) (y := .int n) rfl rfl
  have e : eqV (.int n) (.int n) = true := by simp [eqV]
  rwa [e] at this
theorem cmp_key {K : PySem.W.Frag} {H : Hp} {a b : Addr} {ps : List Str} (ha : H a = some (.tup (ps.map V.str))) (hb : H b = some (.tup (ps.map V.str))) : Cmp K H 1 (.ref a) (.ref b) true := by
  have := cmp_strs (K := K) (SqT.of ha) (SqT.of hb)
  rwa [decide_eq_true rfl] at this
theorem cmp_pair {K : PySem.W.Frag} {H : Hp} {q q' : Addr} {r : Row} (h : PairAt H q r) (h' : PairAt H q' r) : Cmp K H 2 (.ref q) (.ref q') true := by
  obtain ⟨b, l, h2, h3, h4⟩ := h
  obtain ⟨b', l', g2, g3, g4⟩ := h'
  refine cmp_same_tuples (n := 1) (SqT.of h2) (SqT.of g2) rfl fun j x y e1 e2 => ?_
  match j, e1, e2 with
  | 0, e1, e2 => cases e1; cases e2; exact cmp_key h3 g3
  | 1, e1, e2 => cases e1; cases e2; exact cmp_ints h4 g4
  | j + 2, e1, _ => simp at e1
theorem cmp_rows {K : PySem.W.Frag} {H : Hp} {lr lr' : Addr} {R : List Row} (h : RowsAt H lr R) (h' : RowsAt H lr' R) : Cmp K H 3 (.ref lr) (.ref lr') true := by
  obtain ⟨qs, h1, h2⟩ := h
  obtain ⟨qs', g1, g2⟩ := h'
  have e1 := Paired.length h2
  have e2 := Paired.length g2
  refine cmp_same_lists (n := 2) (SqL.of h1) (SqL.of g1) (by rw [List.length_map, List.length_map, e1, e2]) fun j x y z1 z2 => ?_
  rw [List.getElem?_map] at z1 z2
  obtain ⟨q, y1, rfl⟩ := Option.map_eq_some_iff.mp z1
  obtain ⟨q', y2, rfl⟩ := Option.map_eq_some_iff.mp z2
  obtain ⟨r, x1, x2⟩ := paired_at h2 y1
  obtain ⟨r', x3, x4⟩ := paired_at g2 y2
  rw [x1] at x3
  cases x3
  exact cmp_pair x2 x4
theorem take_snoc {α : Type} {l : List α} {i : Nat} {x : α} (h : l[i]? = some x) : l.take (i + 1) = l.take i ++ [x] := by rw [List.take_add_one, h]; rfl
theorem ord_at {R : List Row} {i j : Nat} {k : List Str} {sd : List Int} (h : (srt (R.map (·.1)))[i]? = some j) (hk : (R.map (·.1)).getD j [] = k) (hv : valR R k = some sd) : (ord R)[i]? = some (k, sd) := by
  unfold ord
  rw [List.getElem?_map, h]
  show some ((R.map (·.1)).getD j [], (valR R ((R.map (·.1)).getD j [])).getD []) = _
  rw [hk, hv]
  rfl
noncomputable def spTRows (C : Addr) : Sp := fun vs H Q _ => ∃ (p d : Addr) (R : List Row), vs = [.ref p] ∧ TabAt C H p d R ∧ R.length < 64 ∧ ∀ (lr : Addr) (H' : Hp), Same H H' → RowsAt H' lr R → Q (.ref lr) H'
noncomputable def spTLen (C : Addr) : Sp := fun vs H Q _ => ∃ (p d : Addr) (R : List Row), vs = [.ref p] ∧ TabAt C H p d R ∧ Q (.int (R.length : Nat)) H
noncomputable def rListOf (K : PySem.W.Frag) : List V → Hp → VK → Prop := fun xs H Q => ∃ p ys, xs = [.ref p] ∧ (SqL K H p ys ∨ SqT K H p ys) ∧ ∀ l, H l = none → Q (.ref l) (upd H l (.lst ys))
section
variable {P : Program} {w : World} {K : PySem.W.Frag} {mg : Str → Option Value} {base : Heap}
theorem scTRows : FnScope ["self"] ["self"] (defScope sTRows) := ⟨rfl, rfl, rfl, by decide +kernel, rfl, by decide +kernel, by decide +kernel⟩
theorem ok_trows {f C : Addr} {fd : FuncData} (F : Fun K "rows" "Table.rows" sTRows f fd) (G : Glb mg) (T : Txt K mg C) : FnOk P w K mg base CX0 1 f fd ["self"] (spTRows C) := by
  refine F.ok scTRows (fun vs H Q E h => ?_) (fun cdv A outer s H vs Q E hr h => ?_)
  · obtain ⟨p, d, R, rfl, _⟩ := h
    rfl
  · obtain ⟨p, d, R, rfl, tab, h64, k⟩ := h
    have hu : _ := hu_of hr
    refine ⟨_, pss_one (ps_ret (pe_lc rfl (by rfl) (by show (["beginning", "self"] : List Str).Nodup; decide +kernel) (pi_list (pe_callB (call_sortedD rfl (units_of hr (by decide))) (by rfl) G.sorted PyProof.Rows.boot_sorted (pa_cons (pe_fld (pv 0) rfl) pa_nil))) (fun _ _ _ _ => pf_nil)
      (fun _ _ _ _ => pe_tup (pa_cons (pv 0) (pa_cons (pe_callTy (r := rListOf K) call_list_of (by rfl) G.list PyProof.Rows.boot_list (pa_cons (pe_dget hu (pe_fld (pv 1) rfl : PE _ _ (tFld K (tVar 1) "held")) (pv 0) (fun _ _ => rfl)) pa_nil)) pa_nil))))), ?_⟩
    obtain ⟨dx, g1⟩ := tab.ob
    obtain ⟨kvs, e0, r0⟩ := tab.dc
    refine ⟨_, rfl, p, C, dx, _, _, rfl, g1, T.cl, T.nH, tflds_held _, d, _, R.map (·.1), rfl, .inl e0, rows_keys r0, by rw [← rows_len r0]; exact h64, fun l ys hl ly ky => ?_⟩
    rw [List.length_map] at ly
    have s1 := same_upd (o := .lst ys) hl
    refine ⟨l, rfl, ⟨_, SqL.of upd_same⟩, lc_by R.length (fun i zs H' => Same (upd H l (.lst ys)) H' ∧ ∃ qs : List Addr, zs = qs.map V.ref ∧ Paired (PairAt H') qs ((ord R).take i)) ⟨Same.refl _, [], rfl, .nil⟩ (fun i zs H' hi hp => ?_) (Nat.le_trans (Nat.le_of_lt h64) (by decide)) (fun i zs H' hi hp => ?_) (fun i zs H' y H'' hi hp hy => ?_) (fun zs H' hp => ?_)⟩
    · obtain ⟨_, qs, rfl, pr⟩ := hp
      rw [List.length_map, Paired.length pr, List.length_take]
      omega
    · exact ⟨ys, ys[i], SqL.of (hp.1 _ _ upd_same), by simp [ly, hi]⟩
    · obtain ⟨s2, qs, rfl, pr⟩ := hp
      obtain ⟨rfl, hy⟩ := hy
      have hy := hy ys (SqL.of (s2 _ _ upd_same))
      obtain ⟨j, key, z1, z2, z3⟩ := srt_at (ks := R.map (·.1)) (i := i) (by rw [List.length_map]; exact hi)
      obtain ⟨b, z4, z5⟩ := ky i j z1
      rw [z4] at hy
      cases hy
      rw [z2] at z5
      have s12 := s1.trans s2
      have t2 := tab.same s12
      obtain ⟨dx, o2⟩ := t2.ob
      obtain ⟨kvs2, e2, r2⟩ := t2.dc
      obtain ⟨sd, hv⟩ := valR_some z3
      have hb2 : H'' b = some (.tup ((keyOf key).map kV)) := by rw [keyOf_kV]; exact s12 _ _ z5
      have dg := DGet.t e2 hb2
      rcases rows_val (k := key) r2 with ⟨_, v2⟩ | ⟨v, sd', v1, v2, t, rfl, v3⟩
      · rw [hv] at v2; cases v2
      · rw [hv] at v2
        cases v2
        rw [v1] at dg
        refine alw ⟨_, rfl, _, rfl, p, C, dx, _, _, rfl, o2, T.cl, T.nH, tflds_held _, _, rfl, d, .ref t, rfl, dg, t, _, rfl, .inr (SqT.of v3), fun l1 hl1 => ⟨(by show 2 ≤ sizeLine; decide), fun q hq => ?_⟩⟩
        have s3 := same_upd (o := .lst (sd.map V.int)) hl1
        have s4 := same_upd (o := .tup [.ref b, .ref l1]) hq
        have s34 := s3.trans s4
        refine ⟨s2.trans s34, qs ++ [q], by rw [List.map_append]; rfl, ?_⟩
        rw [take_snoc (ord_at z1 z2 hv)]
        exact paired_snoc ⟨b, l1, upd_same, s34 _ _ (s12 _ _ z5), s4 _ _ upd_same⟩ (paired_same s34 pr)
    · obtain ⟨s2, qs, rfl, pr⟩ := hp
      refine ⟨⟨_, SqL.of (s2 _ _ upd_same), by rw [ly]; exact Nat.le_refl _⟩, fun D hD => ?_⟩
      have s3 := same_upd (o := .lst (qs.map V.ref)) hD
      refine k D _ ((s1.trans s2).trans s3) ⟨qs, upd_same, paired_same s3 ?_⟩
      rwa [List.take_of_length_le (by rw [ord_len]; exact Nat.le_refl _)] at pr
theorem scTLen : FnScope ["self"] ["self"] (defScope sTLen) := ⟨rfl, rfl, rfl, by decide +kernel, rfl, by decide +kernel, by decide +kernel⟩
theorem ok_tlen {f C : Addr} {fd : FuncData} (F : Fun K "__len__" "Table.__len__" sTLen f fd) (G : Glb mg) (T : Txt K mg C) : FnOk P w K mg base CX0 1 f fd ["self"] (spTLen C) := by
  refine F.ok scTLen (fun vs H Q E h => ?_) (fun cdv A outer s H vs Q E hr h => ?_)
  · obtain ⟨p, d, R, rfl, _⟩ := h
    rfl
  · obtain ⟨p, d, R, rfl, tab, k⟩ := h
    refine ⟨_, pss_one (ps_ret (pe_callB call_lenT (by rfl) G.len PySem.boot_len (pa_cons (pe_fld (pv 0) rfl) pa_nil))), ?_⟩
    obtain ⟨dx, g1⟩ := tab.ob
    obtain ⟨kvs, e0, r0⟩ := tab.dc
    refine ⟨_, rfl, p, C, dx, _, _, rfl, g1, T.cl, T.nH, tflds_held _, d, kvs, rfl, .inl e0, ?_⟩
    rw [← rows_len r0]
    exact k
end
end K20
end
section
set_option Elab.async false
set_option linter.all false
set_option maxRecDepth 100000
set_option maxHeartbeats 400000
namespace K20
open PySem L2
noncomputable abbrev sSome : Stmt := top 39
structure TxtE (K : PySem.W.Frag) (C : Addr) : Prop where
  ha : PySem.W.findIn K (.ref C) "__class__" = some (some (.builtin "object.__class__"))
  hn : PySem.W.specialIn K (.builtin "object.__class__") "__get__" = some (some (.builtin "getset_descriptor.__get__"))
  ht : PySem.W.takesIn K (.builtin "object.__class__") = some true
  hm : PySem.W.mroIn K C (.type "object") = some true
  ks : PySem.W.kitOne K (.ref C) (.ref C) = some true
  kd : PySem.W.kitOne K (.type "dict") (.ref C) = some false
noncomputable def spTEq (C : Addr) : Sp := fun vs H Q _ => ∃ (p q d : Addr) (R : List Row), vs = [.ref p, .ref q] ∧ TabAt C H p d R ∧ ((∃ d2 R2, TabAt C H q d2 R2 ∧ (∀ r ∈ R, valR R2 r.1 = some r.2) ∧ Q (.bl (decide (R.length = R2.length))) H) ∨ ∃ kvs, H q = some (.dT kvs) ∧ Q (.bl false) H)
theorem cmp_tints {K : PySem.W.Frag} {H : Hp} {l l' : Addr} {ns : List Int} (h : H l = some (.tup (ns.map V.int))) (h' : H l' = some (.tup (ns.map V.int))) : Cmp K H 1 (.ref l) (.ref l') true := by
  refine cmp_same_tuples (n := 0) (SqT.of h) (SqT.of h') rfl fun j x y e1 e2 => ?_
  rw [e1] at e2
  cases e2
  rw [List.getElem?_map] at e1
  obtain ⟨n, _, rfl⟩ := Option.map_eq_some_iff.mp e1
  have := cmp_flat (K := K) (H := H) (n := 0) (x := .int n) (y := .int n) rfl rfl
  have e : eqV (.int n) (.int n) = true := by simp [eqV]
  rwa [e] at this
noncomputable def spSome : Sp := fun vs H Q _ => ∃ (d nl : Addr) (near : List Int), vs = [.ref d, .ref nl] ∧ DiceAt H d ∧ H nl = some (.lst (near.map V.int)) ∧ nl ≠ d ∧ near.Nodup ∧ near.length ≤ 10 ∧
  ∀ (l : Addr) (xs : List Int) (H' : Hp), Kept d H H' → DiceAt H' d → H l = none → l ≠ d → H' l = some (.lst (xs.map V.int)) → (∀ x ∈ xs, x ∈ near) → xs.Nodup → xs.length ≤ 10 → Q (.ref l) H'
section
variable {P : Program} {w : World} {K : PySem.W.Frag} {mg : Str → Option Value} {base : Heap}
theorem scTEq : FnScope ["self", "other"] ["self", "other"] (defScope sTEq) := ⟨rfl, rfl, rfl, by decide +kernel, rfl, by decide +kernel, by decide +kernel⟩
theorem ok_teq {f C : Addr} {fd : FuncData} (F : Fun K "__eq__" "Table.__eq__" sTEq f fd) (G : Glb mg) (T : Txt K mg C) (TE : TxtE K C) : FnOk P w K mg base CX0 1 f fd ["self", "other"] (spTEq C) := by
  refine F.ok scTEq (fun vs H Q E h => ?_) (fun cdv A outer s H vs Q E hr h => ?_)
  · obtain ⟨p, q, d, R, rfl, _⟩ := h
    rfl
  · obtain ⟨p, q, d, R, rfl, tab, k⟩ := h
    refine ⟨_, pss_one (ps_ret (pe_and (pe_callB call_isi (by rfl) G.isi PyProof.Rows.boot_isinstance (pa_cons (pv 1) (pa_cons (pe_glob (v := .ref C) (by rfl) T.mgC rfl) pa_nil))) (pe_one (pe_cmpR (op_eqD (n := 1) (units_of hr (by decide : 3 ≤ 60))) (pe_fld (pv 0) rfl) (pe_fld (pv 1) rfl) (nomark _))))), ?_⟩
    obtain ⟨dx, g1⟩ := tab.ob
    obtain ⟨kvs, e0, r0⟩ := tab.dc
    rcases k with ⟨d2, R2, tab2, hall, k⟩ | ⟨kvs2, h2, k⟩
    · obtain ⟨dx2, g2⟩ := tab2.ob
      obtain ⟨kvs2, e2, r2⟩ := tab2.dc
      refine ⟨_, rfl, _, _, _, _, true, rfl, rfl, (fun u z => z), TyOf.ins g2 T.cl TE.ha TE.hn TE.ht TE.hm, TE.ks, ⟨_, rfl, iteT ?_⟩⟩
      refine ⟨_, rfl, p, C, dx, _, _, rfl, g1, T.cl, T.nH, tflds_held _, _, rfl, q, C, dx2, _, _, rfl, g2, T.cl, T.nH, tflds_held _, d, d2, kvs, kvs2, fun _ => true, rfl, rfl, e0, e2, fun i pr hp => ?_, ?_⟩
      · obtain ⟨r, z1, z2, t, z3, z4⟩ := paired_back r0 hp
        have hv := hall r (List.mem_of_getElem? z1)
        rcases rows_val (k := r.1) r2 with ⟨_, v2⟩ | ⟨v, sd, v1, v2, t2, v3, v4⟩
        · rw [hv] at v2; cases v2
        · rw [hv] at v2
          cases v2
          refine .inl ⟨v, by rw [z2]; exact v1, ?_⟩
          rw [z3, v3]
          exact cmp_tints z4 v4
      · rw [← rows_len r0, ← rows_len r2]
        have : ((List.range R.length).all fun _ => true) = true := by simp
        rw [this, Bool.and_true]
        exact k
    · exact ⟨_, rfl, _, _, _, _, false, rfl, rfl, (fun u z => z), TyOf.dT h2, TE.kd, ⟨_, rfl, iteF k⟩⟩
theorem scSome : FnScope ["_law_dice", "_law_near", "_law_found_here", "_law_side"] ["_law_dice", "_law_near"] (defScope sSome) := ⟨rfl, rfl, rfl, by decide +kernel, rfl, by decide +kernel, by decide +kernel⟩
theorem ok_some {f f1 : Addr} {fd fd1 : FuncData} (F : Fun K "_law_some_sides" "_law_some_sides" sSome f fd) (G : Glb mg) (C1 : Cal P w K mg base 2 "_law_roll" f1 fd1 ["_law_dice", "_law_many"] spRoll) : FnOk P w K mg base CX0 3 f fd ["_law_dice", "_law_near"] spSome := by
  refine F.ok scSome (fun vs H Q E h => ?_) (fun cdv A outer s H vs Q E hr h => ?_)
  · obtain ⟨d, nl, near, rfl, _⟩ := h
    rfl
  · obtain ⟨d, nl, near, rfl, hd, hnl, nd, hnd, hlen, k⟩ := h
    refine ⟨_, pss_cons (ps_set (i := 2) scSome.nd rfl (Or.inl rfl) (pe_lst pa_nil))
      (pss_cons (ps_for PassesOwn.never rfl (pi_list (pv 1)) (pg_name (i := 3) scSome.nd rfl (Or.inl rfl))
        (pss_one (ps_if (pt_cmpR op_eq (pe_fn C1 hr (by rfl) (pa_cons (pv 0) (pa_cons pe_int pa_nil))) pe_int (nomark _))
          (pss_one (ps_expr (pe_bm PySem.F.plainAttrs_list PySem.F.slot_list_insert PySem.F.type_list_insert mt_insert (pv 2) (pa_cons (pe_fn C1 hr (by rfl) (pa_cons (pv 0) (pa_cons (pe_op op_add (pe_callB call_len (by rfl) G.len PySem.boot_len (pa_cons (pv 2) pa_nil)) pe_int) pa_nil))) (pa_cons (pv 3) pa_nil))))) pss_nil))
        (fun _ => rfl))
      (pss_one (ps_ret (pv 2)))), ?_⟩
    refine ⟨Nat.zero_le _, fun l hl => ?_⟩
    have s0 := same_upd (o := .lst []) hl
    have nld : l ≠ d := fun z => by obtain ⟨_, _, e⟩ := hd; rw [← z, hl] at e; cases e
    refine ⟨_, rfl, nl, rfl, ⟨_, SqL.of (s0 _ _ hnl)⟩, for_list (K := K) (a := nl) (xs := near.map V.int) (fun i σ H' => ∃ (x3 : Option V) (xs : List Int), σ = [some (.ref d), some (.ref nl), some (.ref l), x3] ∧ DiceAt H' d ∧ H' l = some (.lst (xs.map V.int)) ∧ (∀ b o, b ≠ d → H b = some o → H' b = some o) ∧ (∀ x ∈ xs, x ∈ near.take i) ∧ xs.Nodup ∧ xs.length ≤ i) ⟨_, [], rfl, hd.same s0, upd_same, fun b o _ e => s0 _ _ e, by simp, by simp, Nat.zero_le _⟩ (fun i σ H' _ ⟨_, _, _, _, _, kp, _⟩ => SqL.of (kp _ _ nd hnl)) ?_ ?_⟩
    · rintro i x σ H1 hi ⟨x3, xs, rfl, hd1, hl1, kp, hin, hnn, hxl⟩
      rw [List.getElem?_map] at hi
      obtain ⟨n, hin0, rfl⟩ := Option.map_eq_some_iff.mp hi
      clear hi
      have hi := hin0
      have hil : i < near.length := (List.getElem?_eq_some_iff.mp hi).1
      refine ⟨_, rfl, d, 2, rfl, hd1, by decide, by decide, fun r H2 r0 r2 hd2 k2 => ⟨rfl, _, rfl, ?_⟩⟩
      have hl2 : H2 l = some (.lst (xs.map V.int)) := k2 _ _ nld hl1
      have kp2 : ∀ b o, b ≠ d → H b = some o → H2 b = some o := fun b o n e => k2 b o n (kp b o n e)
      refine ite2 (fun _ => ?_) (fun _ => ?_)
      · refine ⟨_, rfl, .inl ⟨rfl, _, SqL.of hl2⟩, _, rfl, _, rfl, _, (xs.map V.int).length, rfl, .inl ⟨_, SqL.of hl2, rfl⟩, _, _, rfl, rfl, d, _, rfl, hd2, by omega, ?_, fun r' H3 a0 a1 hd3 k3 => ?_⟩
        · rw [List.length_map]; omega
        · have hl3 : H3 l = some (.lst (xs.map V.int)) := k3 _ _ nld hl2
          obtain ⟨j, rfl⟩ := Int.eq_ofNat_of_zero_le a0
          rw [List.length_map] at a1
          refine ⟨_, rfl, l, _, j, _, rfl, rfl, hl3, by rw [List.length_map]; omega, by rw [List.length_map]; omega, ?_⟩
          have e : (xs.map V.int).take j ++ V.int n :: (xs.map V.int).drop j = (xs.take j ++ n :: xs.drop j).map V.int := by rw [List.map_append, List.map_cons, List.map_take, List.map_drop]
          rw [e]
          have hp : (xs.take j ++ n :: xs.drop j).Perm (n :: xs) := by
            have := List.perm_middle (a := n) (l₁ := xs.take j) (l₂ := xs.drop j)
            rwa [List.take_append_drop] at this
          have nn : n ∉ near.take i := fun z => by
            obtain ⟨m, hm, e1⟩ := List.getElem_of_mem z
            rw [List.length_take] at hm
            rw [List.getElem_take] at e1
            have e2 : near[i] = n := (List.getElem?_eq_some_iff.mp hi).2
            have := (List.getElem_inj hnd).mp (e1.trans e2.symm)
            omega
          refine ⟨_, _, rfl, let ⟨a, b, e⟩ := hd3; ⟨a, b, by rw [upd_ne (Ne.symm nld)]; exact e⟩, upd_same, fun b o n' e => by rw [upd_ne (ne_of_none e hl)]; exact k3 b o n' (kp2 b o n' e), fun x hx => ?_, ?_, ?_⟩
          · rw [List.take_add_one, hi]
            rcases List.mem_cons.mp (hp.mem_iff.mp hx) with rfl | hx
            · exact List.mem_append_right _ (by simp)
            · exact List.mem_append_left _ (hin x hx)
          · exact hp.nodup_iff.mpr (List.nodup_cons.mpr ⟨fun z => nn (hin n z), hnn⟩)
          · rw [hp.length_eq, List.length_cons]; omega
      · exact ⟨_, _, rfl, hd2, hl2, kp2, fun x hx => by rw [List.take_add_one]; exact List.mem_append_left _ (hin x hx), hnn, by omega⟩
    · rintro σ H1 ⟨x3, xs, rfl, hd1, hl1, kp, hin, hnn, hxl⟩
      rw [List.length_map] at hin hxl
      exact ⟨_, rfl, k l xs H1 (fun b o n e => kp b o n e) hd1 hl nld hl1 (fun x hx => List.mem_of_mem_take (hin x hx)) hnn (by omega)⟩
end
end K20
end
section
set_option Elab.async false
set_option linter.all false
set_option maxRecDepth 100000
set_option maxHeartbeats 400000
namespace K20
open PySem L2
noncomputable abbrev sLongest : Stmt := top 40
noncomputable abbrev sFound : Stmt := top 41
noncomputable abbrev qLon : Str := "_law_longest" ++ ".<locals>." ++ "<lambda>"
noncomputable abbrev NLon : List Str := ["_law_lines", "_law_name", "_law_some"]
noncomputable def rLenK (K : PySem.W.Frag) : List V → Hp → VK → Prop := fun xs H Q => ∃ x n, xs = [x] ∧ LenV K x H n ∧ Q (.int n) H
noncomputable def isPre (ns k : List Str) : Bool := decide (ns.take k.length = k)
structure Longest (R : List Row) (ns k : List Str) : Prop where
  key : k ∈ R.map (·.1)
  pre : ns.take k.length = k
  max : ∀ k' ∈ R.map (·.1), ns.take k'.length = k' → k'.length ≤ k.length
noncomputable def LinK (H : Hp) (d : Addr) (R : List Row) : Prop := ∃ (F : V → List Int → Prop) (kvs : List (List Key × V)), H d = some (.dT kvs) ∧ RowsOk F R kvs
noncomputable def spLongest (Pl : Addr) : Sp := fun vs H Q _ => ∃ (dl q : Addr) (R : List Row) (ns : List Str), vs = [.ref dl, .ref q] ∧ LinK H dl R ∧ R.length ≤ 60 ∧ H q = some (.tup (ns.map V.str)) ∧ Tbl H Pl qLon ∧
  ((∀ k' ∈ R.map (·.1), ¬ ns.take k'.length = k') → ∀ H', Same H H' → Q .non H') ∧ (∀ b k H', Grown Pl H H' → Tbl H' Pl qLon → H' b = some (.tup (k.map V.str)) → Longest R ns k → Q (.ref b) H')
theorem grown_same {Pl : Addr} {H H1 H2 : Hp} (a : Same H H1) (b : Grown Pl H1 H2) : Grown Pl H H2 := fun c o n e => b c o n (a c o e)
section
variable {P : Program} {w : World} {K : PySem.W.Frag} {mg : Str → Option Value} {base : Heap}
theorem scLongest : FnScope NLon ["_law_lines", "_law_name"] (defScope sLongest) := ⟨rfl, rfl, rfl, by decide +kernel, rfl, by decide +kernel, by decide +kernel⟩
theorem ok_longest {f c Pl : Addr} {oc kV doc pm ct : Value} {od an : Option Addr} {osl : Array (Option Value)}
    (lk : K.lookup f = some ⟨oc, od, .func (PySem.W.fnOf "_law_longest" "_law_longest" (defArgs sLongest) (defBody sLongest) (defScope sLongest) .none kV doc pm an (.ref c) ct), osl⟩) (hcd : PySem.W.codeIn K (.ref c) "_law_longest" = true) (G : Glb mg) (hC : PySem.W.codeHdIn K c Pl = true) (hB : BmAt mg base) :
    FnOk P w K mg base CX0 2 f (PySem.W.fnOf "_law_longest" "_law_longest" (defArgs sLongest) (defBody sLongest) (defScope sLongest) .none kV doc pm an (.ref c) ct) ["_law_lines", "_law_name"] (spLongest Pl) := by
  refine fn_of lk hcd scLongest (fun vs H Q E h => ?_) fun A outer s H vs Q E hr h => ?_
  · obtain ⟨dl, q, R, ns, rfl, _⟩ := h
    rfl
  · obtain ⟨dl, q, R, ns, rfl, ⟨FF, kvs, hdl, rk⟩, hR, hq, tb, k1, k2⟩ := h
    have hu : _ := hu_of hr
    have hdp := hr.dp
    refine ⟨_, PSs.nox (pss_cons (ps_thaw (ps_lc (i := 2) rfl scLongest.nd rfl rfl (by rfl) (by rfl) (by show (["_law_one", "_law_lines", "_law_name", "_law_some"] : List Str).Nodup; decide +kernel)
        (pi_dict (pv 0)) (fun _ _ _ _ => pf_one (pt_cmpR (r := rEqC K 1) (op_eqC (units_of hr (by decide))) (pe_slice (r := rSlTA K) sl_tupB (pv 2) po_none (po_some (pe_callB (r := rLenK K) call_len (by rfl) G.len PySem.boot_len (pa_cons (pv 0) pa_nil)))) (pv 0) (nomark _))) (fun _ _ _ _ => pv 0)))
      (pss_one (ps_ret (pe_ifExp (pt_cmpR (op_neC (n := 1) (units_of hr (by decide))) (pv 2) (pe_lst pa_nil) (nomark _))
        (pe_maxLen (by rfl) G.max G.len (pv 2) rfl hC hB rfl (by show A.depth + 1 + 3 < _; have : A.depth + 1 + 3 * 1 + 5 < recursionLimit := hdp; omega) ⟨rfl, rfl, rfl, by decide +kernel, rfl, fun _ _ _ _ _ => rfl, fun _ _ _ _ _ => rfl⟩ (hnf := by decide +kernel)) pe_non)))), ?_⟩
    refine ⟨_, rfl, dl, kvs, rfl, hdl, fun od => ?_⟩
    have el := rows_len rk
    have tuf : Tups H (upd H dl (.frz od (.dT kvs))) := tups_upd hdl (fun _ z => nomatch z)
    have kmap := rows_keys rk
    refine lc_by kvs.length (fun i ys H' => Same (upd H dl (.frz od (.dT kvs))) H' ∧ Paired (fun (x : V) (m : List Str) => ∃ a, x = .ref a ∧ H' a = some (.tup (m.map V.str))) ys (((R.map (·.1)).take i).filter (isPre ns)))
      ⟨Same.refl _, .nil⟩ (fun i ys H' hi hp => ?_) (Nat.le_of_lt (small1000 (by omega))) (fun i ys H' hi hp => ?_) (fun i ys H' y H'' hi hp hy => ?_) (fun ys H' hp => ?_)
    · rw [Paired.length hp.2]
      refine Nat.le_trans (List.length_filter_le _ _) ?_
      rw [List.length_take]
      omega
    · exact ⟨hp.1 _ _ upd_same, hi⟩
    · obtain ⟨s1, pr⟩ := hp
      obtain ⟨rfl, b, pr0, hpr, rfl, hb⟩ := hy
      obtain ⟨row, hrow, ka, _⟩ := paired_back rk hpr
      rw [ka, keyOf_kV] at hb
      have hk : (R.map (·.1))[i]? = some row.1 := by rw [List.getElem?_map, hrow]; rfl
      refine ⟨_, rfl, _, rfl, _, (row.1.map V.str).length, rfl, .inr ⟨_, SqT.of hb, rfl⟩, _, rfl, ?_⟩
      rw [List.length_map]
      refine cutTo (s1 _ _ (tuf _ _ hq)) row.1.length fun b2 H3 s3 hb2 => ?_
      refine ⟨_, rfl, isPre ns row.1, cmp_strs (SqT.of hb2) (SqT.of (s3 _ _ hb)), _, rfl, ?_⟩
      have s13 := s1.trans s3
      have pr3 : Paired (fun (x : V) (m : List Str) => ∃ a, x = .ref a ∧ H3 a = some (.tup (m.map V.str))) ys (((R.map (·.1)).take i).filter (isPre ns)) := Paired.mapP pr fun _ _ ⟨a, z1, z2⟩ => ⟨a, z1, s3 _ _ z2⟩
      cases e : isPre ns row.1 with
      | true =>
        refine iteT ⟨_, rfl, s13, ?_⟩
        rw [take_snoc hk, List.filter_append]
        have : [row.1].filter (isPre ns) = [row.1] := by simp [e]
        rw [this]
        exact paired_snoc ⟨b, rfl, s3 _ _ hb⟩ pr3
      | false =>
        refine iteF ⟨s13, ?_⟩
        rw [take_snoc hk, List.filter_append]
        have : [row.1].filter (isPre ns) = [] := by simp [e]
        rw [this, List.append_nil]
        exact pr3
    · obtain ⟨s1, pr⟩ := hp
      rw [List.take_of_length_le (by rw [List.length_map]; omega)] at pr
      refine ⟨⟨s1 _ _ upd_same, Nat.le_refl _⟩, fun D hD => ?_⟩
      have sD := same_upd (o := .lst ys) hD
      have ndl : dl ≠ D := fun z => by rw [← z, s1 _ _ upd_same] at hD; cases hD
      refine ⟨dl, od, kvs, sD _ _ (s1 _ _ upd_same), (fun o u z => by rw [show H dl = some (.frz o u) from z] at hdl; cases hdl), ?_⟩
      have sA : Same H (upd (upd H' D (.lst ys)) dl (.dT kvs)) := fun b o e => by
        by_cases z : b = dl
        · rw [z] at e ⊢
          rw [hdl] at e
          cases e
          exact upd_same
        · rw [upd_ne z]
          exact sD _ _ (s1 _ _ (by rw [upd_ne z]; exact e))
      have tuD : Tups (upd H' D (.lst ys)) (upd (upd H' D (.lst ys)) dl (.dT kvs)) := tups_upd (sD _ _ (s1 _ _ upd_same)) (fun _ z => nomatch z)
      have hDl : upd (upd H' D (.lst ys)) dl (.dT kvs) D = some (.lst ys) := by rw [upd_ne (Ne.symm ndl), upd_same]
      have pr2 : Paired (fun (x : V) (m : List Str) => ∃ a, x = .ref a ∧ upd (upd H' D (.lst ys)) dl (.dT kvs) a = some (.tup (m.map V.str))) ys ((R.map (·.1)).filter (isPre ns)) := Paired.mapP pr fun _ _ ⟨a, z1, z2⟩ => ⟨a, z1, tuD _ _ (sD _ _ z2)⟩
      generalize upd (upd H' D (.lst ys)) dl (.dT kvs) = H2 at sA hDl pr2
      have el2 := Paired.length pr2
      refine ⟨_, rfl, Nat.zero_le _, fun l0 hl0 => ?_⟩
      have s0 := same_upd (o := .lst []) hl0
      by_cases hy : ys = []
      · refine ⟨true, cmp_same_lists (n := 0) (SqL.of (s0 _ _ hDl)) (SqL.of upd_same) (by rw [hy]) (fun j x y e1 _ => by rw [hy] at e1; simp at e1), _, rfl, iteF (k1 (fun k' hk hp => ?_) _ (sA.trans s0))⟩
        have : k' ∈ (R.map (·.1)).filter (isPre ns) := List.mem_filter.mpr ⟨hk, decide_eq_true hp⟩
        have h0 := List.length_pos_of_mem this
        rw [← el2, hy] at h0
        exact absurd h0 (by simp)
      · refine ⟨false, cmp_lists_len (SqL.of (s0 _ _ hDl)) (SqL.of upd_same) (by simpa using hy), _, rfl, iteT ⟨_, rfl, D, ys, ((R.map (·.1)).filter (isPre ns)).map List.length, rfl, s0 _ _ hDl, hy, ?_, by rw [List.length_map, el2], fun i x n e1 e2 => ?_, (tb.same sA).same s0, fun i x H9 e1 hmax gr tb9 => ?_⟩⟩
        · rw [el2]
          refine Nat.le_trans (List.length_filter_le _ _) ?_
          rw [List.length_map]
          omega
        · obtain ⟨m, z1, a, z2, z3⟩ := paired_at pr2 e1
          rw [List.getElem?_map, z1] at e2
          cases e2
          exact ⟨a, _, z2, s0 _ _ z3, by rw [List.length_map]⟩
        · obtain ⟨m, z1, a, rfl, z3⟩ := paired_at pr2 e1
          have hm := List.mem_filter.mp (List.mem_of_getElem? z1)
          have na : a ≠ Pl := fun z => by
            obtain ⟨ps, z4, _⟩ := tb.same sA
            rw [← z, z3] at z4
            cases z4
          refine k2 a m H9 (grown_same (sA.trans s0) gr) tb9 (gr _ _ na (s0 _ _ z3)) ⟨hm.1, of_decide_eq_true hm.2, fun k' hk hp => ?_⟩
          have hk2 : k' ∈ (R.map (·.1)).filter (isPre ns) := List.mem_filter.mpr ⟨hk, decide_eq_true hp⟩
          obtain ⟨j, hj, ej⟩ := List.getElem_of_mem hk2
          have := hmax j (by rw [el2]; exact hj)
          rw [List.getD_eq_getElem?_getD, List.getD_eq_getElem?_getD, List.getElem?_map, List.getElem?_map, z1, List.getElem?_eq_getElem hj, ej] at this
          exact this
noncomputable def FL (D : List Addr) (H : Hp) (v : V) (ns : List Int) : Prop := ∃ l, v = .ref l ∧ H l = some (.lst (ns.map V.int)) ∧ l ∉ D
noncomputable def LinAt (D : List Addr) (H : Hp) (d : Addr) (R : List Row) : Prop := ∃ kvs, H d = some (.dT kvs) ∧ RowsOk (FL D H) R kvs
theorem LinAt.same {D : List Addr} {H H' : Hp} {d : Addr} {R : List Row} (h : LinAt D H d R) (e : Same H H') : LinAt D H' d R := let ⟨kvs, h1, h2⟩ := h; ⟨kvs, e _ _ h1, rows_mono h2 fun _ _ ⟨l, z1, z2, z3⟩ => ⟨l, z1, e _ _ z2, z3⟩⟩
theorem LinAt.grown {D : List Addr} {Pl : Addr} {q : Str} {H H' : Hp} {d : Addr} {R : List Row} (h : LinAt D H d R) (tb : Tbl H Pl q) (g : Grown Pl H H') : LinAt D H' d R := by
  obtain ⟨ps, hP, _⟩ := tb
  obtain ⟨kvs, h1, h2⟩ := h
  have ne : ∀ {b : Addr} {o : HO}, H b = some o → o ≠ .tbl ps → H' b = some o := fun {b o} e n => g b o (fun z => by rw [z, hP] at e; exact n (Option.some.inj e).symm) e
  exact ⟨kvs, ne h1 (fun z => nomatch z), rows_mono h2 fun _ _ ⟨l, z1, z2, z3⟩ => ⟨l, z1, ne z2 (fun z => nomatch z), z3⟩⟩
theorem LinAt.k {D : List Addr} {H : Hp} {d : Addr} {R : List Row} (h : LinAt D H d R) : LinK H d R := let ⟨kvs, h1, h2⟩ := h; ⟨_, kvs, h1, h2⟩
theorem LinAt.get {D : List Addr} {H : Hp} {d b : Addr} {R : List Row} {k : List Str} {sd : List Int} (h : LinAt D H d R) (hb : H b = some (.tup (k.map V.str))) (hv : valR R k = some sd) : ∃ l, DGet H d (.ref b) (some (.ref l)) ∧ H l = some (.lst (sd.map V.int)) ∧ l ∉ D := by
  obtain ⟨kvs, h1, h2⟩ := h
  have dg := DGet.t (k := keyOf k) h1 (by rw [keyOf_kV]; exact hb)
  rcases rows_val (k := k) h2 with ⟨_, v2⟩ | ⟨v, sd', v1, v2, l, rfl, v3, v4⟩
  · rw [hv] at v2; cases v2
  · rw [hv] at v2
    cases v2
    rw [v1] at dg
    exact ⟨l, dg, v3, v4⟩
noncomputable def spFound (Pl : Addr) : Sp := fun vs H Q _ => ∃ (dl q : Addr) (D : List Addr) (R : List Row) (ns : List Str), vs = [.ref dl, .ref q] ∧ LinAt D H dl R ∧ R.length ≤ 60 ∧ H q = some (.tup (ns.map V.str)) ∧ Tbl H Pl qLon ∧
  ∀ l H', Grown Pl H H' → Tbl H' Pl qLon → H' l = some (.lst ((sidesR R ns).map V.int)) → Q (.ref l) H'
theorem scFound : FnScope ["_law_lines", "_law_name", "_law_one"] ["_law_lines", "_law_name"] (defScope sFound) := ⟨rfl, rfl, rfl, by decide +kernel, rfl, by decide +kernel, by decide +kernel⟩
theorem ok_found {f f1 Pl : Addr} {fd fd1 : FuncData} (F : Fun K "_law_found" "_law_found" sFound f fd) (G : Glb mg) (C1 : Cal P w K mg base 2 "_law_longest" f1 fd1 ["_law_lines", "_law_name"] (spLongest Pl)) : FnOk P w K mg base CX0 3 f fd ["_law_lines", "_law_name"] (spFound Pl) := by
  refine F.ok scFound (fun vs H Q E h => ?_) (fun cdv A outer s H vs Q E hr h => ?_)
  · obtain ⟨dl, q, D, R, ns, rfl, _⟩ := h
    rfl
  · obtain ⟨dl, q, D, R, ns, rfl, lin, hR, hq, tb, k⟩ := h
    have hu : _ := hu_of hr
    refine ⟨_, pss_cons (ps_set (i := 2) scFound.nd rfl (Or.inl rfl) (pe_fn C1 hr (by rfl) (pa_cons (pv 0) (pa_cons (pv 1) pa_nil))))
      (pss_one (ps_ret (pe_ifExp (pt_cmpR op_isN (pv 2) pe_non (nomark _)) (pe_lst pa_nil) (pe_callTy call_list_of (by rfl) G.list PyProof.Rows.boot_list (pa_cons (pe_dget hu (pv 0) (pv 2) (fun _ _ => rfl)) pa_nil))))), ?_⟩
    refine ⟨_, rfl, _, rfl, dl, q, R, ns, rfl, lin.k, hR, hq, tb, fun no H1 s1 => ?_, fun b key H1 g1 tb1 hb lo => ?_⟩
    · have es : sidesR R ns = [] := by unfold sidesR; rw [way_none no]; rfl
      refine ⟨_, rfl, rfl, _, rfl, iteT ⟨Nat.zero_le _, fun l hl => ?_⟩⟩
      have s2 := same_upd (o := .lst []) hl
      refine k l _ (fun b o _ e => s2 _ _ (s1 _ _ e)) ((tb.same s1).same s2) ?_
      rw [upd_same, es]
      rfl
    · obtain ⟨sd, hv, hw⟩ := way_max lo.key lo.pre lo.max
      have es : sidesR R ns = sd := by unfold sidesR; rw [hw]; rfl
      obtain ⟨l, dg, hl, _⟩ := (lin.grown tb g1).get hb hv
      refine ⟨_, rfl, rfl, _, rfl, iteF ⟨_, rfl, _, rfl, dl, .ref l, rfl, dg, l, _, rfl, .inl (SqL.of hl), fun l2 hl2 => ?_⟩⟩
      have s2 := same_upd (o := .lst (sd.map V.int)) hl2
      refine k l2 _ (fun b o n e => s2 _ _ (g1 b o n e)) (tb1.same s2) ?_
      rw [upd_same, es]
end
end K20
end
section
set_option Elab.async false
set_option linter.all false
set_option maxRecDepth 100000
set_option maxHeartbeats 400000
namespace K20
open PySem L2
noncomputable abbrev sLaw : Stmt := top 42
noncomputable def forBodyX (s : Stmt) : List Stmt := match s with | .For _ _ b _ _ => b | _ => []
noncomputable abbrev outerB : List Stmt := forBodyX ((defBody sLaw).getD 0 (.Pass ⟨0, 0, 0, 0⟩))
noncomputable abbrev forIter (s : Stmt) : Expr := match s with | .For _ i _ _ _ => i | _ => .Constant .none 0 ⟨0, 0, 0, 0⟩
noncomputable abbrev thenOf (s : Stmt) : List Stmt := match s with | .If _ a _ _ => a | _ => []
noncomputable abbrev elseOf (s : Stmt) : List Stmt := match s with | .If _ _ a _ => a | _ => []
noncomputable abbrev condOf (s : Stmt) : Expr := match s with | .If c _ _ _ => c | _ => .Constant .none 0 ⟨0, 0, 0, 0⟩
noncomputable abbrev turnB : List Stmt := forBodyX (outerB.getD 1 (.Pass ⟨0, 0, 0, 0⟩))
noncomputable abbrev thenB : List Stmt := thenOf (turnB.getD 1 (.Pass ⟨0, 0, 0, 0⟩))
noncomputable abbrev elseB : List Stmt := elseOf (turnB.getD 1 (.Pass ⟨0, 0, 0, 0⟩))
noncomputable abbrev NLaw : List Str := ["_law_script", "_law_dice", "_law_table", "_law_lines", "_law_turn", "_law_one", "_law_some", "_law_due", "_law_name", "_law_other"]
noncomputable abbrev qLam : Str := "law" ++ ".<locals>." ++ "<lambda>"
theorem scLaw : FnScope NLaw ["_law_script"] (defScope sLaw) := ⟨rfl, rfl, rfl, by decide +kernel, rfl, by decide +kernel, by decide +kernel⟩
noncomputable abbrev XL (P : Program) (w : World) (K : PySem.W.Frag) (mg : Str → Option Value) (base : Heap) (f c : Addr) (A : Around) (outer : List Env) (s : Shared) (H : Hp) (E : XK) : Cx := (cxOf CX0 P w K mg base NLaw "law" (defScope sLaw) f (.ref c) A outer s H E).nox
noncomputable abbrev stA (a d : Addr) (x2 x3 x4 x5 x6 x7 x8 x9 : Option V) : L2.St := [some (.ref a), some (.ref d), x2, x3, x4, x5, x6, x7, x8, x9]
theorem dice_ne {H : Hp} {d b : Addr} {o : HO} (h : DiceAt H d) (e : H b = some o) (n : ∀ a c : Int, o ≠ .lst [.int a, .int c]) : b ≠ d := fun z => by
  obtain ⟨a, c, q⟩ := h
  rw [z, q] at e
  exact n a c (Option.some.inj e).symm
structure Out (H : Hp) (lds : Addr) (ds : List Addr) : Prop where
  ll : H lds = some (.lst (ds.map V.ref))
  dice : ∀ d ∈ ds, DiceAt H d
theorem list_ne_dice {H : Hp} {lds d : Addr} {ds : List Addr} (h : H lds = some (.lst (ds.map V.ref))) (hd : DiceAt H d) : lds ≠ d := dice_ne hd h fun a c z => by
  have z := HO.lst.inj z
  cases ds with
  | nil => cases z
  | cons x r => cases z
theorem Out.roll {H H' : Hp} {lds d : Addr} {ds : List Addr} (h : Out H lds ds) (hm : d ∈ ds) (k : Kept d H H') (hd : DiceAt H' d) : Out H' lds ds := by
  refine ⟨k _ _ (list_ne_dice h.ll (h.dice d hm)) h.ll, fun e he => ?_⟩
  by_cases q : e = d
  · rw [q]; exact hd
  · obtain ⟨a, b, z⟩ := h.dice e he
    exact ⟨a, b, k _ _ q z⟩
theorem Out.same {H H' : Hp} {lds : Addr} {ds : List Addr} (h : Out H lds ds) (e : Same H H') : Out H' lds ds := ⟨e _ _ h.ll, fun d hd => (h.dice d hd).same e⟩
theorem nameV_of {K : PySem.W.Frag} {H : Hp} {q : Addr} {ps : List Str} (h : H q = some (.tup (ps.map V.str))) (h1 : 1 ≤ ps.length) (h2 : ps.length ≤ 5) (h3 : ∀ x ∈ ps, partB x = true) : NameV K H (.ref q) true := by
  refine .inl ⟨q, ps.map V.str, ps.map fun _ => true, rfl, h, ?_, by simp, fun i x b' e1 e2 => ?_, ?_⟩
  · rw [List.length_map]
    exact Nat.le_trans h2 (by decide)
  · rw [List.getElem?_map] at e1 e2
    obtain ⟨x', e, rfl⟩ := Option.map_eq_some_iff.mp e1
    rw [e] at e2
    cases e2
    have hx := h3 x' (List.mem_of_getElem? e)
    refine .inl ⟨x', rfl, ?_, hx.symm⟩
    unfold partB at hx
    simp only [Bool.and_eq_true, decide_eq_true_eq] at hx
    exact Nat.le_trans (show x'.length ≤ 4 by omega) (by decide)
  · rw [List.length_map, decide_eq_true (show (1 : Int) ≤ (ps.length : Int) by omega), decide_eq_true (show (ps.length : Int) ≤ 5 by omega)]
    simp
theorem name_no0 {K : PySem.W.Frag} {H : Hp} {q : Addr} (h : H q = some (.tup [])) : NameV K H (.ref q) false := .inl ⟨q, [], [], rfl, h, by decide, rfl, fun i x b' e _ => by simp at e, by decide⟩
theorem begV_head {K : PySem.W.Frag} {H : Hp} {q : Addr} {ps : List Str} (h : H q = some (.tup (ps.map V.str))) (ok : HeadOk ps) : BegV K H (.ref q) true := by
  cases ps with
  | nil => exact ⟨false, name_no0 h, .inr ⟨rfl, .inl ⟨q, [], rfl, h, by decide, rfl⟩⟩⟩
  | cons x r => exact ⟨true, nameV_of h (by simp) (Nat.le_trans ok.1 (by decide)) (fun y hy => parts5_good y (ok.2 y hy)), .inl ⟨rfl, rfl⟩⟩
theorem name_ok {K : PySem.W.Frag} {H : Hp} {q : Addr} {ps : List Str} (h : H q = some (.tup (ps.map V.str))) (ok : NameOk ps) : NameV K H (.ref q) true := nameV_of h ok.1 ok.2.1 (fun y hy => parts5_good y (ok.2.2 y hy))
structure EnvL (P : Program) (w : World) (K : PySem.W.Frag) (mg : Str → Option Value) (base : Heap) (c Pt ft W : Addr) (fdt : FuncData) (wd : Addr → Str → Prop) : Prop where
  told : ToldOk P w K mg base 1 ft W fdt wd
  mt : mg "_law_told" = some (.ref ft)
  kt : PySem.W.keepIn K (.ref ft) = true
  hC : PySem.W.codeHdIn K c Pt = true
  hB : BmAt mg base
structure Say (K : PySem.W.Frag) (W : Addr) (wd : Addr → Str → Prop) (C : Addr) (wrd : Str) : Prop where
  up : PySem.W.kitCls K (.ref C) (.ref W) = some true
  wd : wd C wrd
theorem fin_told {K : PySem.W.Frag} {Pt W C : Addr} {wd : Addr → Str → Prop} {wrd : Str} {H H1 H2 : Hp} {Q : VK} (Z : Say K W wd C wrd) (gr : Grown Pt H H1) (tb : Tbl H1 Pt qLam) (s12 : Same H1 H2)
    (k : ∀ (t : Addr) (H' : Hp), Grown Pt H H' → Tbl H' Pt qLam → H' t = some (.tup [.str "refused", .str wrd]) → Q (.ref t) H') : xWant K W (told wd Q) (.ref C) none H2 :=
  ⟨C, rfl, rfl, Z.up, wrd, Z.wd, fun t H' sm ht => k t H' (fun b o n e => sm _ _ (s12 _ _ (gr b o n e))) ((tb.same s12).same sm) ht⟩
theorem cmp_ref {K : PySem.W.Frag} {H : Hp} {t t0 : Addr} {wrd : Str} (h : H t = some (.tup [.str "refused", .str wrd])) (h0 : H t0 = some (.tup [.str "refused", .str wrd])) : Cmp K H 1 (.ref t) (.ref t0) true := by
  have := cmp_strs (K := K) (H := H) (ps := ["refused", wrd]) (qs := ["refused", wrd]) (SqT.of h) (SqT.of h0)
  rwa [decide_eq_true rfl] at this
structure QE (X : Cx) (e : Expr) (t : TE) : Prop where
  ok : PE X e t
structure QS (X : Cx) (st : Stmt) (t : TS) : Prop where
  ok : PS X st t
structure QSs (X : Cx) (b : List Stmt) (t : TS) : Prop where
  ok : PSs X b t
theorem qss {X : Cx} {st : Stmt} {rest : List Stmt} {t u : TS} (h1 : QS X st t) (h2 : QSs X rest u) : QSs X (st :: rest) (tSeq t u) := ⟨pss_cons h1.ok h2.ok⟩
theorem tbl0 {H : Hp} {Pt : Addr} (h : H Pt = some (.tbl #[])) : Tbl H Pt qLam := ⟨#[], h, trivial, fun pos cv z => by cases z⟩
structure QG (X : Cx) (tg : Expr) (g : TG) : Prop where
  ok : PG X tg g
structure QI (X : Cx) (tg e : Expr) (wi : TI) : Prop where
  ok : PI X tg e wi
structure QT (X : Cx) (e : Expr) (t : TT) : Prop where
  ok : PT X e t
theorem qone {X : Cx} {st : Stmt} {t : TS} (h : QS X st t) : QSs X [st] t := ⟨pss_one h.ok⟩
theorem q_for {X : Cx} {tg iter : Expr} {body : List Stmt} {wi : TI} {g : TG} {tb : TS} {pos : Pos} (hp : PassesOwn (model X.prog X.w) X.A X.env X.xe) (hc : X.calm = true) (hi : QI X tg iter wi) (hg : QG X tg g) (hb : QSs X body tb) (hs : ∀ x, foldedSetIterable iter X.env x = pure x) :
    QS X (.For tg iter body [] pos) (tFor wi g tb) := ⟨ps_for hp hc hi.ok hg.ok hb.ok hs⟩
theorem q_if {X : Cx} {c : Expr} {a b : List Stmt} {tc : TT} {t u : TS} {pos : Pos} (hc : QT X c tc) (ha : QSs X a t) (hb : QSs X b u) : QS X (.If c a b pos) (tIfS tc t u) := ⟨ps_if hc.ok ha.ok hb.ok⟩
theorem tbl_dice' {H H' : Hp} {Pt d : Addr} {q : Str} (t : Tbl H Pt q) (k : Kept d H H') (hd : DiceAt H d) : Tbl H' Pt q := by
  obtain ⟨a, b, e⟩ := hd
  exact t.grown k e (fun _ z => nomatch z) (fun _ z => nomatch z)
theorem tbl_other {H H' : Hp} {Pl Pt : Addr} {q : Str} (t : Tbl H Pl q) (g : Grown Pt H H') (hP : ∃ ps, H Pt = some (.tbl ps)) (ne : Pl ≠ Pt) : Tbl H' Pl q := by
  obtain ⟨ps, e1, e2, e3⟩ := t
  obtain ⟨qs, eP⟩ := hP
  refine ⟨ps, g _ _ ne e1, e2, fun pos cv z => ?_⟩
  obtain ⟨c, z1, z2⟩ := e3 pos cv z
  exact ⟨c, z1, g _ _ (fun z => by rw [z, eP] at z2; cases z2) z2⟩
structure All (C Pt Pl : Addr) (H : Hp) (lds : Addr) (ds : List Addr) (p dk dl : Addr) (R : List Row) : Prop where
  out : Out H lds ds
  tab : TabAt C H p dk R
  lin : LinAt ds H dl R
  ne : dl ≠ dk
  tb : Tbl H Pt qLam
  tl : Tbl H Pl qLon
  nP : Pl ≠ Pt
  nd : (R.map (·.1)).Nodup
  hd : ∀ k ∈ R.map (·.1), HeadOk k
  sd : ∀ r ∈ R, (∀ x ∈ r.2, x ∈ [(0 : Int), 1, 2, 7]) ∧ r.2.Nodup
theorem All.same {C Pt Pl : Addr} {H H' : Hp} {lds : Addr} {ds : List Addr} {p dk dl : Addr} {R : List Row} (h : All C Pt Pl H lds ds p dk dl R) (e : Same H H') : All C Pt Pl H' lds ds p dk dl R :=
  ⟨h.out.same e, h.tab.same e, h.lin.same e, h.ne, h.tb.same e, h.tl.same e, h.nP, h.nd, h.hd, h.sd⟩
theorem All.but {C Pt Pl : Addr} {H H' : Hp} {lds : Addr} {ds : List Addr} {p dk dl c : Addr} {R : List Row} (h : All C Pt Pl H lds ds p dk dl R) (k : Kept c H H') (hc : ∀ b o, H b = some o → (∀ xs, o ≠ .lst xs) → (∀ ps, o ≠ .tbl ps) → b ≠ c) (ho : Out H' lds ds) (t1 : Tbl H' Pt qLam) (t2 : Tbl H' Pl qLon) (hl : ∀ l ns, H l = some (.lst ns) → l ∉ ds → l = c → False) : All C Pt Pl H' lds ds p dk dl R := by
  obtain ⟨dx, o1⟩ := h.tab.ob
  obtain ⟨kvs, o2, r2⟩ := h.tab.dc
  obtain ⟨kvs3, o3, r3⟩ := h.lin
  have kk : ∀ {b : Addr} {o : HO}, H b = some o → (∀ xs, o ≠ .lst xs) → (∀ ps, o ≠ .tbl ps) → H' b = some o := fun {b o} e n1 n2 => k b o (hc b o e n1 n2) e
  exact ⟨ho, ⟨⟨dx, kk o1 (fun _ z => nomatch z) (fun _ z => nomatch z)⟩, kvs, kk o2 (fun _ z => nomatch z) (fun _ z => nomatch z), rows_mono r2 fun _ _ ⟨t, z1, z2⟩ => ⟨t, z1, kk z2 (fun _ z => nomatch z) (fun _ z => nomatch z)⟩⟩,
    ⟨kvs3, kk o3 (fun _ z => nomatch z) (fun _ z => nomatch z), rows_mono r3 fun _ _ ⟨l, z1, z2, z3⟩ => ⟨l, z1, k l _ (fun z => hl l _ z2 z3 z) z2, z3⟩⟩, h.ne, t1, t2, h.nP, h.nd, h.hd, h.sd⟩
theorem All.roll {C Pt Pl : Addr} {H H' : Hp} {lds : Addr} {ds : List Addr} {p dk dl d : Addr} {R : List Row} (h : All C Pt Pl H lds ds p dk dl R) (hm : d ∈ ds) (k : Kept d H H') (hd : DiceAt H' d) : All C Pt Pl H' lds ds p dk dl R := by
  have hd0 := h.out.dice d hm
  refine h.but k (fun b o e n1 n2 z => ?_) (h.out.roll hm k hd) (tbl_dice' h.tb k hd0) (tbl_dice' h.tl k hd0) fun l ns e n z => n (by rw [z]; exact hm)
  obtain ⟨a, c, q⟩ := hd0
  rw [z, q] at e
  exact n1 _ (Option.some.inj e).symm
theorem All.grownT {C Pt Pl : Addr} {H H' : Hp} {lds : Addr} {ds : List Addr} {p dk dl : Addr} {R : List Row} (h : All C Pt Pl H lds ds p dk dl R) (g : Grown Pt H H') (tb : Tbl H' Pt qLam) : All C Pt Pl H' lds ds p dk dl R := by
  have h0 := h.tb
  obtain ⟨ps, hP, _⟩ := h0
  have l : ∀ b xs, H b = some (.lst xs) → H' b = some (.lst xs) := fun b xs e => g b _ (fun z => by rw [z, hP] at e; cases e) e
  exact h.but (c := Pt) (fun b o n e => g b o n e) (fun b o e n1 n2 z => by rw [z, hP] at e; exact n2 _ (Option.some.inj e).symm) ⟨l _ _ h.out.ll, fun d hd => let ⟨a, b, e⟩ := h.out.dice d hd; ⟨a, b, l _ _ e⟩⟩ tb (tbl_other h.tl g ⟨ps, hP⟩ h.nP) fun l' ns e _ z => by rw [z, hP] at e; cases e
theorem All.grownL {C Pt Pl : Addr} {H H' : Hp} {lds : Addr} {ds : List Addr} {p dk dl : Addr} {R : List Row} (h : All C Pt Pl H lds ds p dk dl R) (g : Grown Pl H H') (tl : Tbl H' Pl qLon) : All C Pt Pl H' lds ds p dk dl R := by
  have h0 := h.tl
  obtain ⟨ps, hP, _⟩ := h0
  have l : ∀ b xs, H b = some (.lst xs) → H' b = some (.lst xs) := fun b xs e => g b _ (fun z => by rw [z, hP] at e; cases e) e
  exact h.but (c := Pl) (fun b o n e => g b o n e) (fun b o e n1 n2 z => by rw [z, hP] at e; exact n2 _ (Option.some.inj e).symm) ⟨l _ _ h.out.ll, fun d hd => let ⟨a, b, e⟩ := h.out.dice d hd; ⟨a, b, l _ _ e⟩⟩ (tbl_other h.tb g ⟨ps, hP⟩ (Ne.symm h.nP)) tl fun l' ns e _ z => by rw [z, hP] at e; cases e
end K20
end
section
set_option Elab.async false
set_option linter.all false
set_option maxRecDepth 100000
set_option maxHeartbeats 400000
namespace K20
open PySem L2
structure Mid (C Pt Pl : Addr) (H : Hp) (lds : Addr) (ds D : List Addr) (p dk dl : Addr) (R1 R2 : List Row) : Prop where
  out : Out H lds ds
  tab : TabAt C H p dk R1
  lin : LinAt D H dl R2
  ne : dl ≠ dk
  tb : Tbl H Pt qLam
  tl : Tbl H Pl qLon
  nP : Pl ≠ Pt
theorem All.mid {C Pt Pl : Addr} {H : Hp} {lds : Addr} {ds : List Addr} {p dk dl : Addr} {R : List Row} (h : All C Pt Pl H lds ds p dk dl R) : Mid C Pt Pl H lds ds ds p dk dl R R := ⟨h.out, h.tab, h.lin, h.ne, h.tb, h.tl, h.nP⟩
theorem out_dict {H H' : Hp} {lds c : Addr} {ds : List Addr} {kvs : List (List Key × V)} (h : Out H lds ds) (k : Kept c H H') (hk : H c = some (.dT kvs)) : Out H' lds ds :=
  ⟨k _ _ (ne_of h.ll hk (fun z => nomatch z)) h.ll, fun d hd => let ⟨a, b, z⟩ := h.dice d hd; ⟨a, b, k _ _ (ne_of z hk (fun z => nomatch z)) z⟩⟩
theorem tbl_d {H H' : Hp} {Pt c : Addr} {q : Str} {kvs : List (List Key × V)} (t : Tbl H Pt q) (k : Kept c H H') (hd : H c = some (.dT kvs)) : Tbl H' Pt q := t.grown k hd (fun _ z => nomatch z) (fun _ z => nomatch z)
theorem lin_d {D : List Addr} {H H' : Hp} {d c : Addr} {R : List Row} {kvs : List (List Key × V)} (h : LinAt D H d R) (k : Kept c H H') (hk : H c = some (.dT kvs)) (n : d ≠ c) : LinAt D H' d R :=
  let ⟨kv, h1, h2⟩ := h; ⟨kv, k _ _ n h1, rows_mono h2 fun _ _ ⟨l, z1, z2, z3⟩ => ⟨l, z1, k _ _ (ne_of z2 hk (fun z => nomatch z)) z2, z3⟩⟩
theorem tab_d {C : Addr} {H H' : Hp} {p d c : Addr} {R : List Row} {kvs : List (List Key × V)} (h : TabAt C H p d R) (k : Kept c H H') (hk : H c = some (.dT kvs)) (n : d ≠ c) : TabAt C H' p d R :=
  ⟨let ⟨dx, q⟩ := h.ob; ⟨dx, k _ _ (ne_of q hk (fun z => nomatch z)) q⟩, let ⟨kv, h1, h2⟩ := h.dc; ⟨kv, k _ _ n h1, rows_mono h2 fun _ _ ⟨t, z1, z2⟩ => ⟨t, z1, k _ _ (ne_of z2 hk (fun z => nomatch z)) z2⟩⟩⟩
theorem Mid.put {C Pt Pl : Addr} {H H' : Hp} {lds : Addr} {ds D : List Addr} {p dk dl : Addr} {R1 R2 R' : List Row} (h : Mid C Pt Pl H lds ds D p dk dl R1 R2) (k : Kept dk H H') (t : TabAt C H' p dk R') : Mid C Pt Pl H' lds ds D p dk dl R' R2 :=
  let ⟨_, e, _⟩ := h.tab.dc; ⟨out_dict h.out k e, t, lin_d h.lin k e h.ne, h.ne, tbl_d h.tb k e, tbl_d h.tl k e, h.nP⟩
theorem Mid.line {C Pt Pl : Addr} {H H' : Hp} {lds : Addr} {ds D : List Addr} {p dk dl : Addr} {R1 R2 R' : List Row} (h : Mid C Pt Pl H lds ds D p dk dl R1 R2) (k : Kept dl H H') (t : LinAt D H' dl R') : Mid C Pt Pl H' lds ds D p dk dl R1 R' :=
  let ⟨_, e, _⟩ := h.lin; ⟨out_dict h.out k e, tab_d h.tab k e (Ne.symm h.ne), t, h.ne, tbl_d h.tb k e, tbl_d h.tl k e, h.nP⟩
theorem Mid.same {C Pt Pl : Addr} {H H' : Hp} {lds : Addr} {ds D : List Addr} {p dk dl : Addr} {R1 R2 : List Row} (h : Mid C Pt Pl H lds ds D p dk dl R1 R2) (e : Same H H') : Mid C Pt Pl H' lds ds D p dk dl R1 R2 := ⟨h.out.same e, h.tab.same e, h.lin.same e, h.ne, h.tb.same e, h.tl.same e, h.nP⟩
theorem sides_of {K : PySem.W.Frag} {H : Hp} {l : Addr} {xs : List Int} (h : H l = some (.lst (xs.map V.int))) (hin : ∀ x ∈ xs, x ∈ [(0 : Int), 1, 2, 7]) (hn : xs.Nodup) (hl : xs.length ≤ 100) : SidesV K H (.ref l) true := by
  have ef : (xs.map V.int).filterMap asInt = xs := by
    rw [List.filterMap_map]
    exact List.filterMap_some
  refine .inl ⟨l, _, rfl, h, by rw [List.length_map]; exact hl, fun x hx => ?_, ?_⟩
  · obtain ⟨n, _, rfl⟩ := List.mem_map.mp hx
    exact ⟨_, kn_int _⟩
  · unfold sidesB
    rw [ef, decide_eq_true hn, Bool.and_true]
    symm
    rw [List.all_eq_true]
    intro x hx
    obtain ⟨n, hn', rfl⟩ := List.mem_map.mp hx
    have := hin n hn'
    have h8 : n = 0 ∨ n = 1 ∨ n = 2 ∨ n = 7 := by simpa using this
    rcases h8 with rfl | rfl | rfl | rfl <;> decide
theorem all_put {R : List Row} {ps : List Str} {xs : List Int} {P : Row → Prop} (h : ∀ r ∈ R, P r) (hp : P (ps, xs)) : ∀ r ∈ putR R ps xs, P r := fun r hr => by
  unfold putR at hr
  split at hr
  · obtain ⟨r', h1, h2⟩ := List.mem_map.mp hr
    split at h2
    · rename_i e
      rw [← h2, e]
      exact hp
    · rw [← h2]; exact h r' h1
  · rcases List.mem_append.mp hr with z | z
    · exact h r z
    · rw [List.mem_singleton.mp z]; exact hp
section
variable {P : Program} {w : World} {K : PySem.W.Frag} {mg : Str → Option Value} {base : Heap} {f C : Addr} {c Pt Pl Nm ft W : Addr} {fdt : FuncData} {wd : Addr → Str → Prop} {A : Around} {outer : List Env} {s : Shared} {H₀ : Hp} {E : XK}
theorem st0 {fI : Addr} {fdI : FuncData} (hr : Room 8 (A.deeper (PyProof.Rows.envOfC "law" (defScope sLaw) s.heap.objs.size f (.ref c)))) (T : Txt K mg C) (M : Mk K C fI) (GI : FnOk P w K mg base CX0 1 fI fdI ["self"] (spTInit C)) (bI : Binds K fdI ["self"] []) :
    ∃ t, QS (XL P w K mg base f c A outer s H₀ E) (outerB.getD 0 (.Pass ⟨0, 0, 0, 0⟩)) t ∧ ∀ (D : Ends) (H : Hp) (lds : Addr) (ds : List Addr) (a d : Addr) (x2 x3 x4 x5 x6 x7 x8 x9 : Option V), Out H lds ds → Tbl H Pt qLam → Tbl H Pl qLon → Pl ≠ Pt →
      (∀ H' p dk dl, All C Pt Pl H' lds ds p dk dl [] → D.nx (stA a d (some (.ref p)) (some (.ref dl)) x4 x5 x6 x7 x8 x9) H') → t D (stA a d x2 x3 x4 x5 x6 x7 x8 x9) H := by
  refine ⟨_, ⟨ps_asg (pe_tup (pa_cons (pe_make0 M GI (hr.mono (by decide)) (by rfl) T.mgC bI .nil pass0) (pa_cons pe_dnewT pa_nil))) (pg_tup rfl (pgs_cons (pg_name (i := 2) scLaw.nd rfl (Or.inr rfl)) (pgs_cons (pg_name (i := 3) scLaw.nd rfl (Or.inr rfl)) pgs_nil)))⟩, ?_⟩
  intro D H lds ds a d x2 x3 x4 x5 x6 x7 x8 x9 O tb tl nP k
  refine fun p dx np ndx nex => ⟨p, dx, rfl, upd_same, fun dk H5 nk S5 kp => ⟨rfl, fun dl hdl => ⟨(by show 2 ≤ sizeLine; decide), fun tt htt => ?_⟩⟩⟩
  have s5 : Same H H5 := fun b o e => by
    refine kp b o ?_ (ne_of_none e np)
    rw [upd_ne (ne_of_none e np), upd_ne (ne_of_none e ndx)]
    exact e
  have s6 := same_upd (o := .dT []) hdl
  have s7 := same_upd (o := .tup [.ref p, .ref dl]) htt
  have s67 := s6.trans s7
  have s57 := s5.trans s67
  refine ⟨tt, _, rfl, SqT.of upd_same, rfl, _, _, rfl, _, _, rfl, rfl, ?_⟩
  refine k _ p dk dl ⟨O.same s57, S5.same s67, ⟨[], s7 _ _ upd_same, .nil⟩, fun z => ?_, tb.same s57, tl.same s57, nP, by simp, by simp, by simp⟩
  obtain ⟨kvs, e, _⟩ := S5.dc
  rw [← z, hdl] at e
  cases e
theorem tu0 {f3 : Addr} {fd3 : FuncData} (hr : Room 8 (A.deeper (PyProof.Rows.envOfC "law" (defScope sLaw) s.heap.objs.size f (.ref c)))) (C3 : Cal P w K mg base 3 "_law_head" f3 fd3 ["_law_dice"] spHead) :
    ∃ t, QS (XL P w K mg base f c A outer s H₀ E) (turnB.getD 0 (.Pass ⟨0, 0, 0, 0⟩)) t ∧ ∀ (D : Ends) (H : Hp) (lds : Addr) (ds : List Addr) (a d p dk dl : Addr) (R : List Row) (x2 x3 x4 x5 x6 x7 x8 x9 : Option V), d ∈ ds → All C Pt Pl H lds ds p dk dl R →
      (∀ (H' : Hp) (q : Addr) (ps : List Str), All C Pt Pl H' lds ds p dk dl R → H' q = some (.tup (ps.map V.str)) → HeadOk ps → D.nx (stA a d x2 x3 x4 (some (.ref q)) x6 x7 x8 x9) H') → t D (stA a d x2 x3 x4 x5 x6 x7 x8 x9) H := by
  refine ⟨_, ⟨ps_set (i := 5) scLaw.nd rfl (Or.inr rfl) (pe_fn C3 (hr.mono (by decide)) (by rfl) (pa_cons (pv 1) pa_nil))⟩, ?_⟩
  intro D H lds ds a d p dk dl R x2 x3 x4 x5 x6 x7 x8 x9 hd al k
  exact ⟨_, rfl, d, rfl, al.out.dice d hd, fun q ps H6 ok hq hd6 k6 => k H6 q ps (al.roll hd k6 hd6) hq ok⟩
theorem th0 {fS : Addr} {fdS : FuncData} (hr : Room 8 (A.deeper (PyProof.Rows.envOfC "law" (defScope sLaw) s.heap.objs.size f (.ref c)))) (CS : Cal P w K mg base 3 "_law_some_sides" fS fdS ["_law_dice", "_law_near"] spSome) :
    ∃ t, QS (XL P w K mg base f c A outer s H₀ E) (thenB.getD 0 (.Pass ⟨0, 0, 0, 0⟩)) t ∧ ∀ (D : Ends) (H : Hp) (lds : Addr) (ds : List Addr) (a d p dk dl q : Addr) (R : List Row) (ps : List Str) (x2 x3 x4 x5 x6 x7 x8 x9 : Option V), d ∈ ds → All C Pt Pl H lds ds p dk dl R → H q = some (.tup (ps.map V.str)) →
      (∀ (H' : Hp) (l : Addr) (xs : List Int), Mid C Pt Pl H' lds ds (l :: ds) p dk dl R R → H' q = some (.tup (ps.map V.str)) → H' l = some (.lst (xs.map V.int)) → l ∉ ds → l ≠ lds → (∀ x ∈ xs, x ∈ [(0 : Int), 1, 2, 7]) → xs.Nodup → xs.length ≤ 10 → D.nx (stA a d x2 x3 x4 x5 (some (.ref l)) x7 x8 x9) H') → t D (stA a d x2 x3 x4 x5 x6 x7 x8 x9) H := by
  refine ⟨_, ⟨ps_set (i := 6) scLaw.nd rfl (Or.inl rfl) (pe_fn CS (hr.mono (by decide)) (by rfl) (pa_cons (pv 1) (pa_cons (pe_lst (pa_cons pe_int (pa_cons pe_int (pa_cons pe_int (pa_cons pe_int pa_nil))))) pa_nil)))⟩, ?_⟩
  intro D H lds ds a d p dk dl q R ps x2 x3 x4 x5 x6 x7 x8 x9 hd al hq k
  refine ⟨_, rfl, (by show 4 ≤ sizeLine; decide), fun nl hnl => ?_⟩
  have s1 := same_upd (o := .lst [.int 0, .int 1, .int 2, .int 7]) hnl
  have a1 := al.same s1
  have hd1 := a1.out.dice d hd
  have n1 : nl ≠ d := fun z => by obtain ⟨_, _, e⟩ := al.out.dice d hd; rw [← z, hnl] at e; cases e
  refine ⟨d, nl, [0, 1, 2, 7], rfl, hd1, upd_same, n1, by decide, by decide, fun l xs H2 k2 hd2 hl0 nld hl2 hin hnn hxl => ?_⟩
  have a2 := a1.roll hd k2 hd2
  have nds : l ∉ ds := fun z => by obtain ⟨_, _, e⟩ := a1.out.dice l z; rw [hl0] at e; cases e
  have nlds : l ≠ lds := fun z => by have := a1.out.ll; rw [← z, hl0] at this; cases this
  obtain ⟨kvs, e1, r1⟩ := a1.lin
  obtain ⟨kvs2, e2, r2⟩ := a2.lin
  have ekv : kvs2 = kvs := by
    have := k2 _ _ (dice_ne hd1 e1 fun _ _ z => nomatch z) e1
    rw [e2] at this
    cases this
    rfl
  subst ekv
  refine k H2 l xs ⟨a2.out, a2.tab, ⟨kvs2, e2, Paired.mapP r1 fun r kv ⟨z1, l', z2, z3, z4⟩ => ⟨z1, l', z2, k2 _ _ (fun z => z4 (by rw [z]; exact hd)) z3, fun z => ?_⟩⟩, a2.ne, a2.tb, a2.tl, a2.nP⟩ ?_ hl2 nds nlds hin hnn hxl
  · rcases List.mem_cons.mp z with z | z
    · rw [z, hl0] at z3; cases z3
    · exact z4 z
  · exact k2 _ _ (dice_ne hd1 (s1 _ _ hq) fun _ _ z => nomatch z) (s1 _ _ hq)
theorem th1 {fP : Addr} {fdP : FuncData} (hr : Room 8 (A.deeper (PyProof.Rows.envOfC "law" (defScope sLaw) s.heap.objs.size f (.ref c)))) (T : Txt K mg C) (MP : Met P w K mg base CX0 C 6 "put" fP fdP NTPut (spTPut K C)) :
    ∃ t, QS (XL P w K mg base f c A outer s H₀ E) (thenB.getD 1 (.Pass ⟨0, 0, 0, 0⟩)) t ∧ ∀ (D : Ends) (H : Hp) (lds : Addr) (ds DD : List Addr) (a d p dk dl q l : Addr) (R : List Row) (ps : List Str) (xs : List Int) (x3 x4 x7 x8 x9 : Option V), Mid C Pt Pl H lds ds DD p dk dl R R → R.length ≤ 60 → H q = some (.tup (ps.map V.str)) → HeadOk ps → H l = some (.lst (xs.map V.int)) → (∀ x ∈ xs, x ∈ [(0 : Int), 1, 2, 7]) → xs.Nodup → xs.length ≤ 10 →
      (∀ H', Mid C Pt Pl H' lds ds DD p dk dl (putR R ps xs) R → H' q = some (.tup (ps.map V.str)) → H' l = some (.lst (xs.map V.int)) → D.nx (stA a d (some (.ref p)) x3 x4 (some (.ref q)) (some (.ref l)) x7 x8 x9) H') → t D (stA a d (some (.ref p)) x3 x4 (some (.ref q)) (some (.ref l)) x7 x8 x9) H := by
  refine ⟨_, ⟨ps_if (pt_cmpR op_notN (pe_meth (pv 2) T.cl MP.at_ MP.ok (hr.mono (by decide)) MP.bd .nil pass0 (pa_cons (pv 5) (pa_cons (pv 6) pa_nil))) pe_non (nomark _)) (pss_one (ps_ret pe_bl)) pss_nil⟩, ?_⟩
  intro D H lds ds DD a d p dk dl q l R ps xs x3 x4 x7 x8 x9 m hR hq ok hl hin hnn hxl k
  obtain ⟨dx, o1⟩ := m.tab.ob
  obtain ⟨kvs, e1, _⟩ := m.tab.dc
  refine ⟨_, rfl, p, dx, _, rfl, o1, tflds_no _ (by decide +kernel), _, rfl, _, rfl, p, dk, q, l, R, ps, xs, rfl, hq, begV_head hq ok, hl, sides_of hl hin hnn (by omega), m.tab, by omega, fun H2 t2 k2 => ⟨rfl, _, rfl, iteF (k H2 (m.put k2 t2) ?_ ?_)⟩⟩
  · exact k2 _ _ (ne_of hq e1 (fun z => nomatch z)) hq
  · exact k2 _ _ (ne_of hl e1 (fun z => nomatch z)) hl
theorem th2 (hr : Room 8 (A.deeper (PyProof.Rows.envOfC "law" (defScope sLaw) s.heap.objs.size f (.ref c)))) (G : Glb mg) :
    ∃ t, QS (XL P w K mg base f c A outer s H₀ E) (thenB.getD 2 (.Pass ⟨0, 0, 0, 0⟩)) t ∧ ∀ (D : Ends) (H : Hp) (lds : Addr) (ds : List Addr) (a d p dk dl q l : Addr) (R1 R : List Row) (ps : List Str) (xs : List Int) (x2 x4 x7 x8 x9 : Option V), Mid C Pt Pl H lds ds (l :: ds) p dk dl R1 R → R.length ≤ 60 → H q = some (.tup (ps.map V.str)) → H l = some (.lst (xs.map V.int)) →
      (∀ H', Mid C Pt Pl H' lds ds (l :: ds) p dk dl R1 (putR R ps xs) → H' l = some (.lst (xs.map V.int)) → D.nx (stA a d x2 (some (.ref dl)) x4 (some (.ref q)) (some (.ref l)) x7 x8 x9) H') → t D (stA a d x2 (some (.ref dl)) x4 (some (.ref q)) (some (.ref l)) x7 x8 x9) H := by
  refine ⟨_, ⟨ps_dput (hu_of hr) (pv 3) (pv 5) (pe_callTy call_list_of (by rfl) G.list PyProof.Rows.boot_list (pa_cons (pv 6) pa_nil)) rfl⟩, ?_⟩
  intro D H lds ds a d p dk dl q l R1 R ps xs x2 x4 x7 x8 x9 m hR hq hl k
  refine ⟨_, rfl, l, _, rfl, .inl (SqL.of hl), fun l2 hl2 => ?_⟩
  have s1 := same_upd (o := .lst (xs.map V.int)) hl2
  have m1 := m.same s1
  obtain ⟨kvs, e1, r1⟩ := m1.lin
  have hkl : kvs.length ≤ 60 := by rw [← rows_len r1]; exact hR
  have n2 : l2 ∉ l :: ds := fun z => by
    rcases List.mem_cons.mp z with z | z
    · rw [← z, hl2] at hl; cases hl
    · obtain ⟨_, _, e⟩ := m.out.dice l2 z; rw [hl2] at e; cases e
  refine ⟨_, rfl, _, rfl, dl, _, rfl, DPut.t (k := keyOf ps) e1 (by rw [keyOf_kV]; exact s1 _ _ hq) (small1000 (by omega)), ?_⟩
  have ku := kept_upd (d := dl) (H := upd H l2 (.lst (xs.map V.int))) (o := .dT (putK kvs (keyOf ps) (.ref l2)))
  have tl : ∀ {b : Addr} {ys : List V}, upd H l2 (.lst (xs.map V.int)) b = some (.lst ys) → upd (upd H l2 (.lst (xs.map V.int))) dl (.dT (putK kvs (keyOf ps) (.ref l2))) b = some (.lst ys) := fun {b ys} e => ku _ _ (ne_of e e1 (fun z => nomatch z)) e
  exact k _ (m1.line ku ⟨_, upd_same, rows_mono (rows_put r1 ⟨l2, rfl, upd_same, n2⟩) fun _ _ ⟨l', z1, z2, z3⟩ => ⟨l', z1, tl z2, z3⟩⟩) (tl (s1 _ _ hl))
theorem th3 : ∃ t, QS (XL P w K mg base f c A outer s H₀ E) (thenB.getD 3 (.Pass ⟨0, 0, 0, 0⟩)) t ∧ ∀ (D : Ends) (H : Hp) (lds : Addr) (ds : List Addr) (a d p dk dl l : Addr) (R1 R : List Row) (xs : List Int) (x2 x3 x4 x5 x7 x8 x9 : Option V), Mid C Pt Pl H lds ds (l :: ds) p dk dl R1 R → H l = some (.lst (xs.map V.int)) → l ∉ ds → l ≠ lds → xs.length ≤ 10 →
      (∀ H', Mid C Pt Pl H' lds ds ds p dk dl R1 R → D.nx (stA a d x2 x3 x4 x5 (some (.ref l)) x7 x8 x9) H') → t D (stA a d x2 x3 x4 x5 (some (.ref l)) x7 x8 x9) H := by
  refine ⟨_, ⟨ps_expr (pe_bm PySem.F.plainAttrs_list PySem.F.slot_list_append PySem.F.type_list_append mt_append (pv 6) (pa_cons pe_int pa_nil))⟩, ?_⟩
  intro D H lds ds a d p dk dl l R1 R xs x2 x3 x4 x5 x7 x8 x9 m hl nds nlds hxl k
  refine ⟨_, rfl, .inl ⟨rfl, _, SqL.of hl⟩, l, _, _, rfl, rfl, hl, by rw [List.length_map]; exact Nat.lt_of_le_of_lt hxl (by decide), ?_⟩
  have ku : Kept l H (upd H l (.lst (xs.map V.int ++ [.int 9]))) := kept_upd
  have kk : ∀ {b : Addr} {o : HO}, H b = some o → (∀ ys, o ≠ .lst ys) → upd H l (.lst (xs.map V.int ++ [.int 9])) b = some o := fun {b o} e n => ku _ _ (ne_of e hl fun z => n _ z) e
  obtain ⟨dx, o1⟩ := m.tab.ob
  obtain ⟨kvs, e1, r1⟩ := m.tab.dc
  obtain ⟨kvs2, e2, r2⟩ := m.lin
  refine k _ ⟨⟨ku _ _ (Ne.symm nlds) m.out.ll, fun d' hd' => let ⟨a', b', z⟩ := m.out.dice d' hd'; ⟨a', b', ku _ _ (fun y => nds (by rw [← y]; exact hd')) z⟩⟩, ⟨⟨dx, kk o1 (fun _ z => nomatch z)⟩, kvs, kk e1 (fun _ z => nomatch z), rows_mono r1 fun _ _ ⟨t, z1, z2⟩ => ⟨t, z1, kk z2 (fun _ z => nomatch z)⟩⟩,
    ⟨kvs2, kk e2 (fun _ z => nomatch z), rows_mono r2 fun _ _ ⟨l', z1, z2, z3⟩ => ⟨l', z1, ku _ _ (fun y => z3 (by rw [y]; exact List.mem_cons_self)) z2, fun y => z3 (List.mem_cons_of_mem _ y)⟩⟩, m.ne, m.tb.grown ku hl (fun _ z => nomatch z) (fun _ z => nomatch z), m.tl.grown ku hl (fun _ z => nomatch z) (fun _ z => nomatch z), m.nP⟩
end
end K20
end
section
set_option Elab.async false
set_option linter.all false
set_option maxRecDepth 100000
set_option maxHeartbeats 400000
namespace K20
open PySem L2
noncomputable def DueAt (H : Hp) (v : V) (r : Option (List Int)) : Prop := (r.isSome = true ∧ v = .non) ∨ (r = none ∧ ∃ t, v = .ref t ∧ H t = some (.tup [.str "refused", .str "BadName"]))
theorem drop_absent {R : List Row} {k : List Str} (h : valR R k = none) : dropR R k = R := by
  unfold dropR
  rw [List.filter_eq_self]
  intro r hr
  refine decide_eq_true fun e => ?_
  obtain ⟨sd, z⟩ := valR_some (R := R) (k := k) (List.mem_map.mpr ⟨r, hr, e⟩)
  rw [h] at z
  cases z
theorem mem_drop {R : List Row} {k : List Str} {r : Row} (h : r ∈ dropR R k) : r ∈ R := (List.mem_filter.mp h).1
theorem lin_isSome {D : List Addr} {H : Hp} {d b : Addr} {R : List Row} {k : List Str} (h : LinAt D H d R) (hb : H b = some (.tup (k.map V.str))) : ∃ o, DGet H d (.ref b) o ∧ o.isSome = (valR R k).isSome := by
  obtain ⟨kvs, h1, h2⟩ := h
  refine ⟨_, DGet.t (k := keyOf k) h1 (by rw [keyOf_kV]; exact hb), ?_⟩
  rcases rows_val (k := k) h2 with ⟨v1, v2⟩ | ⟨v, sd', v1, v2, _⟩
  · rw [v1, v2]; rfl
  · rw [v1, v2]; rfl
section
variable {P : Program} {w : World} {K : PySem.W.Frag} {mg : Str → Option Value} {base : Heap} {f C : Addr} {c Pt Pl Nm ft W : Addr} {fdt : FuncData} {wd : Addr → Str → Prop} {A : Around} {outer : List Env} {s : Shared} {H₀ : Hp} {E : XK}
theorem el0 (hr : Room 8 (A.deeper (PyProof.Rows.envOfC "law" (defScope sLaw) s.heap.objs.size f (.ref c)))) :
    ∃ t, QS (XL P w K mg base f c A outer s H₀ E) (elseB.getD 0 (.Pass ⟨0, 0, 0, 0⟩)) t ∧ ∀ (D : Ends) (H : Hp) (ds : List Addr) (a d dl q : Addr) (R : List Row) (ps : List Str) (x2 x4 x6 x7 x8 x9 : Option V), LinAt ds H dl R → H q = some (.tup (ps.map V.str)) →
      (∀ H' v, Same H H' → DueAt H' v (valR R ps) → D.nx (stA a d x2 (some (.ref dl)) x4 (some (.ref q)) x6 (some v) x8 x9) H') → t D (stA a d x2 (some (.ref dl)) x4 (some (.ref q)) x6 x7 x8 x9) H := by
  refine ⟨_, ⟨ps_set (i := 7) scLaw.nd rfl (Or.inl rfl) (pe_ifExp (pt_cmp (pc_din (hu_of hr) (pv 5) (pv 3))) pe_non (pe_tup (pa_cons pe_str (pa_cons pe_str pa_nil))))⟩, ?_⟩
  intro D H ds a d dl q R ps x2 x4 x6 x7 x8 x9 lin hq k
  obtain ⟨o, dg, ho⟩ := lin_isSome lin hq
  refine ⟨_, rfl, _, rfl, dl, o, rfl, dg, _, rfl, ?_⟩
  rw [ho]
  cases e : valR R ps with
  | some sd => exact iteT (k H _ (Same.refl _) (.inl ⟨by rw [e]; rfl, rfl⟩))
  | none => exact iteF ⟨(by show 2 ≤ sizeLine; decide), fun t ht => k _ _ (same_upd ht) (.inr ⟨e, t, rfl, upd_same⟩)⟩
theorem el1 {fD : Addr} {fdD : FuncData} (hr : Room 8 (A.deeper (PyProof.Rows.envOfC "law" (defScope sLaw) s.heap.objs.size f (.ref c)))) (T : Txt K mg C) (EV : EnvL P w K mg base c Pt ft W fdt wd) (Z : Say K W wd Nm "BadName") (MD : Met P w K mg base (CXF P w) C 5 "drop" fD fdD ["self", "beginning"] (spTDrop K C Nm)) :
    ∃ t, QS (XL P w K mg base f c A outer s H₀ E) (elseB.getD 1 (.Pass ⟨0, 0, 0, 0⟩)) t ∧ ∀ (D : Ends) (H : Hp) (lds : Addr) (ds : List Addr) (a d p dk dl q : Addr) (R : List Row) (ps : List Str) (v : V) (x3 x4 x6 x8 x9 : Option V), All C Pt Pl H lds ds p dk dl R → H q = some (.tup (ps.map V.str)) → HeadOk ps → DueAt H v (valR R ps) →
      (∀ H', Mid C Pt Pl H' lds ds ds p dk dl (dropR R ps) R → H' q = some (.tup (ps.map V.str)) → D.nx (stA a d (some (.ref p)) x3 x4 (some (.ref q)) x6 (some v) x8 x9) H') → t D (stA a d (some (.ref p)) x3 x4 (some (.ref q)) x6 (some v) x8 x9) H := by
  refine ⟨_, ⟨ps_if (pt_cmpR (op_neC (n := 1) (units_of hr (by decide))) (pe_told (k := 6) EV.told (by rfl) EV.mt EV.kt rfl EV.hC EV.hB hr (by decide) (by rfl) (fun f c' A outer s' H' E hr' => pe_meth (pv 2) T.cl MD.at_ MD.ok (hr'.mono (by decide)) MD.bd .nil (passF flies_lam) (pa_cons (pv 5) pa_nil))) (pv 7) (nomark _)) (pss_one (ps_ret pe_bl)) pss_nil⟩, ?_⟩
  intro D H lds ds a d p dk dl q R ps v x3 x4 x6 x8 x9 al hq ok due k
  refine ⟨al.tb, fun H1 g1 b1 => ?_⟩
  have a1 := al.grownT g1 b1
  obtain ⟨ps0, hP, _⟩ := id al.tb
  have nP : ∀ {b : Addr} {xs : List V}, H b = some (.tup xs) → H1 b = some (.tup xs) := fun {b xs} e => g1 b _ (fun z => by rw [z, hP] at e; cases e) e
  obtain ⟨dx, o1⟩ := a1.tab.ob
  obtain ⟨kvs, e1, _⟩ := a1.tab.dc
  refine ⟨_, rfl, p, dx, _, rfl, o1, tflds_no _ (by decide +kernel), _, rfl, p, dk, q, R, ps, rfl, nP hq, begV_head (nP hq) ok, a1.tab, fun hn H2 s2 => fin_told Z g1 b1 s2 fun t1 H3 g3 b3 ht1 => ?_, fun hs H2 t2 k2 => ?_⟩
  · have a3 := al.grownT g3 b3
    have nP3 : ∀ {b : Addr} {xs : List V}, H b = some (.tup xs) → H3 b = some (.tup xs) := fun {b xs} e => g3 b _ (fun z => by rw [z, hP] at e; cases e) e
    rcases due with ⟨z, _⟩ | ⟨_, t0, rfl, ht0⟩
    · rw [hn] at z; cases z
    · refine ⟨_, rfl, true, cmp_ref ht1 (nP3 ht0), _, rfl, iteF (k H3 ?_ (nP3 hq))⟩
      rw [drop_absent hn]
      exact a3.mid
  · rcases due with ⟨_, rfl⟩ | ⟨z, _⟩
    · refine ⟨_, rfl, true, ?_, _, rfl, iteF (k H2 (a1.mid.put k2 t2) (k2 _ _ (ne_of (nP hq) e1 (fun z => nomatch z)) (nP hq)))⟩
      have := cmp_flat (K := K) (H := H2) (n := 1) (x := .non) (y := .non) rfl rfl
      have e : eqV .non .non = true := by simp [eqV]
      rwa [e] at this
    · rw [z] at hs; cases hs
theorem el2 (hr : Room 8 (A.deeper (PyProof.Rows.envOfC "law" (defScope sLaw) s.heap.objs.size f (.ref c)))) :
    ∃ t, QS (XL P w K mg base f c A outer s H₀ E) (elseB.getD 2 (.Pass ⟨0, 0, 0, 0⟩)) t ∧ ∀ (D : Ends) (H : Hp) (lds : Addr) (ds : List Addr) (a d p dk dl q : Addr) (R1 R : List Row) (ps : List Str) (x2 x4 x6 x7 x8 x9 : Option V), Mid C Pt Pl H lds ds ds p dk dl R1 R → H q = some (.tup (ps.map V.str)) →
      (∀ H', Mid C Pt Pl H' lds ds ds p dk dl R1 (dropR R ps) → D.nx (stA a d x2 (some (.ref dl)) x4 (some (.ref q)) x6 x7 x8 x9) H') → t D (stA a d x2 (some (.ref dl)) x4 (some (.ref q)) x6 x7 x8 x9) H := by
  refine ⟨_, ⟨ps_if (pt_cmp (pc_din (hu_of hr) (pv 5) (pv 3))) (pss_one (ps_expr (pe_dpopT (units_of hr (by decide)) (pv 3) (pv 5) ⟨rfl, rfl, rfl, rfl⟩))) pss_nil⟩, ?_⟩
  intro D H lds ds a d p dk dl q R1 R ps x2 x4 x6 x7 x8 x9 m hq k
  obtain ⟨o, dg, ho⟩ := lin_isSome m.lin hq
  refine ⟨_, rfl, _, rfl, dl, o, rfl, dg, _, rfl, ?_⟩
  rw [ho]
  cases e : valR R ps with
  | none =>
    refine iteF (k H ?_)
    rw [drop_absent e]
    exact m
  | some sd =>
    obtain ⟨kvs, e1, r1⟩ := m.lin
    rcases rows_val (k := ps) r1 with ⟨_, v2⟩ | ⟨v, sd', v1, v2, v3⟩
    · rw [e] at v2; cases v2
    · refine iteT ⟨_, rfl, dl, rfl, .inr ⟨kvs, .inl e1⟩, _, rfl, q, kvs, keyOf ps, v, rfl, e1, by rw [keyOf_kV]; exact hq, v1, ?_⟩
      have ku := kept_upd (d := dl) (H := H) (o := .dT (dropK kvs (keyOf ps)))
      exact k _ (m.line ku ⟨_, upd_same, rows_mono (rows_drop r1) fun _ _ ⟨l', z1, z2, z3⟩ => ⟨l', z1, ku _ _ (ne_of z2 e1 (fun z => nomatch z)) z2, z3⟩⟩)
theorem turn {f1 f3 fS fP fD : Addr} {fd1 fd3 fdS fdP fdD : FuncData} (hr : Room 8 (A.deeper (PyProof.Rows.envOfC "law" (defScope sLaw) s.heap.objs.size f (.ref c)))) (G : Glb mg) (T : Txt K mg C) (EV : EnvL P w K mg base c Pt ft W fdt wd) (Z : Say K W wd Nm "BadName")
    (C1 : Cal P w K mg base 2 "_law_roll" f1 fd1 ["_law_dice", "_law_many"] spRoll) (C3 : Cal P w K mg base 3 "_law_head" f3 fd3 ["_law_dice"] spHead) (CS : Cal P w K mg base 3 "_law_some_sides" fS fdS ["_law_dice", "_law_near"] spSome)
    (MP : Met P w K mg base CX0 C 6 "put" fP fdP NTPut (spTPut K C)) (MD : Met P w K mg base (CXF P w) C 5 "drop" fD fdD ["self", "beginning"] (spTDrop K C Nm)) :
    ∃ t, QSs (XL P w K mg base f c A outer s H₀ E) turnB t ∧ ∀ (D : Ends) (H : Hp) (lds : Addr) (ds : List Addr) (a d p dk dl : Addr) (R : List Row) (x4 x5 x6 x7 x8 x9 : Option V), d ∈ ds → All C Pt Pl H lds ds p dk dl R → R.length ≤ 30 →
      (∀ H' R' x5 x6 x7, All C Pt Pl H' lds ds p dk dl R' → R'.length ≤ R.length + 1 → D.nx (stA a d (some (.ref p)) (some (.ref dl)) x4 x5 x6 x7 x8 x9) H') → t D (stA a d (some (.ref p)) (some (.ref dl)) x4 x5 x6 x7 x8 x9) H := by
  obtain ⟨t0, p0, r0⟩ := tu0 (C := C) (Pt := Pt) (Pl := Pl) (outer := outer) (H₀ := H₀) (E := E) hr C3
  obtain ⟨u0, q0, v0⟩ := th0 (C := C) (Pt := Pt) (Pl := Pl) (outer := outer) (H₀ := H₀) (E := E) hr CS
  obtain ⟨u1, q1, v1⟩ := th1 (Pt := Pt) (Pl := Pl) (outer := outer) (H₀ := H₀) (E := E) hr T MP
  obtain ⟨u2, q2, v2⟩ := th2 (P := P) (w := w) (K := K) (base := base) (C := C) (Pt := Pt) (Pl := Pl) (outer := outer) (H₀ := H₀) (E := E) hr G
  obtain ⟨u3, q3, v3⟩ := th3 (P := P) (w := w) (K := K) (mg := mg) (base := base) (f := f) (c := c) (A := A) (s := s) (C := C) (Pt := Pt) (Pl := Pl) (outer := outer) (H₀ := H₀) (E := E)
  obtain ⟨e0, g0, h0⟩ := el0 (P := P) (w := w) (K := K) (mg := mg) (base := base) (outer := outer) (H₀ := H₀) (E := E) hr
  obtain ⟨e1, g1, h1⟩ := el1 (Pl := Pl) (outer := outer) (H₀ := H₀) (E := E) hr T EV Z MD
  obtain ⟨e2, g2, h2⟩ := el2 (P := P) (w := w) (K := K) (mg := mg) (base := base) (C := C) (Pt := Pt) (Pl := Pl) (outer := outer) (H₀ := H₀) (E := E) hr
  have th : QSs (XL P w K mg base f c A outer s H₀ E) thenB (tSeq u0 (tSeq u1 (tSeq u2 u3))) := qss q0 (qss q1 (qss q2 (qone q3)))
  have el : QSs (XL P w K mg base f c A outer s H₀ E) elseB (tSeq e0 (tSeq e1 e2)) := qss g0 (qss g1 (qone g2))
  have cd : ∃ tc, QT (XL P w K mg base f c A outer s H₀ E) (condOf (turnB.getD 1 (.Pass ⟨0, 0, 0, 0⟩))) tc ∧ tc = tTest (tOp (rI0 fun i j => .bl (decide (j < i))) (tCall spRoll [] E0 (tCons (tVar 1) (tCons (tC (.int 4)) tNil))) (tC (.int 0))) := ⟨_, ⟨pt_cmpR op_gt (pe_fn C1 (hr.mono (by decide)) (by rfl) (pa_cons (pv 1) (pa_cons pe_int pa_nil))) pe_int (nomark _)⟩, rfl⟩
  obtain ⟨tc, cd, htc⟩ := cd
  have body : QSs (XL P w K mg base f c A outer s H₀ E) turnB (tSeq t0 (tIfS tc (tSeq u0 (tSeq u1 (tSeq u2 u3))) (tSeq e0 (tSeq e1 e2)))) := qss p0 (qone (q_if cd th el))
  refine ⟨_, body, ?_⟩
  clear body th el cd p0 q0 q1 q2 q3 g0 g1 g2
  subst htc
  intro D H lds ds a d p dk dl R x4 x5 x6 x7 x8 x9 hd al hR k
  refine r0 _ H lds ds a d p dk dl R _ _ _ _ _ _ _ _ hd al fun H1 q ps a1 hq ok => ?_
  refine ⟨_, rfl, d, 4, rfl, a1.out.dice d hd, by decide, by decide, fun r H2 ra rb hd2 k2 => ⟨_, _, rfl, rfl, _, rfl, ?_⟩⟩
  have a2 := a1.roll hd k2 hd2
  have hq2 : H2 q = some (.tup (ps.map V.str)) := k2 _ _ (dice_ne (a1.out.dice d hd) hq fun _ _ z => nomatch z) hq
  refine ite2 (fun _ => ?_) (fun _ => ?_)
  · refine v0 _ H2 lds ds a d p dk dl q R ps _ _ _ _ _ _ _ _ hd a2 hq2 fun H3 l xs m3 hq3 hl3 nds nlds hin hnn hxl => ?_
    refine v1 _ H3 lds ds (l :: ds) a d p dk dl q l R ps xs _ _ _ _ _ m3 (by omega) hq3 ok hl3 hin hnn hxl fun H4 m4 hq4 hl4 => ?_
    refine v2 _ H4 lds ds a d p dk dl q l _ R ps xs _ _ _ _ _ m4 (by omega) hq4 hl4 fun H5 m5 hl5 => ?_
    refine v3 _ H5 lds ds a d p dk dl l _ _ xs _ _ _ _ _ _ _ m5 hl5 nds nlds hxl fun H6 m6 => ?_
    refine k H6 (putR R ps xs) _ _ _ ⟨m6.out, m6.tab, m6.lin, m6.ne, m6.tb, m6.tl, m6.nP, nodup_put a2.nd, fun key hk => ?_, all_put a2.sd ⟨hin, hnn⟩⟩ len_put
    rw [keys_put] at hk
    split at hk
    · exact a2.hd key hk
    · rcases List.mem_append.mp hk with z | z
      · exact a2.hd key z
      · rw [List.mem_singleton.mp z]; exact ok
  · refine h0 _ H2 ds a d dl q R ps _ _ _ _ _ _ a2.lin hq2 fun H3 v s3 due => ?_
    refine h1 _ H3 lds ds a d p dk dl q R ps v _ _ _ _ _ (a2.same s3) (s3 _ _ hq2) ok due fun H4 m4 hq4 => ?_
    refine h2 _ H4 lds ds a d p dk dl q _ R ps _ _ _ _ _ _ m4 hq4 fun H5 m5 => ?_
    refine k H5 (dropR R ps) _ _ _ ⟨m5.out, m5.tab, m5.lin, m5.ne, m5.tb, m5.tl, m5.nP, nodup_drop a2.nd, fun key hk => ?_, fun r hr => a2.sd r (mem_drop hr)⟩ (Nat.le_trans len_drop (Nat.le_succ _))
    obtain ⟨r, z1, z2⟩ := List.mem_map.mp hk
    exact a2.hd key (List.mem_map.mpr ⟨r, mem_drop z1, z2⟩)
end
end K20
end
section
set_option Elab.async false
set_option linter.all false
set_option maxRecDepth 100000
set_option maxHeartbeats 400000
namespace K20
open PySem L2
noncomputable abbrev forTg (s : Stmt) : Expr := match s with | .For t _ _ _ _ => t | _ => .Constant .none 0 ⟨0, 0, 0, 0⟩
noncomputable abbrev MLaw : List Str := ["_law_script", "_law_dice", "_law_table", "_law_lines", "_law_turn", "", "_law_some", "_law_due", "_law_name", "_law_other"]
noncomputable abbrev compE : Expr := match condOf (outerB.getD 2 (.Pass ⟨0, 0, 0, 0⟩)) with | .BoolOp _ (.Compare _ _ (e :: _) _ :: _) _ => e | _ => .Constant .none 0 ⟨0, 0, 0, 0⟩
theorem hM_of {M N : List Str} {sc : Scope} (hl : M.length = N.length) (h : (M.zip N).all (fun p => decide (p.1 = p.2) || !(sc.names.any fun q => decide (q.1 = p.1))) = true) :
    ∀ (j : Nat) (y : Str), M[j]? = some y → (∃ p ∈ sc.names, p.1 = y) → N[j]? = some y := by
  intro j y hj ⟨p, hp, e⟩
  have hjl : j < M.length := (List.getElem?_eq_some_iff.mp hj).1
  have hz : (M.zip N)[j]? = some (y, N[j]'(by omega)) := by
    rw [List.getElem?_zip_eq_some]
    exact ⟨hj, by simp [hl ▸ hjl]⟩
  have := List.all_eq_true.mp h _ (List.mem_of_getElem? hz)
  simp only [Bool.or_eq_true, decide_eq_true_eq, Bool.not_eq_eq_eq_not, Bool.not_true] at this
  rcases this with h1 | h1
  · rw [h1]; simp [hl ▸ hjl]
  · rw [List.any_eq_false] at h1
    exact absurd (decide_eq_true e) (h1 p hp)
section
variable {P : Program} {w : World} {K : PySem.W.Frag} {mg : Str → Option Value} {base : Heap} {f C : Addr} {c Pt Pl Nm ft W : Addr} {fdt : FuncData} {wd : Addr → Str → Prop} {A : Around} {outer : List Env} {s : Shared} {H₀ : Hp} {E : XK}
theorem st1 {f1 f3 fS fP fD : Addr} {fd1 fd3 fdS fdP fdD : FuncData} (hr : Room 8 (A.deeper (PyProof.Rows.envOfC "law" (defScope sLaw) s.heap.objs.size f (.ref c)))) (G : Glb mg) (T : Txt K mg C) (EV : EnvL P w K mg base c Pt ft W fdt wd) (Z : Say K W wd Nm "BadName")
    (C1 : Cal P w K mg base 2 "_law_roll" f1 fd1 ["_law_dice", "_law_many"] spRoll) (C3 : Cal P w K mg base 3 "_law_head" f3 fd3 ["_law_dice"] spHead) (CS : Cal P w K mg base 3 "_law_some_sides" fS fdS ["_law_dice", "_law_near"] spSome)
    (MP : Met P w K mg base CX0 C 6 "put" fP fdP NTPut (spTPut K C)) (MD : Met P w K mg base (CXF P w) C 5 "drop" fD fdD ["self", "beginning"] (spTDrop K C Nm)) :
    ∃ t, QS (XL P w K mg base f c A outer s H₀ E) (outerB.getD 1 (.Pass ⟨0, 0, 0, 0⟩)) t ∧ ∀ (D : Ends) (H : Hp) (lds : Addr) (ds : List Addr) (a d p dk dl : Addr) (x4 x5 x6 x7 x8 x9 : Option V), d ∈ ds → All C Pt Pl H lds ds p dk dl [] →
      (∀ H' R' x4 x5 x6 x7, All C Pt Pl H' lds ds p dk dl R' → R'.length ≤ 12 → D.nx (stA a d (some (.ref p)) (some (.ref dl)) x4 x5 x6 x7 x8 x9) H') → t D (stA a d (some (.ref p)) (some (.ref dl)) x4 x5 x6 x7 x8 x9) H := by
  obtain ⟨tT, pT, rT⟩ := turn (Pl := Pl) (outer := outer) (H₀ := H₀) (E := E) hr G T EV Z C1 C3 CS MP MD
  have it : ∃ wi, QI (XL P w K mg base f c A outer s H₀ E) (forTg (outerB.getD 1 (.Pass ⟨0, 0, 0, 0⟩))) (forIter (outerB.getD 1 (.Pass ⟨0, 0, 0, 0⟩))) wi ∧ wi = iRng1 (tCons (tCall spRoll [] E0 (tCons (tVar 1) (tCons (tC (.int 13)) tNil))) tNil) := ⟨_, ⟨pi_range1 (by rfl) G.range (pa_cons (pe_fn C1 (hr.mono (by decide)) (by rfl) (pa_cons (pv 1) (pa_cons pe_int pa_nil))) pa_nil)⟩, rfl⟩
  obtain ⟨wi, it, hwi⟩ := it
  refine ⟨_, q_for PassesOwn.never rfl it ⟨pg_name (i := 4) scLaw.nd rfl (Or.inl rfl)⟩ pT (fun _ => rfl), ?_⟩
  clear it pT
  subst hwi
  intro D H lds ds a d p dk dl x4 x5 x6 x7 x8 x9 hd al k
  refine ⟨_, rfl, d, 13, rfl, al.out.dice d hd, by decide, by decide, fun r H2 ra rb hd2 k2 => ⟨r, rfl, by omega, by omega, ?_⟩⟩
  refine for_range (fun i σ H' => ∃ (R : List Row) (x4 x5 x6 x7 : Option V), σ = stA a d (some (.ref p)) (some (.ref dl)) x4 x5 x6 x7 x8 x9 ∧ All C Pt Pl H' lds ds p dk dl R ∧ R.length ≤ i) ⟨[], _, _, _, _, rfl, al.roll hd k2 hd2, Nat.zero_le _⟩ ?_ ?_
  · rintro i σ H3 hi ⟨R, x4, x5, x6, x7, rfl, a3, hR⟩
    have hi : i < 13 := by omega
    exact rT _ H3 lds ds a d p dk dl R _ _ _ _ _ _ hd a3 (by omega) fun H4 R' y5 y6 y7 a4 hR' => ⟨R', _, _, _, _, rfl, a4, by omega⟩
  · rintro σ H3 ⟨R, x4, x5, x6, x7, rfl, a3, hR⟩
    exact k H3 R _ _ _ _ a3 (by omega)
theorem comp (hr : Room 8 (A.deeper (PyProof.Rows.envOfC "law" (defScope sLaw) s.heap.objs.size f (.ref c)))) (G : Glb mg) :
    ∃ t, QE (XL P w K mg base f c A outer s H₀ E) compE t ∧ ∀ (H : Hp) (Q : VK) (ds : List Addr) (a d dl : Addr) (R : List Row) (x2 x4 x5 x6 x7 x8 x9 : Option V), LinAt ds H dl R → R.length < 64 →
      (∀ lr H', Same H H' → RowsAt H' lr R → Q (.ref lr) H') → t (stA a d x2 (some (.ref dl)) x4 x5 x6 x7 x8 x9) H Q := by
  have hu : _ := hu_of hr
  refine ⟨_, ⟨pe_lcM MLaw rfl (by rfl) (hM_of rfl (by rfl)) rfl (by show (("_law_one" : Str) :: MLaw).Nodup; decide +kernel) (pi_list (pe_callB (call_sortedD rfl (units_of hr (by decide))) (by rfl) G.sorted PyProof.Rows.boot_sorted (pa_cons (pv 3) pa_nil))) (fun _ _ _ _ => pf_nil)
    (fun _ _ _ _ => pe_tup (pa_cons (pv 0) (pa_cons (pe_dget hu (pv 4) (pv 0) (fun _ _ => rfl)) pa_nil)))⟩, ?_⟩
  intro H Q ds a d dl R x2 x4 x5 x6 x7 x8 x9 lin h64 k
  obtain ⟨kvs, e0, r0⟩ := id lin
  refine ⟨_, rfl, dl, _, R.map (·.1), rfl, .inl e0, rows_keys r0, by rw [← rows_len r0]; exact h64, fun l ys hl ly ky => ?_⟩
  rw [List.length_map] at ly
  have s1 := same_upd (o := .lst ys) hl
  refine ⟨l, rfl, ⟨_, SqL.of upd_same⟩, lc_by R.length (fun i zs H' => Same (upd H l (.lst ys)) H' ∧ ∃ qs : List Addr, zs = qs.map V.ref ∧ Paired (PairAt H') qs ((ord R).take i)) ⟨Same.refl _, [], rfl, .nil⟩ (fun i zs H' hi hp => ?_) (Nat.le_trans (Nat.le_of_lt h64) (by decide)) (fun i zs H' hi hp => ?_) (fun i zs H' y H'' hi hp hy => ?_) (fun zs H' hp => ?_)⟩
  · obtain ⟨_, qs, rfl, pr⟩ := hp
    rw [List.length_map, Paired.length pr, List.length_take]
    omega
  · exact ⟨ys, ys[i], SqL.of (hp.1 _ _ upd_same), by simp [ly, hi]⟩
  · obtain ⟨s2, qs, rfl, pr⟩ := hp
    obtain ⟨rfl, hy⟩ := hy
    have hy := hy ys (SqL.of (s2 _ _ upd_same))
    obtain ⟨j, key, z1, z2, z3⟩ := srt_at (ks := R.map (·.1)) (i := i) (by rw [List.length_map]; exact hi)
    obtain ⟨b, z4, z5⟩ := ky i j z1
    rw [z4] at hy
    cases hy
    rw [z2] at z5
    have s12 := s1.trans s2
    obtain ⟨sd, hv⟩ := valR_some z3
    obtain ⟨l1, dg, hl1, _⟩ := (lin.same s12).get (s12 _ _ z5) hv
    refine alw ⟨_, rfl, _, rfl, _, rfl, dl, .ref l1, rfl, dg, (by show 2 ≤ sizeLine; decide), fun q hq => ?_⟩
    have s4 := same_upd (o := .tup [.ref b, .ref l1]) hq
    refine ⟨s2.trans s4, qs ++ [q], by rw [List.map_append]; rfl, ?_⟩
    rw [take_snoc (ord_at z1 z2 hv)]
    exact paired_snoc ⟨b, l1, upd_same, s4 _ _ (s12 _ _ z5), s4 _ _ hl1⟩ (paired_same s4 pr)
  · obtain ⟨s2, qs, rfl, pr⟩ := hp
    refine ⟨⟨_, SqL.of (s2 _ _ upd_same), by rw [ly]; exact Nat.le_refl _⟩, fun D hD => ?_⟩
    have s3 := same_upd (o := .lst (qs.map V.ref)) hD
    refine k D _ ((s1.trans s2).trans s3) ⟨qs, upd_same, paired_same s3 ?_⟩
    rwa [List.take_of_length_le (by rw [ord_len]; exact Nat.le_refl _)] at pr
theorem st2 {fR fL : Addr} {fdR fdL : FuncData} (hr : Room 8 (A.deeper (PyProof.Rows.envOfC "law" (defScope sLaw) s.heap.objs.size f (.ref c)))) (G : Glb mg) (T : Txt K mg C) (MR : Met P w K mg base CX0 C 1 "rows" fR fdR ["self"] (spTRows C)) (ML : Met P w K mg base CX0 C 1 "__len__" fL fdL ["self"] (spTLen C)) :
    ∃ t, QS (XL P w K mg base f c A outer s H₀ E) (outerB.getD 2 (.Pass ⟨0, 0, 0, 0⟩)) t ∧ ∀ (D : Ends) (H : Hp) (lds : Addr) (ds : List Addr) (a d p dk dl : Addr) (R : List Row) (x4 x5 x6 x7 x8 x9 : Option V), All C Pt Pl H lds ds p dk dl R → R.length ≤ 12 →
      (∀ H', All C Pt Pl H' lds ds p dk dl R → D.nx (stA a d (some (.ref p)) (some (.ref dl)) x4 x5 x6 x7 x8 x9) H') → t D (stA a d (some (.ref p)) (some (.ref dl)) x4 x5 x6 x7 x8 x9) H := by
  obtain ⟨tc, pc, rc⟩ := comp (P := P) (w := w) (K := K) (base := base) (outer := outer) (H₀ := H₀) (E := E) hr G
  refine ⟨_, ⟨ps_if (PW.pt (pw_or (pt_cmpR (op_neC (n := 3) (units_of hr (by decide))) (pe_meth0 (pv 2) T.cl MR.at_ MR.ok (hr.mono (by decide)) MR.bd .nil pass0) pc.ok (nomark _)) (pw_or1 (pt_cmpR op_ne (pe_callB (call_lenO ML.at_ ML.ok (hr.mono (by decide)) ML.bd pass0) (by rfl) G.len PySem.boot_len (pa_cons (pv 2) pa_nil)) (pe_callB call_lenT (by rfl) G.len PySem.boot_len (pa_cons (pv 3) pa_nil)) (nomark _))))) (pss_one (ps_ret pe_bl)) pss_nil⟩, ?_⟩
  intro D H lds ds a d p dk dl R x4 x5 x6 x7 x8 x9 al hR k
  obtain ⟨dx, o1⟩ := al.tab.ob
  refine ⟨_, rfl, p, dx, _, rfl, o1, tflds_no _ (by decide +kernel), p, dk, R, rfl, al.tab, by omega, fun lr H1 s1 R1 => ?_⟩
  have a1 := al.same s1
  refine rc H1 _ ds a d dl R _ _ _ _ _ _ _ a1.lin (by omega) fun lr2 H2 s2 R2 => ?_
  have a2 := a1.same s2
  obtain ⟨dx2, o2⟩ := a2.tab.ob
  obtain ⟨kvs, e2, r2⟩ := a2.lin
  refine ⟨true, cmp_rows (R1.same s2) R2, _, rfl, iteF ⟨_, rfl, p, dx2, _, rfl, o2, p, dk, R, rfl, a2.tab, R.length, rfl, Nat.le_trans hR (by decide), _, rfl, dl, kvs, rfl, .inl e2, rfl, _, rfl, ?_⟩⟩
  rw [← rows_len r2, decide_eq_true rfl]
  exact iteF (k _ a2)
end
end K20
end
section
set_option Elab.async false
set_option linter.all false
set_option maxRecDepth 100000
set_option maxHeartbeats 400000
namespace K20
open PySem L2
noncomputable abbrev nameB3 : List Stmt := forBodyX (outerB.getD 3 (.Pass ⟨0, 0, 0, 0⟩))
noncomputable def LonAt (H : Hp) (v : V) (R : List Row) (ns : List Str) : Prop := (v = .non ∧ wayR R ns = none) ∨ ∃ b k sd, v = .ref b ∧ H b = some (.tup (k.map V.str)) ∧ valR R k = some sd ∧ wayR R ns = some (k, sd)
theorem cmp_non {K : PySem.W.Frag} {H : Hp} {n : Nat} : Cmp K H n .non .non true := by
  have := cmp_flat (K := K) (H := H) (n := n) (x := .non) (y := .non) rfl rfl
  have e : eqV .non .non = true := by simp [eqV]
  rwa [e] at this
section
variable {P : Program} {w : World} {K : PySem.W.Frag} {mg : Str → Option Value} {base : Heap} {f C : Addr} {c Pt Pl Nm ft W : Addr} {fdt : FuncData} {wd : Addr → Str → Prop} {A : Around} {outer : List Env} {s : Shared} {H₀ : Hp} {E : XK}
theorem na0 {f4 : Addr} {fd4 : FuncData} (hr : Room 8 (A.deeper (PyProof.Rows.envOfC "law" (defScope sLaw) s.heap.objs.size f (.ref c)))) (C4 : Cal P w K mg base 4 "_law_any_name" f4 fd4 ["_law_dice"] spAny) :
    ∃ t, QS (XL P w K mg base f c A outer s H₀ E) (nameB3.getD 0 (.Pass ⟨0, 0, 0, 0⟩)) t ∧ ∀ (D : Ends) (H : Hp) (lds : Addr) (ds : List Addr) (a d p dk dl : Addr) (R : List Row) (x2 x3 x4 x5 x6 x7 x8 x9 : Option V), d ∈ ds → All C Pt Pl H lds ds p dk dl R →
      (∀ (H' : Hp) (q : Addr) (ns : List Str), All C Pt Pl H' lds ds p dk dl R → H' q = some (.tup (ns.map V.str)) → NameOk ns → D.nx (stA a d x2 x3 x4 x5 x6 x7 (some (.ref q)) x9) H') → t D (stA a d x2 x3 x4 x5 x6 x7 x8 x9) H := by
  refine ⟨_, ⟨ps_set (i := 8) scLaw.nd rfl (Or.inl rfl) (pe_fn C4 (hr.mono (by decide)) (by rfl) (pa_cons (pv 1) pa_nil))⟩, ?_⟩
  intro D H lds ds a d p dk dl R x2 x3 x4 x5 x6 x7 x8 x9 hd al k
  exact ⟨_, rfl, d, rfl, al.out.dice d hd, fun q ps H6 ok hq hd6 k6 => k H6 q ps (al.roll hd k6 hd6) hq ok⟩
theorem na1 {f5 : Addr} {fd5 : FuncData} (hr : Room 8 (A.deeper (PyProof.Rows.envOfC "law" (defScope sLaw) s.heap.objs.size f (.ref c)))) (C5 : Cal P w K mg base 2 "_law_longest" f5 fd5 ["_law_lines", "_law_name"] (spLongest Pl)) :
    ∃ t, QS (XL P w K mg base f c A outer s H₀ E) (nameB3.getD 1 (.Pass ⟨0, 0, 0, 0⟩)) t ∧ ∀ (D : Ends) (H : Hp) (lds : Addr) (ds : List Addr) (a d p dk dl q : Addr) (R : List Row) (ns : List Str) (x2 x4 x5 x6 x7 x9 : Option V), All C Pt Pl H lds ds p dk dl R → R.length ≤ 12 → H q = some (.tup (ns.map V.str)) →
      (∀ (H' : Hp) (v : V), All C Pt Pl H' lds ds p dk dl R → H' q = some (.tup (ns.map V.str)) → LonAt H' v R ns → D.nx (stA a d x2 (some (.ref dl)) x4 (some v) x6 x7 (some (.ref q)) x9) H') → t D (stA a d x2 (some (.ref dl)) x4 x5 x6 x7 (some (.ref q)) x9) H := by
  refine ⟨_, ⟨ps_set (i := 5) scLaw.nd rfl (Or.inr rfl) (pe_fn C5 (hr.mono (by decide)) (by rfl) (pa_cons (pv 3) (pa_cons (pv 8) pa_nil)))⟩, ?_⟩
  intro D H lds ds a d p dk dl q R ns x2 x4 x5 x6 x7 x9 al hR hq k
  refine ⟨_, rfl, _, rfl, dl, q, R, ns, rfl, al.lin.k, by omega, hq, al.tl, fun no H1 s1 => k H1 _ (al.same s1) (s1 _ _ hq) (.inl ⟨rfl, way_none no⟩), fun b key H1 g1 tb1 hb lo => ?_⟩
  obtain ⟨sd, hv, hw⟩ := way_max lo.key lo.pre lo.max
  obtain ⟨ps, hP, _⟩ := id al.tl
  exact k H1 _ (al.grownL g1 tb1) (g1 _ _ (fun z => by rw [z, hP] at hq; cases hq) hq) (.inr ⟨b, key, sd, rfl, hb, hv, hw⟩)
theorem na2 {fW : Addr} {fdW : FuncData} (hr : Room 8 (A.deeper (PyProof.Rows.envOfC "law" (defScope sLaw) s.heap.objs.size f (.ref c)))) (T : Txt K mg C) (MW : Met P w K mg base CX0 C 4 "way" fW fdW ["self", "name"] (spTWay K C)) :
    ∃ t, QS (XL P w K mg base f c A outer s H₀ E) (nameB3.getD 2 (.Pass ⟨0, 0, 0, 0⟩)) t ∧ ∀ (D : Ends) (H : Hp) (lds : Addr) (ds : List Addr) (a d p dk dl q : Addr) (R : List Row) (ns : List Str) (v : V) (x4 x6 x7 x9 : Option V), All C Pt Pl H lds ds p dk dl R → H q = some (.tup (ns.map V.str)) → NameOk ns → LonAt H v R ns →
      (∀ H', All C Pt Pl H' lds ds p dk dl R → H' q = some (.tup (ns.map V.str)) → D.nx (stA a d (some (.ref p)) (some (.ref dl)) x4 (some v) x6 x7 (some (.ref q)) x9) H') → t D (stA a d (some (.ref p)) (some (.ref dl)) x4 (some v) x6 x7 (some (.ref q)) x9) H := by
  refine ⟨_, ⟨ps_if (pt_cmpR (op_neC (n := 2) (units_of hr (by decide))) (pe_meth (pv 2) T.cl MW.at_ MW.ok (hr.mono (by decide)) MW.bd .nil pass0 (pa_cons (pv 8) pa_nil)) (pe_ifExp (pt_cmpR op_notN (pv 5) pe_non (nomark _)) (pe_tup (pa_cons (pv 5) (pa_cons (pe_dget (hu_of hr) (pv 3) (pv 5) (fun _ _ => rfl)) pa_nil))) pe_non) (nomark _)) (pss_one (ps_ret pe_bl)) pss_nil⟩, ?_⟩
  intro D H lds ds a d p dk dl q R ns v x4 x6 x7 x9 al hq ok lo k
  obtain ⟨dx, o1⟩ := al.tab.ob
  refine ⟨_, rfl, p, dx, _, rfl, o1, tflds_no _ (by decide +kernel), _, rfl, p, dk, q, R, ns, rfl, hq, name_ok hq ok, ok.2.1, al.tab, fun u H1 s1 hw => ?_⟩
  have a1 := al.same s1
  rcases lo with ⟨rfl, e⟩ | ⟨b, key, sd, rfl, hb, hv, e⟩
  · rw [e] at hw
    cases hw
    exact ⟨_, rfl, rfl, _, rfl, iteF ⟨true, cmp_non, _, rfl, iteF (k _ a1 (s1 _ _ hq))⟩⟩
  · rw [e] at hw
    obtain ⟨l, dg, hl, _⟩ := a1.lin.get (s1 _ _ hb) hv
    refine ⟨_, rfl, rfl, _, rfl, iteT ⟨_, rfl, _, rfl, _, rfl, dl, .ref l, rfl, dg, (by show 2 ≤ sizeLine; decide), fun t ht => ?_⟩⟩
    have s2 := same_upd (o := .tup [.ref b, .ref l]) ht
    obtain ⟨t1, b1, l1, rfl, w1, w2, w3⟩ := hw
    exact ⟨true, cmp_pair (r := (key, sd)) ⟨b1, l1, s2 _ _ w1, s2 _ _ w2, s2 _ _ w3⟩ ⟨b, l, upd_same, s2 _ _ (s1 _ _ hb), s2 _ _ hl⟩, _, rfl, iteF (k _ (a1.same s2) (s2 _ _ (s1 _ _ hq)))⟩
theorem na3 {fS f6 : Addr} {fdS fd6 : FuncData} (hr : Room 8 (A.deeper (PyProof.Rows.envOfC "law" (defScope sLaw) s.heap.objs.size f (.ref c)))) (T : Txt K mg C) (MS : Met P w K mg base CX0 C 5 "sides" fS fdS ["self", "name"] (spTSides K C)) (C6 : Cal P w K mg base 3 "_law_found" f6 fd6 ["_law_lines", "_law_name"] (spFound Pl)) :
    ∃ t, QS (XL P w K mg base f c A outer s H₀ E) (nameB3.getD 3 (.Pass ⟨0, 0, 0, 0⟩)) t ∧ ∀ (D : Ends) (H : Hp) (lds : Addr) (ds : List Addr) (a d p dk dl q : Addr) (R : List Row) (ns : List Str) (x4 x5 x6 x7 x9 : Option V), All C Pt Pl H lds ds p dk dl R → R.length ≤ 12 → H q = some (.tup (ns.map V.str)) → NameOk ns →
      (∀ H', All C Pt Pl H' lds ds p dk dl R → D.nx (stA a d (some (.ref p)) (some (.ref dl)) x4 x5 x6 x7 (some (.ref q)) x9) H') → t D (stA a d (some (.ref p)) (some (.ref dl)) x4 x5 x6 x7 (some (.ref q)) x9) H := by
  refine ⟨_, ⟨ps_if (pt_cmpR (op_neC (n := 1) (units_of hr (by decide))) (pe_meth (pv 2) T.cl MS.at_ MS.ok (hr.mono (by decide)) MS.bd .nil pass0 (pa_cons (pv 8) pa_nil)) (pe_fn C6 (hr.mono (by decide)) (by rfl) (pa_cons (pv 3) (pa_cons (pv 8) pa_nil))) (nomark _)) (pss_one (ps_ret pe_bl)) pss_nil⟩, ?_⟩
  intro D H lds ds a d p dk dl q R ns x4 x5 x6 x7 x9 al hR hq ok k
  obtain ⟨dx, o1⟩ := al.tab.ob
  refine ⟨_, rfl, p, dx, _, rfl, o1, tflds_no _ (by decide +kernel), _, rfl, p, dk, q, R, ns, rfl, hq, name_ok hq ok, ok.2.1, al.tab, fun l H1 s1 hl => ?_⟩
  have a1 := al.same s1
  refine ⟨_, rfl, _, rfl, dl, q, ds, R, ns, rfl, a1.lin, by omega, s1 _ _ hq, a1.tl, fun l2 H2 g2 t2 hl2 => ?_⟩
  obtain ⟨ps, hP, _⟩ := id a1.tl
  exact ⟨true, cmp_ints (g2 _ _ (fun z => by rw [z, hP] at hl; cases hl) hl) hl2, _, rfl, iteF (k _ (a1.grownL g2 t2))⟩
theorem st3 {f4 f5 f6 fW fS : Addr} {fd4 fd5 fd6 fdW fdS : FuncData} (hr : Room 8 (A.deeper (PyProof.Rows.envOfC "law" (defScope sLaw) s.heap.objs.size f (.ref c)))) (G : Glb mg) (T : Txt K mg C) (C4 : Cal P w K mg base 4 "_law_any_name" f4 fd4 ["_law_dice"] spAny)
    (C5 : Cal P w K mg base 2 "_law_longest" f5 fd5 ["_law_lines", "_law_name"] (spLongest Pl)) (C6 : Cal P w K mg base 3 "_law_found" f6 fd6 ["_law_lines", "_law_name"] (spFound Pl)) (MW : Met P w K mg base CX0 C 4 "way" fW fdW ["self", "name"] (spTWay K C)) (MS : Met P w K mg base CX0 C 5 "sides" fS fdS ["self", "name"] (spTSides K C)) :
    ∃ t, QS (XL P w K mg base f c A outer s H₀ E) (outerB.getD 3 (.Pass ⟨0, 0, 0, 0⟩)) t ∧ ∀ (D : Ends) (H : Hp) (lds : Addr) (ds : List Addr) (a d p dk dl : Addr) (R : List Row) (x4 x5 x6 x7 x8 x9 : Option V), d ∈ ds → All C Pt Pl H lds ds p dk dl R → R.length ≤ 12 →
      (∀ H' x4 x5 x8, All C Pt Pl H' lds ds p dk dl R → D.nx (stA a d (some (.ref p)) (some (.ref dl)) x4 x5 x6 x7 x8 x9) H') → t D (stA a d (some (.ref p)) (some (.ref dl)) x4 x5 x6 x7 x8 x9) H := by
  obtain ⟨t0, p0, r0⟩ := na0 (C := C) (Pt := Pt) (Pl := Pl) (outer := outer) (H₀ := H₀) (E := E) hr C4
  obtain ⟨t1, p1, r1⟩ := na1 (C := C) (Pt := Pt) (outer := outer) (H₀ := H₀) (E := E) hr C5
  obtain ⟨t2, p2, r2⟩ := na2 (Pt := Pt) (Pl := Pl) (outer := outer) (H₀ := H₀) (E := E) hr T MW
  obtain ⟨t3, p3, r3⟩ := na3 (Pt := Pt) (outer := outer) (H₀ := H₀) (E := E) hr T MS C6
  have body : QSs (XL P w K mg base f c A outer s H₀ E) nameB3 (tSeq t0 (tSeq t1 (tSeq t2 t3))) := qss p0 (qss p1 (qss p2 (qone p3)))
  have it : ∃ wi, QI (XL P w K mg base f c A outer s H₀ E) (forTg (outerB.getD 3 (.Pass ⟨0, 0, 0, 0⟩))) (forIter (outerB.getD 3 (.Pass ⟨0, 0, 0, 0⟩))) wi ∧ wi = iRng1 (tCons (tC (.int 6)) tNil) := ⟨_, ⟨pi_range1 (by rfl) G.range (pa_cons pe_int pa_nil)⟩, rfl⟩
  obtain ⟨wi, it, hwi⟩ := it
  refine ⟨_, q_for PassesOwn.never rfl it ⟨pg_name (i := 4) scLaw.nd rfl (Or.inl rfl)⟩ body (fun _ => rfl), ?_⟩
  clear it body p0 p1 p2 p3
  subst hwi
  intro D H lds ds a d p dk dl R x4 x5 x6 x7 x8 x9 hd al hR k
  refine ⟨6, rfl, by decide, by decide, ?_⟩
  refine for_range (fun i σ H' => ∃ x4 x5 x8 : Option V, σ = stA a d (some (.ref p)) (some (.ref dl)) x4 x5 x6 x7 x8 x9 ∧ All C Pt Pl H' lds ds p dk dl R) ⟨_, _, _, rfl, al⟩ ?_ ?_
  · rintro i σ H3 hi ⟨x4, x5, x8, rfl, a3⟩
    refine r0 _ H3 lds ds a d p dk dl R _ _ _ _ _ _ _ _ hd a3 fun H4 q ns a4 hq ok => ?_
    refine r1 _ H4 lds ds a d p dk dl q R ns _ _ _ _ _ _ a4 hR hq fun H5 v a5 hq5 lo => ?_
    refine r2 _ H5 lds ds a d p dk dl q R ns v _ _ _ _ a5 hq5 ok lo fun H6 a6 hq6 => ?_
    exact r3 _ H6 lds ds a d p dk dl q R ns _ _ _ _ _ a6 hR hq6 ok fun H7 a7 => ⟨_, _, _, rfl, a7⟩
  · rintro σ H3 ⟨x4, x5, x8, rfl, a3⟩
    exact k H3 _ _ _ a3
end
end K20
end
section
set_option Elab.async false
set_option linter.all false
set_option maxRecDepth 100000
set_option maxHeartbeats 400000
namespace K20
open PySem L2
noncomputable def sThaw0 (t : TS) : TS := fun D σ H => ∃ d kvs0, H d = some (.dT kvs0) ∧ t { D with nx := fun σ' H' => ∃ o kvs, H' d = some (.frz o (.dT kvs)) ∧ D.nx σ' (upd H' d (.dT kvs)) } σ H
theorem ps_thaw0 {X : Cx} {st : Stmt} {t : TS} (h : PS X st t) : PS X st (sThaw0 t) := fun pins s σ H D I ⟨d, kvs0, e0, q⟩ => by
  have n0 : ∀ o u, X.H₀ d ≠ some (.frz o u) := fun o u z => by have := I.base.frzs d o u z; rw [e0] at this; cases this
  refine thn (h pins s σ H _ I q) fun f s1 z => ?_
  cases f with
  | next =>
    obtain ⟨σ', H', I', o, kvs, e1, q1⟩ := z
    exact ⟨σ', _, I'.thaw e1 n0, q1⟩
  | brk => exact z
  | cont => exact z
  | ret u => exact z
theorem putR_new {R : List Row} {k : List Str} {ns : List Int} (h : k ∉ R.map (·.1)) : putR R k ns = R ++ [(k, ns)] := by
  unfold putR
  rw [if_neg]
  intro z
  obtain ⟨r, h1, h2⟩ := List.any_eq_true.mp z
  exact h (List.mem_map.mpr ⟨r, h1, of_decide_eq_true h2⟩)
theorem put_take {R : List Row} {i : Nat} {r : Row} (nd : (R.map (·.1)).Nodup) (h : R[i]? = some r) : putR (R.take i) r.1 r.2 = R.take (i + 1) := by
  have hn : r.1 ∉ (R.take i).map (·.1) := fun z => by
    rw [List.map_take] at z
    obtain ⟨m, hm, e1⟩ := List.getElem_of_mem z
    rw [List.length_take] at hm
    rw [List.getElem_take] at e1
    have hi : i < (R.map (·.1)).length := by rw [List.length_map]; exact (List.getElem?_eq_some_iff.mp h).1
    have e2 : (R.map (·.1))[i] = r.1 := by rw [List.getElem_map, (List.getElem?_eq_some_iff.mp h).2]
    have := (List.getElem_inj nd).mp (e1.trans e2.symm)
    omega
  rw [putR_new hn, take_snoc h]
theorem valR_self : ∀ {R : List Row}, (R.map (·.1)).Nodup → ∀ r ∈ R, valR R r.1 = some r.2
  | [], _, r, h => by cases h
  | x :: R, nd, r, h => by
    have nd : (x.1 :: R.map (·.1)).Nodup := nd
    by_cases e : x.1 = r.1
    · rcases List.mem_cons.mp h with rfl | h
      · simp [valR, List.find?_cons]
      · exact absurd (e ▸ List.mem_map.mpr ⟨r, h, rfl⟩) (List.nodup_cons.mp nd).1
    · have eR : valR (x :: R) r.1 = valR R r.1 := by simp [valR, List.find?_cons, e]
      rw [eR]
      rcases List.mem_cons.mp h with rfl | h
      · exact absurd rfl e
      · exact valR_self (List.nodup_cons.mp nd).2 r h
theorem valR_app {R S : List Row} {k : List Str} {sd : List Int} (h : valR R k = some sd) : valR (R ++ S) k = some sd := by
  unfold valR at h ⊢
  obtain ⟨r, h1, h2⟩ := Option.map_eq_some_iff.mp h
  rw [List.find?_append, h1]
  exact congrArg some h2
structure Oth (C : Addr) (H : Hp) (po dn dk dl : Addr) (R : List Row) : Prop where
  tab : TabAt C H po dn R
  nk : dn ≠ dk
  nl : dn ≠ dl
theorem Oth.same {C : Addr} {H H' : Hp} {po dn dk dl : Addr} {R : List Row} (h : Oth C H po dn dk dl R) (e : Same H H') : Oth C H' po dn dk dl R := ⟨h.tab.same e, h.nk, h.nl⟩
section
variable {P : Program} {w : World} {K : PySem.W.Frag} {mg : Str → Option Value} {base : Heap} {f C : Addr} {c Pt Pl Nm ft W : Addr} {fdt : FuncData} {wd : Addr → Str → Prop} {A : Around} {outer : List Env} {s : Shared} {H₀ : Hp} {E : XK}
theorem st4 {fI : Addr} {fdI : FuncData} (hr : Room 8 (A.deeper (PyProof.Rows.envOfC "law" (defScope sLaw) s.heap.objs.size f (.ref c)))) (T : Txt K mg C) (M : Mk K C fI) (GI : FnOk P w K mg base CX0 1 fI fdI ["self"] (spTInit C)) (bI : Binds K fdI ["self"] []) :
    ∃ t, QS (XL P w K mg base f c A outer s H₀ E) (outerB.getD 4 (.Pass ⟨0, 0, 0, 0⟩)) t ∧ ∀ (D : Ends) (H : Hp) (lds : Addr) (ds : List Addr) (a d p dk dl : Addr) (R : List Row) (x2 x3 x4 x5 x6 x7 x8 x9 : Option V), All C Pt Pl H lds ds p dk dl R →
      (∀ H' po dn, All C Pt Pl H' lds ds p dk dl R → Oth C H' po dn dk dl [] → D.nx (stA a d x2 x3 x4 x5 x6 x7 x8 (some (.ref po))) H') → t D (stA a d x2 x3 x4 x5 x6 x7 x8 x9) H := by
  refine ⟨_, ⟨ps_set (i := 9) scLaw.nd rfl (Or.inl rfl) (pe_make0 M GI (hr.mono (by decide)) (by rfl) T.mgC bI .nil pass0)⟩, ?_⟩
  intro D H lds ds a d p dk dl R x2 x3 x4 x5 x6 x7 x8 x9 al k
  refine fun po dx np ndx nex => ⟨po, dx, rfl, upd_same, fun dn H5 nk S5 kp => ⟨rfl, ?_⟩⟩
  have up : ∀ {b : Addr} {o : HO}, H b = some o → upd (upd H dx (.own po)) po (.ins C dx []) b = some o := fun {b o} e => by
    rw [upd_ne (ne_of_none e np), upd_ne (ne_of_none e ndx)]
    exact e
  have s5 : Same H H5 := fun b o e => kp b o (up e) (ne_of_none e np)
  refine k H5 po dn (al.same s5) ⟨S5, fun z => ?_, fun z => ?_⟩
  · obtain ⟨kvs, e, _⟩ := al.tab.dc
    rw [z, up e] at nk
    cases nk
  · obtain ⟨kvs, e, _⟩ := al.lin
    rw [z, up e] at nk
    cases nk
theorem st5 {fP : Addr} {fdP : FuncData} (hr : Room 8 (A.deeper (PyProof.Rows.envOfC "law" (defScope sLaw) s.heap.objs.size f (.ref c)))) (T : Txt K mg C) (MP : Met P w K mg base CX0 C 6 "put" fP fdP NTPut (spTPut K C)) :
    ∃ t, QS (XL P w K mg base f c A outer s H₀ E) (outerB.getD 5 (.Pass ⟨0, 0, 0, 0⟩)) t ∧ ∀ (D : Ends) (H : Hp) (lds : Addr) (ds : List Addr) (a d p dk dl po dn : Addr) (R : List Row) (x2 x4 x5 x6 x7 x8 : Option V), All C Pt Pl H lds ds p dk dl R → R.length ≤ 12 → Oth C H po dn dk dl [] →
      (∀ H' x5, All C Pt Pl H' lds ds p dk dl R → Oth C H' po dn dk dl R → D.nx (stA a d x2 (some (.ref dl)) x4 x5 x6 x7 x8 (some (.ref po))) H') → t D (stA a d x2 (some (.ref dl)) x4 x5 x6 x7 x8 (some (.ref po))) H := by
  refine ⟨_, ⟨ps_thaw0 (ps_for PassesOwn.never rfl (pi_dict (pv 3)) (pg_name (i := 5) scLaw.nd rfl (Or.inr rfl)) (pss_one (ps_expr (pe_meth (pv 9) T.cl MP.at_ MP.ok (hr.mono (by decide)) MP.bd .nil pass0 (pa_cons (pv 5) (pa_cons (pe_dget (hu_of hr) (pv 3) (pv 5) (fun _ _ => rfl)) pa_nil))))) (fun _ => rfl))⟩, ?_⟩
  intro D H lds ds a d p dk dl po dn R x2 x4 x5 x6 x7 x8 al hR ot k
  obtain ⟨kvs, e0, r0⟩ := al.lin
  have el := rows_len r0
  refine ⟨dl, kvs, e0, _, rfl, dl, kvs, rfl, e0, fun od => ?_⟩
  have fz : Kept dl H (upd H dl (.frz od (.dT kvs))) := kept_upd
  refine ⟨fun i m σ H' => m = kvs.length - i ∧ i ≤ kvs.length ∧ (∃ x5 : Option V, σ = stA a d x2 (some (.ref dl)) x4 x5 x6 x7 x8 (some (.ref po))) ∧ H' dl = some (.frz od (.dT kvs)) ∧ RowsOk (FL ds H') R kvs ∧ Out H' lds ds ∧ TabAt C H' p dk R ∧ TabAt C H' po dn (R.take i) ∧ Tbl H' Pt qLam ∧ Tbl H' Pl qLon,
    ⟨_, rfl, Nat.zero_le _, ⟨_, rfl⟩, upd_same, rows_mono r0 fun _ _ ⟨l, z1, z2, z3⟩ => ⟨l, z1, fz _ _ (ne_of z2 e0 (fun z => nomatch z)) z2, z3⟩, out_dict al.out fz e0, tab_d al.tab fz e0 (Ne.symm al.ne), tab_d ot.tab fz e0 ot.nl, tbl_d al.tb fz e0, tbl_d al.tl fz e0⟩, ?_⟩
  rintro i m σ H1 ⟨rfl, hi, ⟨x5, rfl⟩, f1, r1, O1, t1, t1o, b1, l1⟩
  by_cases hlt : i < kvs.length
  · refine .inr ⟨⟨f1, hlt⟩, fun σ' H' => (∃ x5 : Option V, σ' = stA a d x2 (some (.ref dl)) x4 x5 x6 x7 x8 (some (.ref po))) ∧ H' dl = some (.frz od (.dT kvs)) ∧ RowsOk (FL ds H') R kvs ∧ Out H' lds ds ∧ TabAt C H' p dk R ∧ TabAt C H' po dn (R.take (i + 1)) ∧ Tbl H' Pt qLam ∧ Tbl H' Pl qLon, fun σ' H' ⟨z1, z2, z3, z4, z5, z6, z7, z8⟩ => ⟨_, by omega, rfl, hlt, z1, z2, z3, z4, z5, z6, z7, z8⟩, ?_⟩
    rintro x H2 ⟨rfl, b, pr, hpr, rfl, hb⟩
    obtain ⟨r, hrow, ka, _⟩ := paired_back r1 hpr
    rw [ka, keyOf_kV] at hb
    have hr2 := valR_self al.nd r (List.mem_of_getElem? hrow)
    obtain ⟨dxo, oo⟩ := t1o.ob
    obtain ⟨kvo, eo, _⟩ := t1o.dc
    have dg : DGet H2 dl (.ref b) (valV kvs (keyOf r.1)) := .inr ⟨kvs, keyOf r.1, b, .inr ⟨od, f1⟩, rfl, by rw [keyOf_kV]; exact hb, rfl⟩
    rcases rows_val (k := r.1) r1 with ⟨_, v2⟩ | ⟨v, sd', v1, v2, l', rfl, v3, _⟩
    · rw [hr2] at v2; cases v2
    · rw [hr2] at v2
      cases v2
      rw [v1] at dg
      have sd := al.sd r (List.mem_of_getElem? hrow)
      have hlen : r.2.length ≤ 4 := by
        have := List.Nodup.length_le_of_subset sd.2 (fun x hx => sd.1 x hx)
        simpa using this
      refine ⟨_, rfl, po, dxo, _, rfl, oo, tflds_no _ (by decide +kernel), _, rfl, _, rfl, _, rfl, dl, .ref l', rfl, dg, po, dn, b, l', R.take i, r.1, r.2, rfl, hb, begV_head hb (al.hd r.1 (List.mem_map.mpr ⟨r, List.mem_of_getElem? hrow, rfl⟩)), v3, sides_of v3 sd.1 sd.2 (by omega), t1o, by rw [List.length_take]; omega, fun H3 t3 k3 => ?_⟩
      rw [put_take al.nd hrow] at t3
      exact ⟨⟨_, rfl⟩, k3 _ _ (ne_of f1 eo (fun z => nomatch z)) f1, rows_mono r1 fun _ _ ⟨l, z1, z2, z3⟩ => ⟨l, z1, k3 _ _ (ne_of z2 eo (fun z => nomatch z)) z2, z3⟩, out_dict O1 k3 eo, tab_d t1 k3 eo (Ne.symm ot.nk), t3, tbl_d b1 k3 eo, tbl_d l1 k3 eo⟩
  · refine .inl ⟨⟨f1, by omega⟩, od, kvs, f1, ?_⟩
    have ei : R.take i = R := List.take_of_length_le (by omega)
    rw [ei] at t1o
    have th : Kept dl H1 (upd H1 dl (.dT kvs)) := kept_upd
    have kk : ∀ {b : Addr} {o : HO}, H1 b = some o → (∀ o' u, o ≠ .frz o' u) → upd H1 dl (.dT kvs) b = some o := fun {b o} e n => th _ _ (ne_of e f1 fun z => n _ _ z) e
    have tk : ∀ {p d : Addr} {R : List Row}, TabAt C H1 p d R → TabAt C (upd H1 dl (.dT kvs)) p d R := fun {p d R} h => ⟨let ⟨dx, q⟩ := h.ob; ⟨dx, kk q (fun _ _ z => nomatch z)⟩, let ⟨kv, h1, h2⟩ := h.dc; ⟨kv, kk h1 (fun _ _ z => nomatch z), rows_mono h2 fun _ _ ⟨t, z1, z2⟩ => ⟨t, z1, kk z2 (fun _ _ z => nomatch z)⟩⟩⟩
    exact k _ _ ⟨⟨kk O1.ll (fun _ _ z => nomatch z), fun d' hd' => let ⟨a', b', z⟩ := O1.dice d' hd'; ⟨a', b', kk z (fun _ _ z => nomatch z)⟩⟩, tk t1, ⟨kvs, upd_same, rows_mono r1 fun _ _ ⟨l, z1, z2, z3⟩ => ⟨l, z1, kk z2 (fun _ _ z => nomatch z), z3⟩⟩, al.ne, b1.grown th f1 (fun _ z => nomatch z) (fun _ z => nomatch z), l1.grown th f1 (fun _ z => nomatch z) (fun _ z => nomatch z), al.nP, al.nd, al.hd, al.sd⟩ ⟨tk t1o, ot.nk, ot.nl⟩
end
end K20
end
section
set_option Elab.async false
set_option linter.all false
set_option maxRecDepth 100000
set_option maxHeartbeats 400000
namespace K20
open PySem L2
structure EqC (K : PySem.W.Frag) (C fE : Addr) : Prop where
  nd : PySem.W.notFirst K C (.type "dict") = true
  ow : OwnEq K C fE
theorem zz_part : partB "zz" = true := by decide +kernel
theorem zz_head {R : List Row} (h : ∀ k ∈ R.map (·.1), HeadOk k) : (["zz"] : List Str) ∉ R.map (·.1) := fun z => by
  have := (h _ z).2 "zz" (by simp)
  exact absurd this (by decide +kernel)
section
variable {P : Program} {w : World} {K : PySem.W.Frag} {mg : Str → Option Value} {base : Heap} {f C : Addr} {c Pt Pl Nm ft W : Addr} {fdt : FuncData} {wd : Addr → Str → Prop} {A : Around} {outer : List Env} {s : Shared} {H₀ : Hp} {E : XK}
theorem st6 {fE : Addr} {fdE : FuncData} (hr : Room 8 (A.deeper (PyProof.Rows.envOfC "law" (defScope sLaw) s.heap.objs.size f (.ref c)))) (EC : EqC K C fE) (ME : Met P w K mg base CX0 C 1 "__eq__" fE fdE ["self", "other"] (spTEq C)) :
    ∃ t, QS (XL P w K mg base f c A outer s H₀ E) (outerB.getD 6 (.Pass ⟨0, 0, 0, 0⟩)) t ∧ ∀ (D : Ends) (H : Hp) (lds : Addr) (ds : List Addr) (a d p dk dl po dn : Addr) (R : List Row) (x4 x5 x6 x7 x8 : Option V), All C Pt Pl H lds ds p dk dl R → Oth C H po dn dk dl R →
      D.nx (stA a d (some (.ref p)) (some (.ref dl)) x4 x5 x6 x7 x8 (some (.ref po))) H → t D (stA a d (some (.ref p)) (some (.ref dl)) x4 x5 x6 x7 x8 (some (.ref po))) H := by
  refine ⟨_, ⟨ps_if (PW.pt (pw_or (pt_not (pt_cmpR (op_eqI ME.at_ EC.nd ME.ok (hr.mono (by decide)) ME.bd pass0 hr.units0) (pv 2) (pv 9) (nomark _))) (pw_or (pt_cmpR (op_neI EC.ow ME.ok (hr.mono (by decide)) ME.bd pass0 (hu_of hr)) (pv 2) (pv 9) (nomark _)) (pw_or1 (pt_cmpR (op_eqI ME.at_ EC.nd ME.ok (hr.mono (by decide)) ME.bd pass0 hr.units0) (pv 2) (pv 3) (nomark _)))))) (pss_one (ps_ret pe_bl)) pss_nil⟩, ?_⟩
  intro D H lds ds a d p dk dl po dn R x4 x5 x6 x7 x8 al ot k
  obtain ⟨dx, o1⟩ := al.tab.ob
  obtain ⟨dy, o2⟩ := ot.tab.ob
  obtain ⟨kvs, e0, _⟩ := al.lin
  have self := valR_self al.nd
  refine ⟨_, rfl, _, rfl, p, po, dx, _, rfl, rfl, o1, .inl ⟨_, _, o2⟩, p, po, dk, R, rfl, al.tab, .inl ⟨dn, R, ot.tab, self, _, rfl, _, rfl, ?_⟩⟩
  rw [decide_eq_true rfl]
  refine iteF ⟨_, rfl, _, rfl, p, po, dx, dy, _, _, rfl, rfl, o1, o2, p, po, dk, R, rfl, al.tab, .inl ⟨dn, R, ot.tab, self, _, rfl, _, rfl, ?_⟩⟩
  rw [decide_eq_true rfl]
  exact iteF ⟨_, rfl, _, rfl, p, dl, dx, _, rfl, rfl, o1, .inr ⟨kvs, e0⟩, p, dl, dk, R, rfl, al.tab, .inr ⟨kvs, e0, _, rfl, _, rfl, iteF k⟩⟩
theorem st7 {fP : Addr} {fdP : FuncData} (hr : Room 8 (A.deeper (PyProof.Rows.envOfC "law" (defScope sLaw) s.heap.objs.size f (.ref c)))) (T : Txt K mg C) (MP : Met P w K mg base CX0 C 6 "put" fP fdP NTPut (spTPut K C)) :
    ∃ t, QS (XL P w K mg base f c A outer s H₀ E) (outerB.getD 7 (.Pass ⟨0, 0, 0, 0⟩)) t ∧ ∀ (D : Ends) (H : Hp) (lds : Addr) (ds : List Addr) (a d p dk dl po dn : Addr) (R : List Row) (x2 x3 x4 x5 x6 x7 x8 : Option V), All C Pt Pl H lds ds p dk dl R → R.length ≤ 12 → Oth C H po dn dk dl R →
      (∀ H', All C Pt Pl H' lds ds p dk dl R → Oth C H' po dn dk dl (R ++ [((["zz"] : List Str), ([3] : List Int))]) → D.nx (stA a d x2 x3 x4 x5 x6 x7 x8 (some (.ref po))) H') → t D (stA a d x2 x3 x4 x5 x6 x7 x8 (some (.ref po))) H := by
  refine ⟨_, ⟨ps_expr (pe_meth (pv 9) T.cl MP.at_ MP.ok (hr.mono (by decide)) MP.bd .nil pass0 (pa_cons (pe_tup (pa_cons pe_str pa_nil)) (pa_cons (pe_lst (pa_cons pe_int pa_nil)) pa_nil)))⟩, ?_⟩
  intro D H lds ds a d p dk dl po dn R x2 x3 x4 x5 x6 x7 x8 al hR ot k
  obtain ⟨dy, o2⟩ := ot.tab.ob
  refine ⟨_, rfl, po, dy, _, rfl, o2, tflds_no _ (by decide +kernel), (by show 1 ≤ sizeLine; decide), fun t1 ht1 => ⟨(by show 1 ≤ sizeLine; decide), fun l1 hl1 => ?_⟩⟩
  have s1 := same_upd (o := .tup [.str "zz"]) ht1
  have s2 := same_upd (o := .lst [.int 3]) hl1
  have s12 := s1.trans s2
  have a2 := al.same s12
  have t2 := ot.same s12
  have hz : upd (upd H t1 (.tup [.str "zz"])) l1 (.lst [.int 3]) t1 = some (.tup ((["zz"] : List Str).map V.str)) := s2 _ _ upd_same
  have hb : BegV K (upd (upd H t1 (.tup [.str "zz"])) l1 (.lst [.int 3])) (.ref t1) true := ⟨true, nameV_of hz (by decide) (by decide) (fun x hx => by rw [List.mem_singleton.mp hx]; exact zz_part), .inl ⟨rfl, rfl⟩⟩
  have hs : SidesV K (upd (upd H t1 (.tup [.str "zz"])) l1 (.lst [.int 3])) (.ref l1) true := .inl ⟨l1, _, rfl, upd_same, by show 1 ≤ 100; decide, fun x hx => by rw [List.mem_singleton.mp hx]; exact ⟨_, kn_int _⟩, by decide⟩
  refine ⟨po, dn, t1, l1, R, ["zz"], [3], rfl, hz, hb, upd_same, hs, t2.tab, by omega, fun H3 t3 k3 => ?_⟩
  obtain ⟨kvo, eo, _⟩ := t2.tab.dc
  rw [putR_new (zz_head al.hd)] at t3
  have m := a2.mid
  exact k H3 ⟨out_dict m.out k3 eo, tab_d m.tab k3 eo (Ne.symm ot.nk), lin_d m.lin k3 eo (Ne.symm ot.nl), m.ne, tbl_d m.tb k3 eo, tbl_d m.tl k3 eo, m.nP, al.nd, al.hd, al.sd⟩ ⟨t3, ot.nk, ot.nl⟩
theorem st8 {fE fI : Addr} {fdE fdI : FuncData} (hr : Room 8 (A.deeper (PyProof.Rows.envOfC "law" (defScope sLaw) s.heap.objs.size f (.ref c)))) (T : Txt K mg C) (EC : EqC K C fE) (ME : Met P w K mg base CX0 C 1 "__eq__" fE fdE ["self", "other"] (spTEq C)) (M : Mk K C fI) (GI : FnOk P w K mg base CX0 1 fI fdI ["self"] (spTInit C)) (bI : Binds K fdI ["self"] []) :
    ∃ t, QS (XL P w K mg base f c A outer s H₀ E) (outerB.getD 8 (.Pass ⟨0, 0, 0, 0⟩)) t ∧ ∀ (D : Ends) (H : Hp) (lds : Addr) (ds : List Addr) (a d p dk dl po dn : Addr) (R : List Row) (x3 x4 x5 x6 x7 x8 : Option V), All C Pt Pl H lds ds p dk dl R → Oth C H po dn dk dl (R ++ [((["zz"] : List Str), ([3] : List Int))]) →
      (∀ H', All C Pt Pl H' lds ds p dk dl R → D.nx (stA a d (some (.ref p)) x3 x4 x5 x6 x7 x8 (some (.ref po))) H') → t D (stA a d (some (.ref p)) x3 x4 x5 x6 x7 x8 (some (.ref po))) H := by
  refine ⟨_, ⟨ps_if (PW.pt (pw_or (pt_cmpR (op_eqI ME.at_ EC.nd ME.ok (hr.mono (by decide)) ME.bd pass0 hr.units0) (pv 2) (pv 9) (nomark _)) (pw_or1 (pt_cmpR (op_neI EC.ow ME.ok (hr.mono (by decide)) ME.bd pass0 (hu_of hr)) (pe_make0 M GI (hr.mono (by decide)) (by rfl) T.mgC bI .nil pass0) (pe_make0 M GI (hr.mono (by decide)) (by rfl) T.mgC bI .nil pass0) (nomark _))))) (pss_one (ps_ret pe_bl)) pss_nil⟩, ?_⟩
  intro D H lds ds a d p dk dl po dn R x3 x4 x5 x6 x7 x8 al ot k
  obtain ⟨dx, o1⟩ := al.tab.ob
  obtain ⟨dy, o2⟩ := ot.tab.ob
  refine ⟨_, rfl, _, rfl, p, po, dx, _, rfl, rfl, o1, .inl ⟨_, _, o2⟩, p, po, dk, R, rfl, al.tab, .inl ⟨dn, _, ot.tab, fun r h => valR_app (valR_self al.nd r h), _, rfl, _, rfl, ?_⟩⟩
  rw [decide_eq_false (by simp)]
  refine iteF fun q1 dx1 np1 ndx1 nex1 => ⟨q1, dx1, rfl, upd_same, fun d1 H5 nk1 S5 kp1 => ⟨rfl, ?_⟩⟩
  have s5 : Same H H5 := fun b o e => by
    refine kp1 b o ?_ (ne_of_none e np1)
    rw [upd_ne (ne_of_none e np1), upd_ne (ne_of_none e ndx1)]
    exact e
  refine fun q2 dx2 np2 ndx2 nex2 => ⟨q2, dx2, rfl, upd_same, fun d2 H6 nk2 S6 kp2 => ⟨rfl, ?_⟩⟩
  have s6 : Same H5 H6 := fun b o e => by
    refine kp2 b o ?_ (ne_of_none e np2)
    rw [upd_ne (ne_of_none e np2), upd_ne (ne_of_none e ndx2)]
    exact e
  have S5' := S5.same s6
  obtain ⟨y1, z1⟩ := S5'.ob
  obtain ⟨y2, z2⟩ := S6.ob
  refine ⟨q1, q2, y1, y2, _, _, rfl, rfl, z1, z2, q1, q2, d1, [], rfl, S5', .inl ⟨d2, [], S6, (fun r h => by cases h), _, rfl, _, rfl, ?_⟩⟩
  exact iteF (k _ (al.same (s5.trans s6)))
end
end K20
end
section
set_option Elab.async false
set_option linter.all false
set_option maxRecDepth 100000
set_option maxHeartbeats 1000000
namespace K20
open PySem L2
noncomputable def spLaw (K : PySem.W.Frag) (Pt Pl : Addr) : Sp := fun vs H Q _ => ∃ (a : Addr) (ns : List Int), vs = [.ref a] ∧ SqL K H a (ns.map V.int) ∧ ns.length ≤ 63 ∧ H Pt = some (.tbl #[]) ∧ H Pl = some (.tbl #[]) ∧ Pl ≠ Pt ∧ ∀ H', Q (.bl true) H'
theorem tblL0 {H : Hp} {Pl : Addr} (h : H Pl = some (.tbl #[])) : Tbl H Pl qLon := ⟨#[], h, trivial, fun pos cv z => by cases z⟩
section
variable {P : Program} {w : World} {K : PySem.W.Frag} {mg : Str → Option Value} {base : Heap}
theorem round {f c C Pt Pl ft W Nm f1 f3 f4 f5 f6 fS fI fP fD fW fs fR fL fE : Addr} {fdt fd1 fd3 fd4 fd5 fd6 fdS fdI fdP fdD fdW fds fdR fdL fdE : FuncData} {wd : Addr → Str → Prop} {A : Around} {outer : List Env} {s : Shared} {H₀ : Hp} {E : XK} (hr : Room 8 (A.deeper (PyProof.Rows.envOfC "law" (defScope sLaw) s.heap.objs.size f (.ref c)))) (G : Glb mg) (T : Txt K mg C) (EV : EnvL P w K mg base c Pt ft W fdt wd) (Z : Say K W wd Nm "BadName") (EC : EqC K C fE)
    (C1 : Cal P w K mg base 2 "_law_roll" f1 fd1 ["_law_dice", "_law_many"] spRoll) (C3 : Cal P w K mg base 3 "_law_head" f3 fd3 ["_law_dice"] spHead) (CS : Cal P w K mg base 3 "_law_some_sides" fS fdS ["_law_dice", "_law_near"] spSome)
    (C4 : Cal P w K mg base 4 "_law_any_name" f4 fd4 ["_law_dice"] spAny) (C5 : Cal P w K mg base 2 "_law_longest" f5 fd5 ["_law_lines", "_law_name"] (spLongest Pl)) (C6 : Cal P w K mg base 3 "_law_found" f6 fd6 ["_law_lines", "_law_name"] (spFound Pl))
    (M : Mk K C fI) (GI : FnOk P w K mg base CX0 1 fI fdI ["self"] (spTInit C)) (bI : Binds K fdI ["self"] [])
    (MP : Met P w K mg base CX0 C 6 "put" fP fdP NTPut (spTPut K C)) (MD : Met P w K mg base (CXF P w) C 5 "drop" fD fdD ["self", "beginning"] (spTDrop K C Nm)) (MW : Met P w K mg base CX0 C 4 "way" fW fdW ["self", "name"] (spTWay K C)) (MS : Met P w K mg base CX0 C 5 "sides" fs fds ["self", "name"] (spTSides K C))
    (MR : Met P w K mg base CX0 C 1 "rows" fR fdR ["self"] (spTRows C)) (ML : Met P w K mg base CX0 C 1 "__len__" fL fdL ["self"] (spTLen C)) (ME : Met P w K mg base CX0 C 1 "__eq__" fE fdE ["self", "other"] (spTEq C)) :
    ∃ t, QSs (XL P w K mg base f c A outer s H₀ E) outerB t ∧ ∀ (D : Ends) (H : Hp) (lds : Addr) (ds : List Addr) (a d : Addr) (x2 x3 x4 x5 x6 x7 x8 x9 : Option V), d ∈ ds → Out H lds ds → Tbl H Pt qLam → Tbl H Pl qLon → Pl ≠ Pt →
      (∀ HE x2 x3 x4 x5 x6 x7 x8 x9, Out HE lds ds → Tbl HE Pt qLam → Tbl HE Pl qLon → D.nx (stA a d x2 x3 x4 x5 x6 x7 x8 x9) HE) → t D (stA a d x2 x3 x4 x5 x6 x7 x8 x9) H := by
  obtain ⟨t0, p0, r0⟩ := st0 (Pt := Pt) (Pl := Pl) (outer := outer) (H₀ := H₀) (E := E) hr T M GI bI
  obtain ⟨t1, p1, r1⟩ := st1 (Pl := Pl) (outer := outer) (H₀ := H₀) (E := E) hr G T EV Z C1 C3 CS MP MD
  obtain ⟨t2, p2, r2⟩ := st2 (Pt := Pt) (Pl := Pl) (outer := outer) (H₀ := H₀) (E := E) hr G T MR ML
  obtain ⟨t3, p3, r3⟩ := st3 (Pt := Pt) (outer := outer) (H₀ := H₀) (E := E) hr G T C4 C5 C6 MW MS
  obtain ⟨t4, p4, r4⟩ := st4 (Pt := Pt) (Pl := Pl) (outer := outer) (H₀ := H₀) (E := E) hr T M GI bI
  obtain ⟨t5, p5, r5⟩ := st5 (Pt := Pt) (Pl := Pl) (outer := outer) (H₀ := H₀) (E := E) hr T MP
  obtain ⟨t6, p6, r6⟩ := st6 (Pt := Pt) (Pl := Pl) (outer := outer) (H₀ := H₀) (E := E) hr EC ME
  obtain ⟨t7, p7, r7⟩ := st7 (Pt := Pt) (Pl := Pl) (outer := outer) (H₀ := H₀) (E := E) hr T MP
  obtain ⟨t8, p8, r8⟩ := st8 (Pt := Pt) (Pl := Pl) (outer := outer) (H₀ := H₀) (E := E) hr T EC ME M GI bI
  have all : QSs (XL P w K mg base f c A outer s H₀ E) outerB (tSeq t0 (tSeq t1 (tSeq t2 (tSeq t3 (tSeq t4 (tSeq t5 (tSeq t6 (tSeq t7 t8)))))))) := qss p0 (qss p1 (qss p2 (qss p3 (qss p4 (qss p5 (qss p6 (qss p7 (qone p8))))))))
  refine ⟨_, all, ?_⟩
  clear all p0 p1 p2 p3 p4 p5 p6 p7 p8
  intro D H lds ds a d x2 x3 x4 x5 x6 x7 x8 x9 hd O tb tl nP k
  refine r0 _ H lds ds a d x2 x3 x4 x5 x6 x7 x8 x9 O tb tl nP fun H1 p dk dl a1 => ?_
  refine r1 _ H1 lds ds a d p dk dl x4 x5 x6 x7 x8 x9 hd a1 fun H2 R y4 y5 y6 y7 a2 hR => ?_
  refine r2 _ H2 lds ds a d p dk dl R _ _ _ _ _ _ a2 hR fun H3 a3 => ?_
  refine r3 _ H3 lds ds a d p dk dl R _ _ _ _ _ _ hd a3 hR fun H4 z4 z5 z8 a4 => ?_
  refine r4 _ H4 lds ds a d p dk dl R _ _ _ _ _ _ _ _ a4 fun H5 po dn a5 o5 => ?_
  refine r5 _ H5 lds ds a d p dk dl po dn R _ _ _ _ _ _ a5 hR o5 fun H6 u5 a6 o6 => ?_
  refine r6 _ H6 lds ds a d p dk dl po dn R _ _ _ _ _ a6 o6 ?_
  refine r7 _ H6 lds ds a d p dk dl po dn R _ _ _ _ _ _ _ a6 hR o6 fun H7 a7 o7 => ?_
  exact r8 _ H7 lds ds a d p dk dl po dn R _ _ _ _ _ _ a7 o7 fun H8 a8 => k H8 _ _ _ _ _ _ _ _ a8.out a8.tb a8.tl
theorem ok_law {f c f2 : Addr} {fd2 : FuncData} {C Pt Pl ft W Nm f1 f3 f4 f5 f6 fS fI fP fD fW fs fR fL fE : Addr} {fdt fd1 fd3 fd4 fd5 fd6 fdS fdI fdP fdD fdW fds fdR fdL fdE : FuncData} {wd : Addr → Str → Prop} {oc kV doc pm ct : Value} {od an : Option Addr} {osl : Array (Option Value)}
    (lk : K.lookup f = some ⟨oc, od, .func (PySem.W.fnOf "law" "law" (defArgs sLaw) (defBody sLaw) (defScope sLaw) .none kV doc pm an (.ref c) ct), osl⟩) (hcd : PySem.W.codeIn K (.ref c) "law" = true) (C2 : Cal P w K mg base 2 "_law_rounds" f2 fd2 ["_law_script", "_law_most"] (spRounds K)) (G : Glb mg) (T : Txt K mg C) (EV : EnvL P w K mg base c Pt ft W fdt wd) (Z : Say K W wd Nm "BadName") (EC : EqC K C fE)
    (C1 : Cal P w K mg base 2 "_law_roll" f1 fd1 ["_law_dice", "_law_many"] spRoll) (C3 : Cal P w K mg base 3 "_law_head" f3 fd3 ["_law_dice"] spHead) (CS : Cal P w K mg base 3 "_law_some_sides" fS fdS ["_law_dice", "_law_near"] spSome)
    (C4 : Cal P w K mg base 4 "_law_any_name" f4 fd4 ["_law_dice"] spAny) (C5 : Cal P w K mg base 2 "_law_longest" f5 fd5 ["_law_lines", "_law_name"] (spLongest Pl)) (C6 : Cal P w K mg base 3 "_law_found" f6 fd6 ["_law_lines", "_law_name"] (spFound Pl))
    (M : Mk K C fI) (GI : FnOk P w K mg base CX0 1 fI fdI ["self"] (spTInit C)) (bI : Binds K fdI ["self"] [])
    (MP : Met P w K mg base CX0 C 6 "put" fP fdP NTPut (spTPut K C)) (MD : Met P w K mg base (CXF P w) C 5 "drop" fD fdD ["self", "beginning"] (spTDrop K C Nm)) (MW : Met P w K mg base CX0 C 4 "way" fW fdW ["self", "name"] (spTWay K C)) (MS : Met P w K mg base CX0 C 5 "sides" fs fds ["self", "name"] (spTSides K C))
    (MR : Met P w K mg base CX0 C 1 "rows" fR fdR ["self"] (spTRows C)) (ML : Met P w K mg base CX0 C 1 "__len__" fL fdL ["self"] (spTLen C)) (ME : Met P w K mg base CX0 C 1 "__eq__" fE fdE ["self", "other"] (spTEq C)) :
    FnOk P w K mg base CX0 9 f (PySem.W.fnOf "law" "law" (defArgs sLaw) (defBody sLaw) (defScope sLaw) .none kV doc pm an (.ref c) ct) ["_law_script"] (spLaw K Pt Pl) := by
  refine fn_of lk hcd scLaw (fun vs H Q E h => ?_) fun A outer s H vs Q E hr h => ?_
  · obtain ⟨a, ns, rfl, _⟩ := h
    rfl
  · obtain ⟨a, ns, rfl, hS, hlen, hP0, hL0, nP, k⟩ := h
    obtain ⟨tR, pR, rR⟩ := round (outer := outer) (H₀ := H) (E := E) hr G T EV Z EC C1 C3 CS C4 C5 C6 M GI bI MP MD MW MS MR ML ME
    have eI : ∃ te, QE (XL P w K mg base f c A outer s H E) (forIter ((defBody sLaw).getD 0 (.Pass ⟨0, 0, 0, 0⟩))) te ∧ te = tCall (spRounds K) [] E0 (tCons (tVar 0) (tCons (tC (.int 4)) tNil)) := ⟨_, ⟨pe_fn C2 (hr.mono (by decide)) (by rfl) (pa_cons (pv 0) (pa_cons pe_int pa_nil))⟩, rfl⟩
    obtain ⟨te, pI, hte⟩ := eI
    have p0 : QS (XL P w K mg base f c A outer s H E) ((defBody sLaw).getD 0 (.Pass ⟨0, 0, 0, 0⟩)) (tFor (iList K te) (gName 1) tR) := q_for PassesOwn.never rfl ⟨pi_list pI.ok⟩ ⟨pg_name (i := 1) scLaw.nd rfl (Or.inl rfl)⟩ pR (fun _ => rfl)
    have p1 : ∃ u, QS (XL P w K mg base f c A outer s H E) ((defBody sLaw).getD 1 (.Pass ⟨0, 0, 0, 0⟩)) u ∧ ∀ D σ H', D.rt (.bl true) H' → u D σ H' := ⟨_, ⟨ps_ret pe_bl⟩, fun D σ H' z => z⟩
    obtain ⟨u, p1, r1⟩ := p1
    have all : QSs (XL P w K mg base f c A outer s H E) (defBody sLaw) (tSeq (tFor (iList K te) (gName 1) tR) u) := qss p0 (qone p1)
    obtain ⟨all⟩ := all
    refine ⟨_, all.nox, ?_⟩
    clear all p0 p1 pR pI
    subst hte
    refine ⟨_, rfl, a, ns, 4, rfl, hS, hlen, by decide, by decide, fun lds ds H1 s1 hlds hds nl h8 hnd => ?_⟩
    refine ⟨lds, rfl, ⟨_, SqL.of hlds⟩, for_list (K := K) (a := lds) (xs := ds.map V.ref) (fun i σ H' => ∃ x1 x2 x3 x4 x5 x6 x7 x8 x9 : Option V, σ = [some (.ref a), x1, x2, x3, x4, x5, x6, x7, x8, x9] ∧ Out H' lds ds ∧ Tbl H' Pt qLam ∧ Tbl H' Pl qLon)
      ⟨_, _, _, _, _, _, _, _, _, rfl, ⟨hlds, fun d hd => (hds d hd).1⟩, (tbl0 hP0).same s1, (tblL0 hL0).same s1⟩ (fun i σ H' _ ⟨_, _, _, _, _, _, _, _, _, _, O, _, _⟩ => SqL.of O.ll) ?_ ?_⟩
    · rintro i x σ H2 hi ⟨x1, x2, x3, x4, x5, x6, x7, x8, x9, rfl, O, tb, tl⟩
      obtain ⟨d, hd, rfl⟩ : ∃ d, d ∈ ds ∧ x = V.ref d := by
        obtain ⟨d, h1, h2⟩ := List.mem_map.mp (List.mem_of_getElem? hi)
        exact ⟨d, h1, h2.symm⟩
      exact rR _ H2 lds ds a d x2 x3 x4 x5 x6 x7 x8 x9 hd O tb tl nP fun HE y2 y3 y4 y5 y6 y7 y8 y9 O' tb' tl' => ⟨_, _, _, _, _, _, _, _, _, rfl, O', tb', tl'⟩
    · rintro σ H2 ⟨x1, x2, x3, x4, x5, x6, x7, x8, x9, rfl, O, tb, tl⟩
      exact r1 _ _ _ (k H2)
end
end K20
end
section
set_option Elab.async false
set_option linter.all false
set_option maxRecDepth 100000
set_option maxHeartbeats 4000000
namespace K20
open PySem L2
noncomputable def exNs (es : Array DictEntry) : Bool := es.toList.all (fun e => match e.key with | .str n _ => !(n == ("__init__" : Str)) | _ => false)
theorem exNs_ok {K : PySem.W.Frag} {N : Addr} {o : Value} {od : Option Addr} {es : Array DictEntry} {ep : Nat} {sl : Array (Option Value)} (l : K.lookup N = some ⟨o, od, .dict es ep, sl⟩) (e : exNs es = true) (h : Heap) (X : K.In h) : ∃ mN, h.Ns N mN ∧ mN "__init__" = none := by
  unfold exNs at e
  rw [List.all_eq_true] at e
  refine ⟨fun x => nsFind es x, ⟨_, es, ep, X _ _ l, rfl, fun d hd => ?_, fun _ => rfl⟩, ?_⟩
  · have := e d (by simpa using hd)
    split at this
    · rename_i n t hk
      exact ⟨n, t, hk⟩
    · cases this
  · show findBy (fun n v => Value.isStr v n) es ("__init__" : Str) = none
    unfold findBy
    have : es.find? (fun d => Value.isStr d.key ("__init__" : Str)) = none := by
      rw [Array.find?_eq_none]
      intro d hd hx
      have := e d (by simpa using hd)
      split at this
      · rename_i n t hk
        rw [hk] at hx
        have hx : (n == ("__init__" : Str)) = true := hx
        rw [hx] at this
        cases this
      · cases this
    rw [this]
    rfl
theorem excC_mk {K : PySem.W.Frag} {C W N : Addr} {nm q : Str} {bs sub : List Value} {hd ab : Bool} {sn : List Str} {col : Option Bool} {dd : Option Addr} {ka kb kc kd kf : Option Value} {oN : Value} {odN : Option Addr} {es : Array DictEntry} {ep : Nat} {slN : Array (Option Value)} {oW oNW : Value} {odW odNW : Option Addr} {cdW : ClassData} {slW slNW : Array (Option Value)} {esW : Array DictEntry} {epW : Nat}
    (l : K.lookup C = some (excClassObj nm q C N bs (.ref W :: [.type "ValueError", .type "Exception", .type "BaseException", .type "object"]) hd sn sub ab col dd ka kb kc kd kf "ValueError.__new__")) (lN : K.lookup N = some ⟨oN, odN, .dict es ep, slN⟩) (eN : exNs es = true)
    (lW : K.lookup W = some ⟨oW, odW, .cls cdW, slW⟩) (lNW : K.lookup cdW.ns = some ⟨oNW, odNW, .dict esW epW, slNW⟩) (eW : exNs esW = true) : ExcC K C := by
  refine ⟨nm, q, N, bs, _, hd, sn, sub, ab, col, dd, ka, kb, kc, kd, kf, l, by simp, fun h X => exNs_ok lN eN h X, fun h X => ?_⟩
  obtain ⟨mW, hW, hi⟩ := exNs_ok lNW eW h X
  exact .own (X _ _ lW) hW hi .base
theorem kit_self {K : PySem.W.Frag} {C : Addr} : PySem.W.kitOne K (.ref C) (.ref C) = some true := by
  unfold PySem.W.kitOne
  rw [if_pos (by simp)]
theorem kit_cls {K : PySem.W.Frag} {C D : Addr} {b : Bool} {cd : ClassData} (hc : PySem.W.clsIn K D = some cd) (ht : PySem.W.typeIn K (.ref D) = some (.type "type")) (hs : PySem.W.subIn K (.ref C) (.ref D) = some b) : PySem.W.kitCls K (.ref C) (.ref D) = some b := by
  unfold PySem.W.kitCls
  dsimp only
  rw [hc, ht, if_pos (by simp)]
  exact hs
theorem kit_other {K : PySem.W.Frag} {C D : Addr} {b : Bool} {cd : ClassData} (hn : (Value.ref C == Value.ref D) = false) (hc : PySem.W.clsIn K D = some cd) (ht : PySem.W.typeIn K (.ref D) = some (.type "type")) (hs : PySem.W.subIn K (.ref C) (.ref D) = some b) : PySem.W.kitOne K (.ref C) (.ref D) = some b := by
  unfold PySem.W.kitOne
  rw [hn, if_neg (by decide)]
  exact kit_cls hc ht hs
theorem kit_val {K : PySem.W.Frag} {C : Addr} (hs : PySem.W.subIn K (.ref C) (.type "ValueError") = some true) : PySem.W.kitOne K (.ref C) (.type "ValueError") = some true := by
  unfold PySem.W.kitOne
  rw [if_neg (by simp)]
  unfold PySem.W.kitCls
  dsimp only
  rw [if_pos (by decide +kernel)]
  exact hs
theorem flg9 {K : PySem.W.Frag} {C c0 c1 c2 c3 c4 c5 c6 c7 c8 : Addr} {kf : Nat → Bool} (h0 : PySem.W.kitOne K (.ref C) (.ref c0) = some (kf 0)) (h1 : PySem.W.kitOne K (.ref C) (.ref c1) = some (kf 1)) (h2 : PySem.W.kitOne K (.ref C) (.ref c2) = some (kf 2)) (h3 : PySem.W.kitOne K (.ref C) (.ref c3) = some (kf 3)) (h4 : PySem.W.kitOne K (.ref C) (.ref c4) = some (kf 4))
    (h5 : PySem.W.kitOne K (.ref C) (.ref c5) = some (kf 5)) (h6 : PySem.W.kitOne K (.ref C) (.ref c6) = some (kf 6)) (h7 : PySem.W.kitOne K (.ref C) (.ref c7) = some (kf 7)) (h8 : PySem.W.kitOne K (.ref C) (.ref c8) = some (kf 8)) {i : Nat} {c : Addr} (hc : [c0, c1, c2, c3, c4, c5, c6, c7, c8][i]? = some c) : PySem.W.kitOne K (.ref C) (.ref c) = some (kf i) := by
  match i, hc with
  | 0, hc => cases hc; exact h0
  | 1, hc => cases hc; exact h1
  | 2, hc => cases hc; exact h2
  | 3, hc => cases hc; exact h3
  | 4, hc => cases hc; exact h4
  | 5, hc => cases hc; exact h5
  | 6, hc => cases hc; exact h6
  | 7, hc => cases hc; exact h7
  | 8, hc => cases hc; exact h8
  | i + 9, hc => simp at hc
noncomputable def codeChk (vs : Array Value) (c P : Addr) : Bool := (match (vs[11]? : Option Value) with | some (.ref P') => P' == P | _ => false) &&
  (match vs.getD 18 .none with | .str _ _ => true | _ => false) && (match vs.getD 7 .none with | .int _ _ => true | _ => false) && (match vs.getD 9 .none with | .bool _ => true | _ => false) && (match vs.getD 10 .none with | .int _ _ => true | _ => false) && c != P
theorem codeHd_mk {K : PySem.W.Frag} {c P : Addr} {od : Option Addr} {vs : Array Value} {sl : Array (Option Value)} (l : K.lookup c = some ⟨.type "code", od, .fields vs, sl⟩) (e : codeChk vs c P = true) : PySem.W.codeHdIn K c P = true := by
  unfold PySem.W.codeHdIn
  rw [l]
  exact e
noncomputable def txNs (es : Array DictEntry) : Bool := es.toList.all (fun e => match e.key with | .str _ _ => true | _ => false)
theorem ownEq_mk {K : PySem.W.Frag} {C N f : Addr} {nm q : Str} {bs sub : List Value} {hd ab : Bool} {sn : List Str} {col : Option Bool} {dd : Option Addr} {ka kb kc kd kf : Option Value} {nid : String} {oN : Value} {odN : Option Addr} {es : Array DictEntry} {ep : Nat} {slN : Array (Option Value)} {of : Obj}
    (l : K.lookup C = some (excClassObj nm q C N bs [.type "object"] hd sn sub ab col dd ka kb kc kd kf nid)) (lN : K.lookup N = some ⟨oN, odN, .dict es ep, slN⟩) (eN : txNs es = true) (eE : nsFind es ("__eq__" : Str) = some (.ref f)) (eM : nsFind es ("__ne__" : Str) = none) (lf : K.lookup f = some of) (hf : of.cls = .type "function") : OwnEq K C f := by
  intro h x o X hx hc
  unfold txNs at eN
  rw [List.all_eq_true] at eN
  refine ⟨o, of, nm, q, N, bs, hd, sn, sub, ab, col, dd, ka, kb, kc, kd, kf, nid, fun x => nsFind es x, _, hx, hc, X _ _ l, ⟨_, es, ep, X _ _ lN, rfl, fun d hd => ?_, fun _ => rfl⟩, eE, X _ _ lf, hf, PySem.F.cmp_object.mro, PySem.F.cmp_object.eq.lookup, eM⟩
  have := eN d (by simpa using hd)
  split at this
  · rename_i n t hk
    exact ⟨n, t, hk⟩
  · cases this
theorem kit_dict {K : PySem.W.Frag} {C : Addr} {cd : ClassData} (hc : PySem.W.clsIn K C = some cd) (ht : PySem.W.typeIn K (.ref C) = some (.type "type")) (hs : PySem.W.subIn K (.type "dict") (.ref C) = some false) : PySem.W.kitOne K (.type "dict") (.ref C) = some false := by
  unfold PySem.W.kitOne
  rw [if_neg (by simp)]
  unfold PySem.W.kitCls
  dsimp only
  rw [hc, ht, if_pos (by simp)]
  exact hs
theorem first_dict {K : PySem.W.Frag} {C : Addr} (hs : PySem.W.subIn K (.type "dict") (.ref C) = some false) : PySem.W.notFirst K C (.type "dict") = true := by
  unfold PySem.W.notFirst
  rw [hs]
  simp
theorem len1 {us : List Value} (h : us.length = 1) : ∃ a, us = [a] := List.length_eq_one_iff.mp h
theorem len2 {us : List Value} (h : us.length = 2) : ∃ a b, us = [a, b] := by
  cases us with
  | nil => cases h
  | cons a r => obtain ⟨b, rfl⟩ := len1 (Nat.succ.inj h); exact ⟨a, b, rfl⟩
theorem len3 {us : List Value} (h : us.length = 3) : ∃ a b c, us = [a, b, c] := by
  cases us with
  | nil => cases h
  | cons a r => obtain ⟨b, c, rfl⟩ := len2 (Nat.succ.inj h); exact ⟨a, b, c, rfl⟩
end K20
end
section
set_option Elab.async false
set_option linter.all false
set_option maxRecDepth 100000
set_option maxHeartbeats 4000000
namespace K20
open PySem L2
theorem all_mk {l : PySem.W.OpenLaw} {w : World} {K : PySem.W.Frag} {h : Heap} {mg : Str → Option Value} {fa cc Pt cl Pl Ck f1 f2 f3 f4 f5 f6 f7 f8 f9 f10 f11 f12 f13 f14 f15 f16 f17 f18 f19 f20 f21 f22 fk1 fk2 fk3 fk4 fk5 fk6 fk7 fk8 c0 c1 c2 c3 c4 c5 c6 c7 c8 W : Addr} (X : K.In h) (G : h.Ns mainGlobals mg) (hfa : mg "law" = some (.ref fa))
    {od1 an1 od2 an2 od3 an3 od4 an4 od5 an5 od6 an6 od7 an7 od8 an8 od9 an9 od10 an10 od11 an11 od12 an12 od13 an13 od14 an14 od15 an15 od16 an16 od17 an17 od18 an18 od19 an19 od20 an20 od21 an21 od22 an22 odk1 ank1 odk2 ank2 odk3 ank3 odk4 ank4 odk5 ank5 odk6 ank6 odk7 ank7 odk8 ank8 odc odcl odW odNW : Option Addr} {sl1 sl2 sl3 sl4 sl5 sl6 sl7 sl8 sl9 sl10 sl11 sl12 sl13 sl14 sl15 sl16 sl17 sl18 sl19 sl20 sl21 sl22 slk1 slk2 slk3 slk4 slk5 slk6 slk7 slk8 slc slcl slW slNW : Array (Option Value)}
    {oc1 kV1 dc1 pm1 cd1 ct1 oc2 kV2 dc2 pm2 cd2 ct2 oc3 kV3 dc3 pm3 cd3 ct3 oc4 kV4 dc4 pm4 cd4 ct4 oc5 kV5 dc5 pm5 cd5 ct5 oc6 kV6 dc6 pm6 cd6 ct6 oc7 kV7 dc7 pm7 cd7 ct7 oc8 kV8 dc8 pm8 cd8 ct8 oc9 kV9 dc9 pm9 cd9 ct9 oc10 kV10 dc10 pm10 cd10 ct10 oc11 kV11 dc11 pm11 cd11 ct11 oc12 kV12 dc12 pm12 cd12 ct12 oc13 kV13 dc13 pm13 cd13 ct13 oc14 kV14 dc14 pm14 cd14 ct14 oc15 kV15 dc15 pm15 cd15 ct15 oc16 kV16 dc16 pm16 cd16 ct16 oc17 kV17 dc17 pm17 cd17 ct17 oc18 kV18 dc18 pm18 cd18 ct18 oc19 kV19 dc19 pm19 cd19 ct19 oc20 kV20 dc20 pm20 ct20 oc21 kV21 dc21 pm21 cd21 ct21 oc22 kV22 dc22 pm22 ct22 ock1 kVk1 dck1 pmk1 cdk1 ctk1 ock2 kVk2 dck2 pmk2 cdk2 ctk2 ock3 kVk3 dck3 pmk3 cdk3 ctk3 ock4 kVk4 dck4 pmk4 cdk4 ctk4 ock5 kVk5 dck5 pmk5 cdk5 ctk5 ock6 kVk6 dck6 pmk6 cdk6 ctk6 ock7 kVk7 dck7 pmk7 cdk7 ctk7 ock8 kVk8 dck8 pmk8 cdk8 ctk8 oW oNW : Value} {t0 t1 t2 t3 : Tok} {ecd0 ecd1 ecd2 ecd3 ecd4 ecd5 ecd6 ecd7 ecd8 ecdW xcd cdW : ClassData} {vsc vscl : Array Value} {esW : Array DictEntry} {epW : Nat}
    {nm0 q0 : Str} {N0 : Addr} {bs0 sub0 : List Value} {hd0 ab0 : Bool} {sn0 : List Str} {col0 : Option Bool} {dd0 : Option Addr} {ka0 kb0 kc0 kd0 kf0 : Option Value} {oN0 : Value} {odN0 : Option Addr} {es0 : Array DictEntry} {ep0 : Nat} {slN0 : Array (Option Value)}
    {xnm xq : Str} {xN : Addr} {xbs xsub : List Value} {xhd xab : Bool} {xsn : List Str} {xcol : Option Bool} {xdd : Option Addr} {xka xkb xkc xkd xkf : Option Value} {xnid : String} {oxN : Value} {odxN : Option Addr} {xes : Array DictEntry} {xep : Nat} {slxN : Array (Option Value)}
    (aCk : PySem.W.nsIn K mainGlobals "Table" = some (some (.ref Ck)))
    (a1 : PySem.W.nsIn K mainGlobals "is_whole" = some (some (.ref f1)))
    (l1 : K.lookup f1 = some ⟨oc1, od1, .func (PySem.W.fnOf "is_whole" "is_whole" (defArgs sWhole) (defBody sWhole) (defScope sWhole) .none kV1 dc1 pm1 an1 cd1 ct1), sl1⟩)
    (c1d : PySem.W.codeIn K cd1 "is_whole" = true)
    (k1 : PySem.W.keepIn K (.ref f1) = true)
    (a2 : PySem.W.nsIn K mainGlobals "is_within" = some (some (.ref f2)))
    (l2 : K.lookup f2 = some ⟨oc2, od2, .func (PySem.W.fnOf "is_within" "is_within" (defArgs sWithin) (defBody sWithin) (defScope sWithin) .none kV2 dc2 pm2 an2 cd2 ct2), sl2⟩)
    (c2d : PySem.W.codeIn K cd2 "is_within" = true)
    (k2 : PySem.W.keepIn K (.ref f2) = true)
    (a3 : PySem.W.nsIn K mainGlobals "is_side" = some (some (.ref f3)))
    (l3 : K.lookup f3 = some ⟨oc3, od3, .func (PySem.W.fnOf "is_side" "is_side" (defArgs sSide) (defBody sSide) (defScope sSide) .none kV3 dc3 pm3 an3 cd3 ct3), sl3⟩)
    (c3d : PySem.W.codeIn K cd3 "is_side" = true)
    (k3 : PySem.W.keepIn K (.ref f3) = true)
    (a4 : PySem.W.nsIn K mainGlobals "is_sides" = some (some (.ref f4)))
    (l4 : K.lookup f4 = some ⟨oc4, od4, .func (PySem.W.fnOf "is_sides" "is_sides" (defArgs sSides) (defBody sSides) (defScope sSides) .none kV4 dc4 pm4 an4 cd4 ct4), sl4⟩)
    (c4d : PySem.W.codeIn K cd4 "is_sides" = true)
    (k4 : PySem.W.keepIn K (.ref f4) = true)
    (a5 : PySem.W.nsIn K mainGlobals "need_sides" = some (some (.ref f5)))
    (l5 : K.lookup f5 = some ⟨oc5, od5, .func (PySem.W.fnOf "need_sides" "need_sides" (defArgs sNeedS) (defBody sNeedS) (defScope sNeedS) .none kV5 dc5 pm5 an5 cd5 ct5), sl5⟩)
    (c5d : PySem.W.codeIn K cd5 "need_sides" = true)
    (k5 : PySem.W.keepIn K (.ref f5) = true)
    (a6 : PySem.W.nsIn K mainGlobals "is_part" = some (some (.ref f6)))
    (l6 : K.lookup f6 = some ⟨oc6, od6, .func (PySem.W.fnOf "is_part" "is_part" (defArgs sPart) (defBody sPart) (defScope sPart) .none kV6 dc6 pm6 an6 cd6 ct6), sl6⟩)
    (c6d : PySem.W.codeIn K cd6 "is_part" = true)
    (k6 : PySem.W.keepIn K (.ref f6) = true)
    (a7 : PySem.W.nsIn K mainGlobals "is_name" = some (some (.ref f7)))
    (l7 : K.lookup f7 = some ⟨oc7, od7, .func (PySem.W.fnOf "is_name" "is_name" (defArgs sName) (defBody sName) (defScope sName) .none kV7 dc7 pm7 an7 cd7 ct7), sl7⟩)
    (c7d : PySem.W.codeIn K cd7 "is_name" = true)
    (k7 : PySem.W.keepIn K (.ref f7) = true)
    (a8 : PySem.W.nsIn K mainGlobals "is_beginning" = some (some (.ref f8)))
    (l8 : K.lookup f8 = some ⟨oc8, od8, .func (PySem.W.fnOf "is_beginning" "is_beginning" (defArgs sBeg) (defBody sBeg) (defScope sBeg) .none kV8 dc8 pm8 an8 cd8 ct8), sl8⟩)
    (c8d : PySem.W.codeIn K cd8 "is_beginning" = true)
    (k8 : PySem.W.keepIn K (.ref f8) = true)
    (a9 : PySem.W.nsIn K mainGlobals "need_name" = some (some (.ref f9)))
    (l9 : K.lookup f9 = some ⟨oc9, od9, .func (PySem.W.fnOf "need_name" "need_name" (defArgs sNeedN) (defBody sNeedN) (defScope sNeedN) .none kV9 dc9 pm9 an9 cd9 ct9), sl9⟩)
    (c9d : PySem.W.codeIn K cd9 "need_name" = true)
    (k9 : PySem.W.keepIn K (.ref f9) = true)
    (a10 : PySem.W.nsIn K mainGlobals "need_beginning" = some (some (.ref f10)))
    (l10 : K.lookup f10 = some ⟨oc10, od10, .func (PySem.W.fnOf "need_beginning" "need_beginning" (defArgs sNeedB) (defBody sNeedB) (defScope sNeedB) .none kV10 dc10 pm10 an10 cd10 ct10), sl10⟩)
    (c10d : PySem.W.codeIn K cd10 "need_beginning" = true)
    (k10 : PySem.W.keepIn K (.ref f10) = true)
    (a11 : PySem.W.nsIn K mainGlobals "_law_cell" = some (some (.ref f11)))
    (l11 : K.lookup f11 = some ⟨oc11, od11, .func (PySem.W.fnOf "_law_cell" "_law_cell" (defArgs sCell) (defBody sCell) (defScope sCell) .none kV11 dc11 pm11 an11 cd11 ct11), sl11⟩)
    (c11d : PySem.W.codeIn K cd11 "_law_cell" = true)
    (k11 : PySem.W.keepIn K (.ref f11) = true)
    (a12 : PySem.W.nsIn K mainGlobals "_law_drawn" = some (some (.ref f12)))
    (l12 : K.lookup f12 = some ⟨oc12, od12, .func (PySem.W.fnOf "_law_drawn" "_law_drawn" (defArgs sDrawn) (defBody sDrawn) (defScope sDrawn) .none kV12 dc12 pm12 an12 cd12 ct12), sl12⟩)
    (c12d : PySem.W.codeIn K cd12 "_law_drawn" = true)
    (k12 : PySem.W.keepIn K (.ref f12) = true)
    (a13 : PySem.W.nsIn K mainGlobals "_law_roll" = some (some (.ref f13)))
    (l13 : K.lookup f13 = some ⟨oc13, od13, .func (PySem.W.fnOf "_law_roll" "_law_roll" (defArgs sRoll) (defBody sRoll) (defScope sRoll) .none kV13 dc13 pm13 an13 cd13 ct13), sl13⟩)
    (c13d : PySem.W.codeIn K cd13 "_law_roll" = true)
    (k13 : PySem.W.keepIn K (.ref f13) = true)
    (a14 : PySem.W.nsIn K mainGlobals "_law_rounds" = some (some (.ref f14)))
    (l14 : K.lookup f14 = some ⟨oc14, od14, .func (PySem.W.fnOf "_law_rounds" "_law_rounds" (defArgs sRounds) (defBody sRounds) (defScope sRounds) .none kV14 dc14 pm14 an14 cd14 ct14), sl14⟩)
    (c14d : PySem.W.codeIn K cd14 "_law_rounds" = true)
    (k14 : PySem.W.keepIn K (.ref f14) = true)
    (a15 : PySem.W.nsIn K mainGlobals "_law_word" = some (some (.ref f15)))
    (l15 : K.lookup f15 = some ⟨oc15, od15, .func (PySem.W.fnOf "_law_word" "_law_word" (defArgs sWord) (defBody sWord) (defScope sWord) .none kV15 dc15 pm15 an15 cd15 ct15), sl15⟩)
    (c15d : PySem.W.codeIn K cd15 "_law_word" = true)
    (k15 : PySem.W.keepIn K (.ref f15) = true)
    (a16 : PySem.W.nsIn K mainGlobals "_law_told" = some (some (.ref f16)))
    (l16 : K.lookup f16 = some ⟨oc16, od16, .func (PySem.W.fnOf "_law_told" "_law_told" (defArgs sTold) (defBody sTold) (defScope sTold) .none kV16 dc16 pm16 an16 cd16 ct16), sl16⟩)
    (c16d : PySem.W.codeIn K cd16 "_law_told" = true)
    (k16 : PySem.W.keepIn K (.ref f16) = true)
    (a17 : PySem.W.nsIn K mainGlobals "_law_head" = some (some (.ref f17)))
    (l17 : K.lookup f17 = some ⟨oc17, od17, .func (PySem.W.fnOf "_law_head" "_law_head" (defArgs sHead) (defBody sHead) (defScope sHead) .none kV17 dc17 pm17 an17 cd17 ct17), sl17⟩)
    (c17d : PySem.W.codeIn K cd17 "_law_head" = true)
    (k17 : PySem.W.keepIn K (.ref f17) = true)
    (a18 : PySem.W.nsIn K mainGlobals "_law_any_name" = some (some (.ref f18)))
    (l18 : K.lookup f18 = some ⟨oc18, od18, .func (PySem.W.fnOf "_law_any_name" "_law_any_name" (defArgs sAny) (defBody sAny) (defScope sAny) .none kV18 dc18 pm18 an18 cd18 ct18), sl18⟩)
    (c18d : PySem.W.codeIn K cd18 "_law_any_name" = true)
    (k18 : PySem.W.keepIn K (.ref f18) = true)
    (a19 : PySem.W.nsIn K mainGlobals "_law_some_sides" = some (some (.ref f19)))
    (l19 : K.lookup f19 = some ⟨oc19, od19, .func (PySem.W.fnOf "_law_some_sides" "_law_some_sides" (defArgs sSome) (defBody sSome) (defScope sSome) .none kV19 dc19 pm19 an19 cd19 ct19), sl19⟩)
    (c19d : PySem.W.codeIn K cd19 "_law_some_sides" = true)
    (k19 : PySem.W.keepIn K (.ref f19) = true)
    (a20 : PySem.W.nsIn K mainGlobals "_law_longest" = some (some (.ref f20)))
    (l20 : K.lookup f20 = some ⟨oc20, od20, .func (PySem.W.fnOf "_law_longest" "_law_longest" (defArgs sLongest) (defBody sLongest) (defScope sLongest) .none kV20 dc20 pm20 an20 (.ref cl) ct20), sl20⟩)
    (c20d : PySem.W.codeIn K (.ref cl) "_law_longest" = true)
    (k20 : PySem.W.keepIn K (.ref f20) = true)
    (a21 : PySem.W.nsIn K mainGlobals "_law_found" = some (some (.ref f21)))
    (l21 : K.lookup f21 = some ⟨oc21, od21, .func (PySem.W.fnOf "_law_found" "_law_found" (defArgs sFound) (defBody sFound) (defScope sFound) .none kV21 dc21 pm21 an21 cd21 ct21), sl21⟩)
    (c21d : PySem.W.codeIn K cd21 "_law_found" = true)
    (k21 : PySem.W.keepIn K (.ref f21) = true)
    (a22 : PySem.W.nsIn K mainGlobals "law" = some (some (.ref f22)))
    (l22 : K.lookup f22 = some ⟨oc22, od22, .func (PySem.W.fnOf "law" "law" (defArgs sLaw) (defBody sLaw) (defScope sLaw) .none kV22 dc22 pm22 an22 (.ref cc) ct22), sl22⟩)
    (c22d : PySem.W.codeIn K (.ref cc) "law" = true)
    (k22 : PySem.W.keepIn K (.ref f22) = true)
    (ak1 : PySem.W.findIn K (.ref Ck) "__init__" = some (some (.ref fk1)))
    (ik1 : PySem.W.isFn K (.ref fk1) = true)
    (lk1 : K.lookup fk1 = some ⟨ock1, odk1, .func (PySem.W.fnOf "__init__" "Table.__init__" (defArgs sTInit) (defBody sTInit) (defScope sTInit) .none kVk1 dck1 pmk1 ank1 cdk1 ctk1), slk1⟩)
    (ck1d : PySem.W.codeIn K cdk1 "Table.__init__" = true)
    (kk1 : PySem.W.keepIn K (.ref fk1) = true)
    (ak2 : PySem.W.findIn K (.ref Ck) "put" = some (some (.ref fk2)))
    (ik2 : PySem.W.isFn K (.ref fk2) = true)
    (lk2 : K.lookup fk2 = some ⟨ock2, odk2, .func (PySem.W.fnOf "put" "Table.put" (defArgs sTPut) (defBody sTPut) (defScope sTPut) .none kVk2 dck2 pmk2 ank2 cdk2 ctk2), slk2⟩)
    (ck2d : PySem.W.codeIn K cdk2 "Table.put" = true)
    (kk2 : PySem.W.keepIn K (.ref fk2) = true)
    (ak3 : PySem.W.findIn K (.ref Ck) "drop" = some (some (.ref fk3)))
    (ik3 : PySem.W.isFn K (.ref fk3) = true)
    (lk3 : K.lookup fk3 = some ⟨ock3, odk3, .func (PySem.W.fnOf "drop" "Table.drop" (defArgs sTDrop) (defBody sTDrop) (defScope sTDrop) .none kVk3 dck3 pmk3 ank3 cdk3 ctk3), slk3⟩)
    (ck3d : PySem.W.codeIn K cdk3 "Table.drop" = true)
    (kk3 : PySem.W.keepIn K (.ref fk3) = true)
    (ak4 : PySem.W.findIn K (.ref Ck) "way" = some (some (.ref fk4)))
    (ik4 : PySem.W.isFn K (.ref fk4) = true)
    (lk4 : K.lookup fk4 = some ⟨ock4, odk4, .func (PySem.W.fnOf "way" "Table.way" (defArgs sTWay) (defBody sTWay) (defScope sTWay) .none kVk4 dck4 pmk4 ank4 cdk4 ctk4), slk4⟩)
    (ck4d : PySem.W.codeIn K cdk4 "Table.way" = true)
    (kk4 : PySem.W.keepIn K (.ref fk4) = true)
    (ak5 : PySem.W.findIn K (.ref Ck) "sides" = some (some (.ref fk5)))
    (ik5 : PySem.W.isFn K (.ref fk5) = true)
    (lk5 : K.lookup fk5 = some ⟨ock5, odk5, .func (PySem.W.fnOf "sides" "Table.sides" (defArgs sTSides) (defBody sTSides) (defScope sTSides) .none kVk5 dck5 pmk5 ank5 cdk5 ctk5), slk5⟩)
    (ck5d : PySem.W.codeIn K cdk5 "Table.sides" = true)
    (kk5 : PySem.W.keepIn K (.ref fk5) = true)
    (ak6 : PySem.W.findIn K (.ref Ck) "rows" = some (some (.ref fk6)))
    (ik6 : PySem.W.isFn K (.ref fk6) = true)
    (lk6 : K.lookup fk6 = some ⟨ock6, odk6, .func (PySem.W.fnOf "rows" "Table.rows" (defArgs sTRows) (defBody sTRows) (defScope sTRows) .none kVk6 dck6 pmk6 ank6 cdk6 ctk6), slk6⟩)
    (ck6d : PySem.W.codeIn K cdk6 "Table.rows" = true)
    (kk6 : PySem.W.keepIn K (.ref fk6) = true)
    (ak7 : PySem.W.findIn K (.ref Ck) "__len__" = some (some (.ref fk7)))
    (ik7 : PySem.W.isFn K (.ref fk7) = true)
    (lk7 : K.lookup fk7 = some ⟨ock7, odk7, .func (PySem.W.fnOf "__len__" "Table.__len__" (defArgs sTLen) (defBody sTLen) (defScope sTLen) .none kVk7 dck7 pmk7 ank7 cdk7 ctk7), slk7⟩)
    (ck7d : PySem.W.codeIn K cdk7 "Table.__len__" = true)
    (kk7 : PySem.W.keepIn K (.ref fk7) = true)
    (ak8 : PySem.W.findIn K (.ref Ck) "__eq__" = some (some (.ref fk8)))
    (ik8 : PySem.W.isFn K (.ref fk8) = true)
    (lk8 : K.lookup fk8 = some ⟨ock8, odk8, .func (PySem.W.fnOf "__eq__" "Table.__eq__" (defArgs sTEq) (defBody sTEq) (defScope sTEq) .none kVk8 dck8 pmk8 ank8 cdk8 ctk8), slk8⟩)
    (ck8d : PySem.W.codeIn K cdk8 "Table.__eq__" = true)
    (kk8 : PySem.W.keepIn K (.ref fk8) = true)
    (pgk : PySem.W.plainGet K Ck Str.empty = true)
    (hdk : PySem.W.hasDictIn K Ck = true)
    (pok : PySem.W.plainOver K Ck = true)
    (sak : PySem.W.findIn K (.ref Ck) "__setattr__" = some (some (.builtin "object.__setattr__")))
    (mkk : PySem.W.makesIn K Ck = true)
    (kck : PySem.W.keepIn K (.ref Ck) = true)
    (nk0 : PySem.W.findIn K (.ref Ck) "held" = some none)
    (gc0 : PySem.W.nsIn K mainGlobals "SIGNS" = some (some (.str "abcdefghijklmnopqrstuvwxyz0123456789" t0)))
    (gc1 : PySem.W.nsIn K mainGlobals "PART_LONGEST" = some (some (.int 4 t1)))
    (gc2 : PySem.W.nsIn K mainGlobals "NAME_LONGEST" = some (some (.int 5 t2)))
    (gc3 : PySem.W.nsIn K mainGlobals "SIDE_MOST" = some (some (.int 7 t3)))
    (zn0 : PySem.W.nsIn K mainGlobals "isinstance" = some none)
    (zn1 : PySem.W.nsIn K mainGlobals "int" = some none)
    (zn2 : PySem.W.nsIn K mainGlobals "bool" = some none)
    (zn3 : PySem.W.nsIn K mainGlobals "str" = some none)
    (zn4 : PySem.W.nsIn K mainGlobals "tuple" = some none)
    (zn5 : PySem.W.nsIn K mainGlobals "list" = some none)
    (zn6 : PySem.W.nsIn K mainGlobals "len" = some none)
    (zn7 : PySem.W.nsIn K mainGlobals "all" = some none)
    (zn8 : PySem.W.nsIn K mainGlobals "range" = some none)
    (zn9 : PySem.W.nsIn K mainGlobals "max" = some none)
    (zn10 : PySem.W.nsIn K mainGlobals "min" = some none)
    (zn11 : PySem.W.nsIn K mainGlobals "ValueError" = some none)
    (zn12 : PySem.W.nsIn K mainGlobals "sum" = some none)
    (zn13 : PySem.W.nsIn K mainGlobals "set" = some none)
    (zn14 : PySem.W.nsIn K mainGlobals "sorted" = some none)
    (ea0 : PySem.W.nsIn K mainGlobals "BadName" = some (some (.ref c0)))
    (et0 : PySem.W.typeIn K (.ref c0) = some (.type "type"))
    (ec0 : PySem.W.clsIn K c0 = some ecd0)
    (ea1 : PySem.W.nsIn K mainGlobals "BadSides" = some (some (.ref c1)))
    (et1 : PySem.W.typeIn K (.ref c1) = some (.type "type"))
    (ec1 : PySem.W.clsIn K c1 = some ecd1)
    (ea2 : PySem.W.nsIn K mainGlobals "BadNumber" = some (some (.ref c2)))
    (et2 : PySem.W.typeIn K (.ref c2) = some (.type "type"))
    (ec2 : PySem.W.clsIn K c2 = some ecd2)
    (ea3 : PySem.W.nsIn K mainGlobals "BadLetter" = some (some (.ref c3)))
    (et3 : PySem.W.typeIn K (.ref c3) = some (.type "type"))
    (ec3 : PySem.W.clsIn K c3 = some ecd3)
    (ea4 : PySem.W.nsIn K mainGlobals "NoHouse" = some (some (.ref c4)))
    (et4 : PySem.W.typeIn K (.ref c4) = some (.type "type"))
    (ec4 : PySem.W.clsIn K c4 = some ecd4)
    (ea5 : PySem.W.nsIn K mainGlobals "NoWay" = some (some (.ref c5)))
    (et5 : PySem.W.typeIn K (.ref c5) = some (.type "type"))
    (ec5 : PySem.W.clsIn K c5 = some ecd5)
    (ea6 : PySem.W.nsIn K mainGlobals "NoLetter" = some (some (.ref c6)))
    (et6 : PySem.W.typeIn K (.ref c6) = some (.type "type"))
    (ec6 : PySem.W.clsIn K c6 = some ecd6)
    (ea7 : PySem.W.nsIn K mainGlobals "Gone" = some (some (.ref c7)))
    (et7 : PySem.W.typeIn K (.ref c7) = some (.type "type"))
    (ec7 : PySem.W.clsIn K c7 = some ecd7)
    (ea8 : PySem.W.nsIn K mainGlobals "BadStory" = some (some (.ref c8)))
    (et8 : PySem.W.typeIn K (.ref c8) = some (.type "type"))
    (ec8 : PySem.W.clsIn K c8 = some ecd8)
    (eaW : PySem.W.nsIn K mainGlobals "WantError" = some (some (.ref W)))
    (etW : PySem.W.typeIn K (.ref W) = some (.type "type"))
    (ecW : PySem.W.clsIn K W = some ecdW)
    (ebW : PySem.W.mroIn K W (.type "BaseException") = some true)
    (egn : PySem.W.specialIn K (.builtin "object.__class__") "__get__" = some (some (.builtin "getset_descriptor.__get__")))
    (etk : PySem.W.takesIn K (.builtin "object.__class__") = some true)
    (elW : K.lookup W = some ⟨oW, odW, .cls cdW, slW⟩)
    (eNW : K.lookup cdW.ns = some ⟨oNW, odNW, .dict esW epW, slNW⟩)
    (eKW : exNs esW = true)
    (el0 : K.lookup c0 = some (excClassObj nm0 q0 c0 N0 bs0 (.ref W :: [.type "ValueError", .type "Exception", .type "BaseException", .type "object"]) hd0 sn0 sub0 ab0 col0 dd0 ka0 kb0 kc0 kd0 kf0 "ValueError.__new__"))
    (eN0 : K.lookup N0 = some ⟨oN0, odN0, .dict es0 ep0, slN0⟩)
    (eK0 : exNs es0 = true)
    (eg0 : PySem.W.findIn K (.ref c0) "__getattribute__" = some (some (.builtin "BaseException.__getattribute__")))
    (eh0 : PySem.W.findIn K (.ref c0) "__getattr__" = some none)
    (ek0 : PySem.W.findIn K (.ref c0) "__class__" = some (some (.builtin "object.__class__")))
    (eo0 : PySem.W.mroIn K c0 (.type "object") = some true)
    (eb0 : PySem.W.mroIn K c0 (.type "BaseException") = some true)
    (es00 : PySem.W.subIn K (.ref c0) (.ref c0) = some true)
    (es01 : PySem.W.subIn K (.ref c0) (.ref c1) = some false)
    (es02 : PySem.W.subIn K (.ref c0) (.ref c2) = some false)
    (es03 : PySem.W.subIn K (.ref c0) (.ref c3) = some false)
    (es04 : PySem.W.subIn K (.ref c0) (.ref c4) = some false)
    (es05 : PySem.W.subIn K (.ref c0) (.ref c5) = some false)
    (es06 : PySem.W.subIn K (.ref c0) (.ref c6) = some false)
    (es07 : PySem.W.subIn K (.ref c0) (.ref c7) = some false)
    (es08 : PySem.W.subIn K (.ref c0) (.ref c8) = some false)
    (en01 : (Value.ref c0 == Value.ref c1) = false)
    (en02 : (Value.ref c0 == Value.ref c2) = false)
    (en03 : (Value.ref c0 == Value.ref c3) = false)
    (en04 : (Value.ref c0 == Value.ref c4) = false)
    (en05 : (Value.ref c0 == Value.ref c5) = false)
    (en06 : (Value.ref c0 == Value.ref c6) = false)
    (en07 : (Value.ref c0 == Value.ref c7) = false)
    (en08 : (Value.ref c0 == Value.ref c8) = false)
    (es0W : PySem.W.subIn K (.ref c0) (.ref W) = some true)
    (es0V : PySem.W.subIn K (.ref c0) (.type "ValueError") = some true)
    (lcode : K.lookup cc = some ⟨.type "code", odc, .fields vsc, slc⟩)
    (vP : vsc[11]? = some (.ref Pt))
    (vC : codeChk vsc cc Pt = true)
    (lcodel : K.lookup cl = some ⟨.type "code", odcl, .fields vscl, slcl⟩)
    (vPl : vscl[11]? = some (.ref Pl))
    (vCl : codeChk vscl cl Pl = true)
    (xl : K.lookup Ck = some (excClassObj xnm xq Ck xN xbs [.type "object"] xhd xsn xsub xab xcol xdd xka xkb xkc xkd xkf xnid))
    (xN : K.lookup xN = some ⟨oxN, odxN, .dict xes xep, slxN⟩)
    (xt : txNs xes = true)
    (xe : nsFind xes ("__eq__" : Str) = some (.ref fk8))
    (xm : nsFind xes ("__ne__" : Str) = none)
    (xf : ock8 = .type "function")
    (xh : PySem.W.findIn K (.ref Ck) "__class__" = some (some (.builtin "object.__class__")))
    (xo : PySem.W.mroIn K Ck (.type "object") = some true)
    (xc : PySem.W.clsIn K Ck = some xcd)
    (xy : PySem.W.typeIn K (.ref Ck) = some (.type "type"))
    (xs : PySem.W.subIn K (.type "dict") (.ref Ck) = some false) :
    ∃ fd : FuncData, (∀ (s : Shared) (v : Value), BindsTo s fd ⟨[v], []⟩ [("_law_script", v)]) ∧ ∀ base : Heap, K.In base → base.Ns mainGlobals mg → BmAt mg base → FnOk l.prog w K mg base CX0 9 fa fd ["_law_script"] (spLaw K Pt Pl) := by
  have e := hfa.symm.trans (PySem.W.mg_of X G a22)
  cases e
  have F1 := fun_mk (st := sWhole) l1 c1d k1
  have b1 := F1.binds (ps := ["thing"]) fun _ _ _ _ _ _ us hl => by obtain ⟨u0, rfl⟩ := len1 hl; rfl
  have F2 := fun_mk (st := sWithin) l2 c2d k2
  have b2 := F2.binds (ps := ["thing", "least", "most"]) fun _ _ _ _ _ _ us hl => by obtain ⟨u0, u1, u2, rfl⟩ := len3 hl; rfl
  have F3 := fun_mk (st := sSide) l3 c3d k3
  have b3 := F3.binds (ps := ["thing"]) fun _ _ _ _ _ _ us hl => by obtain ⟨u0, rfl⟩ := len1 hl; rfl
  have F4 := fun_mk (st := sSides) l4 c4d k4
  have b4 := F4.binds (ps := ["thing"]) fun _ _ _ _ _ _ us hl => by obtain ⟨u0, rfl⟩ := len1 hl; rfl
  have F5 := fun_mk (st := sNeedS) l5 c5d k5
  have b5 := F5.binds (ps := ["thing"]) fun _ _ _ _ _ _ us hl => by obtain ⟨u0, rfl⟩ := len1 hl; rfl
  have F6 := fun_mk (st := sPart) l6 c6d k6
  have b6 := F6.binds (ps := ["thing"]) fun _ _ _ _ _ _ us hl => by obtain ⟨u0, rfl⟩ := len1 hl; rfl
  have F7 := fun_mk (st := sName) l7 c7d k7
  have b7 := F7.binds (ps := ["thing"]) fun _ _ _ _ _ _ us hl => by obtain ⟨u0, rfl⟩ := len1 hl; rfl
  have F8 := fun_mk (st := sBeg) l8 c8d k8
  have b8 := F8.binds (ps := ["thing"]) fun _ _ _ _ _ _ us hl => by obtain ⟨u0, rfl⟩ := len1 hl; rfl
  have F9 := fun_mk (st := sNeedN) l9 c9d k9
  have b9 := F9.binds (ps := ["thing"]) fun _ _ _ _ _ _ us hl => by obtain ⟨u0, rfl⟩ := len1 hl; rfl
  have F10 := fun_mk (st := sNeedB) l10 c10d k10
  have b10 := F10.binds (ps := ["thing"]) fun _ _ _ _ _ _ us hl => by obtain ⟨u0, rfl⟩ := len1 hl; rfl
  have F11 := fun_mk (st := sCell) l11 c11d k11
  have b11 := F11.binds (ps := ["_law_script", "_law_k"]) fun _ _ _ _ _ _ us hl => by obtain ⟨u0, u1, rfl⟩ := len2 hl; rfl
  have F12 := fun_mk (st := sDrawn) l12 c12d k12
  have b12 := F12.binds (ps := ["_law_cell_here", "_law_k"]) fun _ _ _ _ _ _ us hl => by obtain ⟨u0, u1, rfl⟩ := len2 hl; rfl
  have F13 := fun_mk (st := sRoll) l13 c13d k13
  have b13 := F13.binds (ps := ["_law_dice", "_law_many"]) fun _ _ _ _ _ _ us hl => by obtain ⟨u0, u1, rfl⟩ := len2 hl; rfl
  have F14 := fun_mk (st := sRounds) l14 c14d k14
  have b14 := F14.binds (ps := ["_law_script", "_law_most"]) fun _ _ _ _ _ _ us hl => by obtain ⟨u0, u1, rfl⟩ := len2 hl; rfl
  have F15 := fun_mk (st := sWord) l15 c15d k15
  have b15 := F15.binds (ps := ["_law_e"]) fun _ _ _ _ _ _ us hl => by obtain ⟨u0, rfl⟩ := len1 hl; rfl
  have F16 := fun_mk (st := sTold) l16 c16d k16
  have b16 := F16.binds (ps := ["_law_deed"]) fun _ _ _ _ _ _ us hl => by obtain ⟨u0, rfl⟩ := len1 hl; rfl
  have F17 := fun_mk (st := sHead) l17 c17d k17
  have b17 := F17.binds (ps := ["_law_dice"]) fun _ _ _ _ _ _ us hl => by obtain ⟨u0, rfl⟩ := len1 hl; rfl
  have F18 := fun_mk (st := sAny) l18 c18d k18
  have b18 := F18.binds (ps := ["_law_dice"]) fun _ _ _ _ _ _ us hl => by obtain ⟨u0, rfl⟩ := len1 hl; rfl
  have F19 := fun_mk (st := sSome) l19 c19d k19
  have b19 := F19.binds (ps := ["_law_dice", "_law_near"]) fun _ _ _ _ _ _ us hl => by obtain ⟨u0, u1, rfl⟩ := len2 hl; rfl
  have F20 := fun_mk (st := sLongest) l20 c20d k20
  have b20 := F20.binds (ps := ["_law_lines", "_law_name"]) fun _ _ _ _ _ _ us hl => by obtain ⟨u0, u1, rfl⟩ := len2 hl; rfl
  have F21 := fun_mk (st := sFound) l21 c21d k21
  have b21 := F21.binds (ps := ["_law_lines", "_law_name"]) fun _ _ _ _ _ _ us hl => by obtain ⟨u0, u1, rfl⟩ := len2 hl; rfl
  have Fk1 := fun_mk (st := sTInit) lk1 ck1d kk1
  have bk1 := Fk1.binds (ps := ["self"]) fun _ _ _ _ _ _ us hl => by obtain ⟨u0, rfl⟩ := len1 hl; rfl
  have Fk2 := fun_mk (st := sTPut) lk2 ck2d kk2
  have bk2 := Fk2.binds (ps := ["self", "beginning", "sides"]) fun _ _ _ _ _ _ us hl => by obtain ⟨u0, u1, u2, rfl⟩ := len3 hl; rfl
  have Fk3 := fun_mk (st := sTDrop) lk3 ck3d kk3
  have bk3 := Fk3.binds (ps := ["self", "beginning"]) fun _ _ _ _ _ _ us hl => by obtain ⟨u0, u1, rfl⟩ := len2 hl; rfl
  have Fk4 := fun_mk (st := sTWay) lk4 ck4d kk4
  have bk4 := Fk4.binds (ps := ["self", "name"]) fun _ _ _ _ _ _ us hl => by obtain ⟨u0, u1, rfl⟩ := len2 hl; rfl
  have Fk5 := fun_mk (st := sTSides) lk5 ck5d kk5
  have bk5 := Fk5.binds (ps := ["self", "name"]) fun _ _ _ _ _ _ us hl => by obtain ⟨u0, u1, rfl⟩ := len2 hl; rfl
  have Fk6 := fun_mk (st := sTRows) lk6 ck6d kk6
  have bk6 := Fk6.binds (ps := ["self"]) fun _ _ _ _ _ _ us hl => by obtain ⟨u0, rfl⟩ := len1 hl; rfl
  have Fk7 := fun_mk (st := sTLen) lk7 ck7d kk7
  have bk7 := Fk7.binds (ps := ["self"]) fun _ _ _ _ _ _ us hl => by obtain ⟨u0, rfl⟩ := len1 hl; rfl
  have Fk8 := fun_mk (st := sTEq) lk8 ck8d kk8
  have bk8 := Fk8.binds (ps := ["self", "other"]) fun _ _ _ _ _ _ us hl => by obtain ⟨u0, u1, rfl⟩ := len2 hl; rfl
  have NN : Nine K mg c0 c1 c2 c3 c4 c5 c6 c7 c8 W := ⟨PySem.W.mg_of X G ea0, PySem.W.mg_of X G ea1, PySem.W.mg_of X G ea2, PySem.W.mg_of X G ea3, PySem.W.mg_of X G ea4, PySem.W.mg_of X G ea5, PySem.W.mg_of X G ea6, PySem.W.mg_of X G ea7, PySem.W.mg_of X G ea8, PySem.W.mg_of X G eaW, ebW, PySem.W.mg_none_of X G zn11, PySem.W.mg_none_of X G zn12⟩
  have RC0 : ExcC K c0 := excC_mk el0 eN0 eK0 elW eNW eKW
  have RI0 : ExcIs K c0 := ⟨eg0, eh0, ek0, egn, etk, eo0, eb0, by rw [ec0]; rfl⟩
  have RF0 : Flg K [c0, c1, c2, c3, c4, c5, c6, c7, c8] W c0 0 := ⟨by decide, RI0, kit_cls ecW etW es0W, fun i c hc => flg9 (kf := fun i => decide (i = 0)) kit_self (kit_other en01 ec1 et1 es01) (kit_other en02 ec2 et2 es02) (kit_other en03 ec3 et3 es03) (kit_other en04 ec4 et4 es04) (kit_other en05 ec5 et5 es05) (kit_other en06 ec6 et6 es06) (kit_other en07 ec7 et7 es07) (kit_other en08 ec8 et8 es08) hc, kit_val es0V⟩
  have GL : Glb mg := ⟨PySem.W.mg_none_of X G zn0, PySem.W.mg_none_of X G zn1, PySem.W.mg_none_of X G zn2, PySem.W.mg_none_of X G zn3, PySem.W.mg_none_of X G zn4, PySem.W.mg_none_of X G zn5, PySem.W.mg_none_of X G zn6, PySem.W.mg_none_of X G zn7, PySem.W.mg_none_of X G zn8, PySem.W.mg_none_of X G zn9, PySem.W.mg_none_of X G zn10, ⟨_, PySem.W.mg_of X G gc0⟩, ⟨_, PySem.W.mg_of X G gc1⟩, ⟨_, PySem.W.mg_of X G gc2⟩, ⟨_, PySem.W.mg_of X G gc3⟩, PySem.W.mg_none_of X G zn13, PySem.W.mg_none_of X G zn14⟩
  have TX : Txt K mg Ck := ⟨⟨pgk, hdk, pok, sak⟩, nk0, PySem.W.mg_of X G aCk⟩
  have TE : TxtE K Ck := ⟨xh, egn, etk, xo, kit_self, kit_dict xc xy xs⟩
  have EC : EqC K Ck fk8 := ⟨first_dict xs, ownEq_mk xl xN xt xe xm lk8 xf⟩
  have R0 : Rz K mg "BadName" c0 := ⟨RC0, PySem.W.mg_of X G ea0⟩
  refine ⟨PySem.W.fnOf "law" "law" (defArgs sLaw) (defBody sLaw) (defScope sLaw) .none kV22 dc22 pm22 an22 (.ref cc) ct22, fun s v => .of_eq rfl, fun base _ _ BM => ?_⟩
  have K1 := ok_whole (P := l.prog) (w := w) (base := base) F1 GL
  have K2 := ok_within F2 GL ⟨K1, PySem.W.mg_of X G a1, k1, b1⟩
  have K3 := ok_side F3 GL ⟨K2, PySem.W.mg_of X G a2, k2, b2⟩
  have K4 := ok_sides F4 GL ⟨K3, PySem.W.mg_of X G a3, k3, b3⟩
  have K5 := ok_needS F5 ⟨K4, PySem.W.mg_of X G a4, k4, b4⟩
  have K6 := ok_part (P := l.prog) (w := w) (base := base) F6 GL
  have K7 := ok_name F7 GL ⟨K6, PySem.W.mg_of X G a6, k6, b6⟩
  have K8 := ok_beg F8 GL ⟨K7, PySem.W.mg_of X G a7, k7, b7⟩
  have K9 := ok_needN F9 GL ⟨K7, PySem.W.mg_of X G a7, k7, b7⟩
  have K10 := ok_needB F10 ⟨K8, PySem.W.mg_of X G a8, k8, b8⟩
  have K11 := ok_cell (P := l.prog) (w := w) (base := base) F11 GL
  have K12 := ok_drawn (P := l.prog) (w := w) (base := base) (mg := mg) F12
  have K13 := ok_roll F13 ⟨K12, PySem.W.mg_of X G a12, k12, b12⟩
  have K14 := ok_rounds F14 GL ⟨K11, PySem.W.mg_of X G a11, k11, b11⟩
  have K15 := ok_word (P := l.prog) (w := w) (base := base) F15 GL NN
  have K16 := ok_told F16 b16 GL NN K15 (PySem.W.mg_of X G a15) k15 b15
  have K17 := ok_head F17 GL ⟨K13, PySem.W.mg_of X G a13, k13, b13⟩
  have K18 := ok_any F18 ⟨K13, PySem.W.mg_of X G a13, k13, b13⟩ ⟨K17, PySem.W.mg_of X G a17, k17, b17⟩
  have K19 := ok_some F19 GL ⟨K13, PySem.W.mg_of X G a13, k13, b13⟩
  have K20 := ok_longest (P := l.prog) (w := w) (base := base) l20 c20d GL (codeHd_mk lcodel vCl) BM
  have K21 := ok_found F21 GL ⟨K20, PySem.W.mg_of X G a20, k20, b20⟩
  have Kk1 := ok_tinit (P := l.prog) (w := w) (base := base) Fk1 TX
  have Kk2 := ok_tput Fk2 GL TX ⟨K10, PySem.W.mg_of X G a10, k10, b10⟩ ⟨K5, PySem.W.mg_of X G a5, k5, b5⟩
  have Kk3 := okx_tdrop Fk3 R0 TX ⟨K10, PySem.W.mg_of X G a10, k10, b10⟩
  have Kk4 := ok_tway Fk4 GL TX ⟨K9, PySem.W.mg_of X G a9, k9, b9⟩
  have Kk5 := ok_tsides Fk5 TX ⟨⟨ak4, ik4, kk4⟩, Kk4, bk4⟩
  have Kk6 := ok_trows (P := l.prog) (w := w) (base := base) Fk6 GL TX
  have Kk7 := ok_tlen (P := l.prog) (w := w) (base := base) Fk7 GL TX
  have Kk8 := ok_teq (P := l.prog) (w := w) (base := base) Fk8 GL TX TE
  have EV : EnvL l.prog w K mg base cc Pt f16 W _ (wd9 K [c0, c1, c2, c3, c4, c5, c6, c7, c8] W) := ⟨K16, PySem.W.mg_of X G a16, k16, codeHd_mk lcode vC, BM⟩
  exact ok_law l22 c22d ⟨K14, PySem.W.mg_of X G a14, k14, b14⟩ GL TX EV ⟨RF0.up, 0, RF0, rfl, by decide⟩ EC ⟨K13, PySem.W.mg_of X G a13, k13, b13⟩ ⟨K17, PySem.W.mg_of X G a17, k17, b17⟩ ⟨K19, PySem.W.mg_of X G a19, k19, b19⟩ ⟨K18, PySem.W.mg_of X G a18, k18, b18⟩ ⟨K20, PySem.W.mg_of X G a20, k20, b20⟩ ⟨K21, PySem.W.mg_of X G a21, k21, b21⟩ ⟨mkk, ak1, ik1, kck⟩ Kk1 bk1 ⟨⟨ak2, ik2, kk2⟩, Kk2, bk2⟩ ⟨⟨ak3, ik3, kk3⟩, Kk3, bk3⟩ ⟨⟨ak4, ik4, kk4⟩, Kk4, bk4⟩ ⟨⟨ak5, ik5, kk5⟩, Kk5, bk5⟩ ⟨⟨ak6, ik6, kk6⟩, Kk6, bk6⟩ ⟨⟨ak7, ik7, kk7⟩, Kk7, bk7⟩ ⟨⟨ak8, ik8, kk8⟩, Kk8, bk8⟩
theorem walk {l : PySem.W.OpenLaw} {q : Program} {loose : List Str} {XP : (Str → Option Value) → Heap → Prop} {YP : World → Heap → Prop} {d : DefRec} {K : Params → PySem.W.Frag} (cc Pt cl Pl : Addr) (hne : Pl ≠ Pt) (hn : l.most = some 63) (hdf : d.params.defaults = [])
    (hY : ∀ (w : World) (h : Heap), YP w h → (K w.params).In h) (hT : ∀ (w : World) (h : Heap), YP w h → h.get? Pt = some (PySem.W.tabObj #[])) (hC : ∀ w : World, PySem.W.codeHdIn (K w.params) cc Pt = true) (hKP : ∀ w : World, (K w.params).lookup Pt = none) (hTl : ∀ (w : World) (h : Heap), YP w h → h.get? Pl = some (PySem.W.tabObj #[])) (hCl : ∀ w : World, PySem.W.codeHdIn (K w.params) cl Pl = true) (hKPl : ∀ w : World, (K w.params).lookup Pl = none)
    (F : ∀ (w : World) (mg : Str → Option Value) (fa : Addr) (h : Heap), (K w.params).In h → h.Ns mainGlobals mg → mg d.name = some (.ref fa) →
      ∃ fd : FuncData, (∀ (s : Shared) (u : Value), BindsTo s fd ⟨[u], []⟩ [("_law_script", u)]) ∧ ∀ base : Heap, (K w.params).In base → base.Ns mainGlobals mg → BmAt mg base → FnOk l.prog w (K w.params) mg base CX0 9 fa fd ["_law_script"] (spLaw (K w.params) Pt Pl)) :
    PySem.W.WalkO q loose XP YP l.row.toRowW d [] (fun f vs => PySem.call f vs) :=
  L2.walk_ofT (n := 63) (k := 9) (x := "_law_script") (CX := fun _ => CX0) (sp := fun w => spLaw (K w.params) Pt Pl) [Pt, Pl] hn (by decide) hdf ⟨rfl, by decide, by decide⟩ hY
    (fun w h Y X P hP => by
      rcases List.mem_cons.mp hP with rfl | hP
      · exact ⟨cc, PySem.W.codeHd_of_K X (hC w), hT w h Y⟩
      · rw [List.mem_singleton.mp hP]; exact ⟨cl, PySem.W.codeHd_of_K X (hCl w), hTl w h Y⟩)
    (fun w P hP => by
      rcases List.mem_cons.mp hP with rfl | hP
      · exact hKP w
      · rw [List.mem_singleton.mp hP]; exact hKPl w) F
    (fun _ _ a ns hl hP hS => ⟨a, ns, rfl, hS, hl, hP Pt (by simp), hP Pl (by simp), hne, fun _ => rfl⟩) fun _ _ _ _ _ z => z
end K20
noncomputable def PySem.W.Fast.tw18245709118039610460 : PySem.Program := PySem.Challenge.pw_namewants_k20_whole_tables
theorem PySem.W.Fast.te18245709118039610460 : PySem.Challenge.pw_namewants_k20_whole_tables = PySem.W.Fast.tw18245709118039610460 := rfl
noncomputable def K20.Kf : PySem.Params → PySem.W.Frag := fun P =>
(nat_lit 2, ({ cls := PySem.Value.none, data := PySem.Data.dict #[] } : PySem.Obj)) ::
(nat_lit 3, ({ cls := PySem.Value.type "dict", data := PySem.Data.dict #[{ hash := PySem.PyData.keyHash P (PySem.Str.ofString "__name__"), key := PySem.Value.str (PySem.Str.ofString "__name__") 165, val := PySem.Value.str (PySem.Str.ofString "law_namewants_k20_whole_tables") 551 }, { hash := PySem.PyData.keyHash P (PySem.Str.ofString "__doc__"), key := PySem.Value.str (PySem.Str.ofString "__doc__") 166, val := PySem.Value.none }, { hash := PySem.PyData.keyHash P (PySem.Str.ofString "__package__"), key := PySem.Value.str (PySem.Str.ofString "__package__") 167, val := PySem.Value.none }, { hash := PySem.PyData.keyHash P (PySem.Str.ofString "__loader__"), key := PySem.Value.str (PySem.Str.ofString "__loader__") 168, val := PySem.Value.builtin "__main__.__loader__#opaque" }, { hash := PySem.PyData.keyHash P (PySem.Str.ofString "__spec__"), key := PySem.Value.str (PySem.Str.ofString "__spec__") 169, val := PySem.Value.none }, { hash := PySem.PyData.keyHash P (PySem.Str.ofString "__annotations__"), key := PySem.Value.str (PySem.Str.ofString "__annotations__") 170, val := PySem.Value.ref 6 }, { hash := PySem.PyData.keyHash P (PySem.Str.ofString "__builtins__"), key := PySem.Value.str (PySem.Str.ofString "__builtins__") 171, val := PySem.Value.ref 4 }, { hash := PySem.PyData.keyHash P (PySem.Str.ofString "__file__"), key := PySem.Value.str (PySem.Str.ofString "__file__") 173, val := PySem.Value.str (PySem.Str.ofString "/claim/cut.py") 172 }, { hash := PySem.PyData.keyHash P (PySem.Str.ofString "__cached__"), key := PySem.Value.str (PySem.Str.ofString "__cached__") 174, val := PySem.Value.none }, { hash := PySem.PyData.keyHash P (PySem.Str.ofString "_wall"), key := PySem.Value.str (PySem.Str.ofString "_wall") 193, val := PySem.Value.ref 21 }, { hash := PySem.PyData.keyHash P (PySem.Str.ofString "WantError"), key := PySem.Value.str (PySem.Str.ofString "WantError") 213, val := PySem.Value.ref 31 }, { hash := PySem.PyData.keyHash P (PySem.Str.ofString "BadName"), key := PySem.Value.str (PySem.Str.ofString "BadName") 229, val := PySem.Value.ref 44 }, { hash := PySem.PyData.keyHash P (PySem.Str.ofString "BadSides"), key := PySem.Value.str (PySem.Str.ofString "BadSides") 245, val := PySem.Value.ref 56 }, { hash := PySem.PyData.keyHash P (PySem.Str.ofString "BadNumber"), key := PySem.Value.str (PySem.Str.ofString "BadNumber") 261, val := PySem.Value.ref 68 }, { hash := PySem.PyData.keyHash P (PySem.Str.ofString "BadLetter"), key := PySem.Value.str (PySem.Str.ofString "BadLetter") 277, val := PySem.Value.ref 80 }, { hash := PySem.PyData.keyHash P (PySem.Str.ofString "NoHouse"), key := PySem.Value.str (PySem.Str.ofString "NoHouse") 293, val := PySem.Value.ref 92 }, { hash := PySem.PyData.keyHash P (PySem.Str.ofString "NoWay"), key := PySem.Value.str (PySem.Str.ofString "NoWay") 309, val := PySem.Value.ref 104 }, { hash := PySem.PyData.keyHash P (PySem.Str.ofString "NoLetter"), key := PySem.Value.str (PySem.Str.ofString "NoLetter") 325, val := PySem.Value.ref 116 }, { hash := PySem.PyData.keyHash P (PySem.Str.ofString "Gone"), key := PySem.Value.str (PySem.Str.ofString "Gone") 350, val := PySem.Value.ref 135 }, { hash := PySem.PyData.keyHash P (PySem.Str.ofString "BadStory"), key := PySem.Value.str (PySem.Str.ofString "BadStory") 366, val := PySem.Value.ref 147 }, { hash := PySem.PyData.keyHash P (PySem.Str.ofString "SIDE_MOST"), key := PySem.Value.str (PySem.Str.ofString "SIDE_MOST") 370, val := PySem.Value.int 7 369 }, { hash := PySem.PyData.keyHash P (PySem.Str.ofString "is_whole"), key := PySem.Value.str (PySem.Str.ofString "is_whole") 377, val := PySem.Value.ref 156 }, { hash := PySem.PyData.keyHash P (PySem.Str.ofString "is_within"), key := PySem.Value.str (PySem.Str.ofString "is_within") 386, val := PySem.Value.ref 163 }, { hash := PySem.PyData.keyHash P (PySem.Str.ofString "is_side"), key := PySem.Value.str (PySem.Str.ofString "is_side") 393, val := PySem.Value.ref 170 }, { hash := PySem.PyData.keyHash P (PySem.Str.ofString "is_sides"), key := PySem.Value.str (PySem.Str.ofString "is_sides") 399, val := PySem.Value.ref 175 }, { hash := PySem.PyData.keyHash P (PySem.Str.ofString "need_sides"), key := PySem.Value.str (PySem.Str.ofString "need_sides") 406, val := PySem.Value.ref 182 }, { hash := PySem.PyData.keyHash P (PySem.Str.ofString "SIGNS"), key := PySem.Value.str (PySem.Str.ofString "SIGNS") 410, val := PySem.Value.str (PySem.Str.ofString "abcdefghijklmnopqrstuvwxyz0123456789") 409 }, { hash := PySem.PyData.keyHash P (PySem.Str.ofString "PART_LONGEST"), key := PySem.Value.str (PySem.Str.ofString "PART_LONGEST") 412, val := PySem.Value.int 4 411 }, { hash := PySem.PyData.keyHash P (PySem.Str.ofString "NAME_LONGEST"), key := PySem.Value.str (PySem.Str.ofString "NAME_LONGEST") 414, val := PySem.Value.int 5 413 }, { hash := PySem.PyData.keyHash P (PySem.Str.ofString "is_part"), key := PySem.Value.str (PySem.Str.ofString "is_part") 420, val := PySem.Value.ref 187 }, { hash := PySem.PyData.keyHash P (PySem.Str.ofString "is_name"), key := PySem.Value.str (PySem.Str.ofString "is_name") 426, val := PySem.Value.ref 192 }, { hash := PySem.PyData.keyHash P (PySem.Str.ofString "is_beginning"), key := PySem.Value.str (PySem.Str.ofString "is_beginning") 433, val := PySem.Value.ref 199 }, { hash := PySem.PyData.keyHash P (PySem.Str.ofString "need_name"), key := PySem.Value.str (PySem.Str.ofString "need_name") 440, val := PySem.Value.ref 206 }, { hash := PySem.PyData.keyHash P (PySem.Str.ofString "need_beginning"), key := PySem.Value.str (PySem.Str.ofString "need_beginning") 447, val := PySem.Value.ref 213 }, { hash := PySem.PyData.keyHash P (PySem.Str.ofString "Table"), key := PySem.Value.str (PySem.Str.ofString "Table") 550, val := PySem.Value.ref 291 }, { hash := PySem.PyData.keyHash P (PySem.Str.ofString "_law_cell"), key := PySem.Value.str (PySem.Str.ofString "_law_cell") 560, val := PySem.Value.ref 302 }, { hash := PySem.PyData.keyHash P (PySem.Str.ofString "_law_drawn"), key := PySem.Value.str (PySem.Str.ofString "_law_drawn") 569, val := PySem.Value.ref 309 }, { hash := PySem.PyData.keyHash P (PySem.Str.ofString "_law_roll"), key := PySem.Value.str (PySem.Str.ofString "_law_roll") 578, val := PySem.Value.ref 316 }, { hash := PySem.PyData.keyHash P (PySem.Str.ofString "_law_rounds"), key := PySem.Value.str (PySem.Str.ofString "_law_rounds") 584, val := PySem.Value.ref 321 }, { hash := PySem.PyData.keyHash P (PySem.Str.ofString "_law_word"), key := PySem.Value.str (PySem.Str.ofString "_law_word") 590, val := PySem.Value.ref 326 }, { hash := PySem.PyData.keyHash P (PySem.Str.ofString "_law_told"), key := PySem.Value.str (PySem.Str.ofString "_law_told") 598, val := PySem.Value.ref 333 }, { hash := PySem.PyData.keyHash P (PySem.Str.ofString "_law_head"), key := PySem.Value.str (PySem.Str.ofString "_law_head") 604, val := PySem.Value.ref 338 }, { hash := PySem.PyData.keyHash P (PySem.Str.ofString "_law_any_name"), key := PySem.Value.str (PySem.Str.ofString "_law_any_name") 611, val := PySem.Value.ref 345 }, { hash := PySem.PyData.keyHash P (PySem.Str.ofString "_law_some_sides"), key := PySem.Value.str (PySem.Str.ofString "_law_some_sides") 621, val := PySem.Value.ref 352 }, { hash := PySem.PyData.keyHash P (PySem.Str.ofString "_law_longest"), key := PySem.Value.str (PySem.Str.ofString "_law_longest") 627, val := PySem.Value.ref 357 }, { hash := PySem.PyData.keyHash P (PySem.Str.ofString "_law_found"), key := PySem.Value.str (PySem.Str.ofString "_law_found") 636, val := PySem.Value.ref 364 }, { hash := PySem.PyData.keyHash P (PySem.Str.ofString "law"), key := PySem.Value.str (PySem.Str.ofString "law") 642, val := PySem.Value.ref 369 }] 47 } : PySem.Obj)) ::
(nat_lit 30, ({ cls := PySem.Value.type "dict", data := PySem.Data.dict #[{ hash := PySem.PyData.keyHash P (PySem.Str.ofString "__module__"), key := PySem.Value.str (PySem.Str.ofString "__module__") 203, val := PySem.Value.str (PySem.Str.ofString "namewants.errors") 194 }, { hash := PySem.PyData.keyHash P (PySem.Str.ofString "__firstlineno__"), key := PySem.Value.str (PySem.Str.ofString "__firstlineno__") 207, val := PySem.Value.int 5 206 }, { hash := PySem.PyData.keyHash P (PySem.Str.ofString "__static_attributes__"), key := PySem.Value.str (PySem.Str.ofString "__static_attributes__") 208, val := PySem.Value.ref 29 }, { hash := PySem.PyData.keyHash P (PySem.Str.ofString "__weakref__"), key := PySem.Value.str (PySem.Str.ofString "__weakref__") 210, val := PySem.Value.ref 32 }, { hash := PySem.PyData.keyHash P (PySem.Str.ofString "__doc__"), key := PySem.Value.str (PySem.Str.ofString "__doc__") 211, val := PySem.Value.none }] 3 } : PySem.Obj)) ::
(nat_lit 31, ({ cls := PySem.Value.type "type", data := PySem.Data.cls { name := PySem.Str.ofString "WantError", bases := [PySem.Value.type "ValueError"], mro := [PySem.Value.ref 31, PySem.Value.type "ValueError", PySem.Value.type "Exception", PySem.Value.type "BaseException", PySem.Value.type "object"], ns := 30, qualname := PySem.Str.ofString "WantError", subclasses := [PySem.Value.ref 44, PySem.Value.ref 56, PySem.Value.ref 68, PySem.Value.ref 80, PySem.Value.ref 92, PySem.Value.ref 104, PySem.Value.ref 116, PySem.Value.ref 135, PySem.Value.ref 147] }, slots := #[some (PySem.Value.ref 22), none, some (PySem.Value.str (PySem.Str.ofString "WantError") 196), some (PySem.Value.str (PySem.Str.ofString "WantError") 204), some (PySem.Value.builtin "ValueError.__new__"), some (PySem.Value.bool true)] } : PySem.Obj)) ::
(nat_lit 43, ({ cls := PySem.Value.type "dict", data := PySem.Data.dict #[{ hash := PySem.PyData.keyHash P (PySem.Str.ofString "__module__"), key := PySem.Value.str (PySem.Str.ofString "__module__") 221, val := PySem.Value.str (PySem.Str.ofString "namewants.errors") 194 }, { hash := PySem.PyData.keyHash P (PySem.Str.ofString "__firstlineno__"), key := PySem.Value.str (PySem.Str.ofString "__firstlineno__") 225, val := PySem.Value.int 7 224 }, { hash := PySem.PyData.keyHash P (PySem.Str.ofString "__static_attributes__"), key := PySem.Value.str (PySem.Str.ofString "__static_attributes__") 226, val := PySem.Value.ref 42 }, { hash := PySem.PyData.keyHash P (PySem.Str.ofString "__doc__"), key := PySem.Value.str (PySem.Str.ofString "__doc__") 227, val := PySem.Value.none }] 2 } : PySem.Obj)) ::
(nat_lit 44, ({ cls := PySem.Value.type "type", data := PySem.Data.cls { name := PySem.Str.ofString "BadName", bases := [PySem.Value.ref 31], mro := [PySem.Value.ref 44, PySem.Value.ref 31, PySem.Value.type "ValueError", PySem.Value.type "Exception", PySem.Value.type "BaseException", PySem.Value.type "object"], ns := 43, qualname := PySem.Str.ofString "BadName" }, slots := #[some (PySem.Value.ref 35), none, some (PySem.Value.str (PySem.Str.ofString "BadName") 214), some (PySem.Value.str (PySem.Str.ofString "BadName") 222), some (PySem.Value.builtin "ValueError.__new__"), some (PySem.Value.bool true)] } : PySem.Obj)) ::
(nat_lit 55, ({ cls := PySem.Value.type "dict", data := PySem.Data.dict #[{ hash := PySem.PyData.keyHash P (PySem.Str.ofString "__module__"), key := PySem.Value.str (PySem.Str.ofString "__module__") 237, val := PySem.Value.str (PySem.Str.ofString "namewants.errors") 194 }, { hash := PySem.PyData.keyHash P (PySem.Str.ofString "__firstlineno__"), key := PySem.Value.str (PySem.Str.ofString "__firstlineno__") 241, val := PySem.Value.int 9 240 }, { hash := PySem.PyData.keyHash P (PySem.Str.ofString "__static_attributes__"), key := PySem.Value.str (PySem.Str.ofString "__static_attributes__") 242, val := PySem.Value.ref 54 }, { hash := PySem.PyData.keyHash P (PySem.Str.ofString "__doc__"), key := PySem.Value.str (PySem.Str.ofString "__doc__") 243, val := PySem.Value.none }] 2 } : PySem.Obj)) ::
(nat_lit 56, ({ cls := PySem.Value.type "type", data := PySem.Data.cls { name := PySem.Str.ofString "BadSides", bases := [PySem.Value.ref 31], mro := [PySem.Value.ref 56, PySem.Value.ref 31, PySem.Value.type "ValueError", PySem.Value.type "Exception", PySem.Value.type "BaseException", PySem.Value.type "object"], ns := 55, qualname := PySem.Str.ofString "BadSides" }, slots := #[some (PySem.Value.ref 47), none, some (PySem.Value.str (PySem.Str.ofString "BadSides") 230), some (PySem.Value.str (PySem.Str.ofString "BadSides") 238), some (PySem.Value.builtin "ValueError.__new__"), some (PySem.Value.bool true)] } : PySem.Obj)) ::
(nat_lit 67, ({ cls := PySem.Value.type "dict", data := PySem.Data.dict #[{ hash := PySem.PyData.keyHash P (PySem.Str.ofString "__module__"), key := PySem.Value.str (PySem.Str.ofString "__module__") 253, val := PySem.Value.str (PySem.Str.ofString "namewants.errors") 194 }, { hash := PySem.PyData.keyHash P (PySem.Str.ofString "__firstlineno__"), key := PySem.Value.str (PySem.Str.ofString "__firstlineno__") 257, val := PySem.Value.int 11 256 }, { hash := PySem.PyData.keyHash P (PySem.Str.ofString "__static_attributes__"), key := PySem.Value.str (PySem.Str.ofString "__static_attributes__") 258, val := PySem.Value.ref 66 }, { hash := PySem.PyData.keyHash P (PySem.Str.ofString "__doc__"), key := PySem.Value.str (PySem.Str.ofString "__doc__") 259, val := PySem.Value.none }] 2 } : PySem.Obj)) ::
(nat_lit 68, ({ cls := PySem.Value.type "type", data := PySem.Data.cls { name := PySem.Str.ofString "BadNumber", bases := [PySem.Value.ref 31], mro := [PySem.Value.ref 68, PySem.Value.ref 31, PySem.Value.type "ValueError", PySem.Value.type "Exception", PySem.Value.type "BaseException", PySem.Value.type "object"], ns := 67, qualname := PySem.Str.ofString "BadNumber" }, slots := #[some (PySem.Value.ref 59), none, some (PySem.Value.str (PySem.Str.ofString "BadNumber") 246), some (PySem.Value.str (PySem.Str.ofString "BadNumber") 254), some (PySem.Value.builtin "ValueError.__new__"), some (PySem.Value.bool true)] } : PySem.Obj)) ::
(nat_lit 79, ({ cls := PySem.Value.type "dict", data := PySem.Data.dict #[{ hash := PySem.PyData.keyHash P (PySem.Str.ofString "__module__"), key := PySem.Value.str (PySem.Str.ofString "__module__") 269, val := PySem.Value.str (PySem.Str.ofString "namewants.errors") 194 }, { hash := PySem.PyData.keyHash P (PySem.Str.ofString "__firstlineno__"), key := PySem.Value.str (PySem.Str.ofString "__firstlineno__") 273, val := PySem.Value.int 13 272 }, { hash := PySem.PyData.keyHash P (PySem.Str.ofString "__static_attributes__"), key := PySem.Value.str (PySem.Str.ofString "__static_attributes__") 274, val := PySem.Value.ref 78 }, { hash := PySem.PyData.keyHash P (PySem.Str.ofString "__doc__"), key := PySem.Value.str (PySem.Str.ofString "__doc__") 275, val := PySem.Value.none }] 2 } : PySem.Obj)) ::
(nat_lit 80, ({ cls := PySem.Value.type "type", data := PySem.Data.cls { name := PySem.Str.ofString "BadLetter", bases := [PySem.Value.ref 31], mro := [PySem.Value.ref 80, PySem.Value.ref 31, PySem.Value.type "ValueError", PySem.Value.type "Exception", PySem.Value.type "BaseException", PySem.Value.type "object"], ns := 79, qualname := PySem.Str.ofString "BadLetter" }, slots := #[some (PySem.Value.ref 71), none, some (PySem.Value.str (PySem.Str.ofString "BadLetter") 262), some (PySem.Value.str (PySem.Str.ofString "BadLetter") 270), some (PySem.Value.builtin "ValueError.__new__"), some (PySem.Value.bool true)] } : PySem.Obj)) ::
(nat_lit 91, ({ cls := PySem.Value.type "dict", data := PySem.Data.dict #[{ hash := PySem.PyData.keyHash P (PySem.Str.ofString "__module__"), key := PySem.Value.str (PySem.Str.ofString "__module__") 285, val := PySem.Value.str (PySem.Str.ofString "namewants.errors") 194 }, { hash := PySem.PyData.keyHash P (PySem.Str.ofString "__firstlineno__"), key := PySem.Value.str (PySem.Str.ofString "__firstlineno__") 289, val := PySem.Value.int 15 288 }, { hash := PySem.PyData.keyHash P (PySem.Str.ofString "__static_attributes__"), key := PySem.Value.str (PySem.Str.ofString "__static_attributes__") 290, val := PySem.Value.ref 90 }, { hash := PySem.PyData.keyHash P (PySem.Str.ofString "__doc__"), key := PySem.Value.str (PySem.Str.ofString "__doc__") 291, val := PySem.Value.none }] 2 } : PySem.Obj)) ::
(nat_lit 92, ({ cls := PySem.Value.type "type", data := PySem.Data.cls { name := PySem.Str.ofString "NoHouse", bases := [PySem.Value.ref 31], mro := [PySem.Value.ref 92, PySem.Value.ref 31, PySem.Value.type "ValueError", PySem.Value.type "Exception", PySem.Value.type "BaseException", PySem.Value.type "object"], ns := 91, qualname := PySem.Str.ofString "NoHouse" }, slots := #[some (PySem.Value.ref 83), none, some (PySem.Value.str (PySem.Str.ofString "NoHouse") 278), some (PySem.Value.str (PySem.Str.ofString "NoHouse") 286), some (PySem.Value.builtin "ValueError.__new__"), some (PySem.Value.bool true)] } : PySem.Obj)) ::
(nat_lit 103, ({ cls := PySem.Value.type "dict", data := PySem.Data.dict #[{ hash := PySem.PyData.keyHash P (PySem.Str.ofString "__module__"), key := PySem.Value.str (PySem.Str.ofString "__module__") 301, val := PySem.Value.str (PySem.Str.ofString "namewants.errors") 194 }, { hash := PySem.PyData.keyHash P (PySem.Str.ofString "__firstlineno__"), key := PySem.Value.str (PySem.Str.ofString "__firstlineno__") 305, val := PySem.Value.int 17 304 }, { hash := PySem.PyData.keyHash P (PySem.Str.ofString "__static_attributes__"), key := PySem.Value.str (PySem.Str.ofString "__static_attributes__") 306, val := PySem.Value.ref 102 }, { hash := PySem.PyData.keyHash P (PySem.Str.ofString "__doc__"), key := PySem.Value.str (PySem.Str.ofString "__doc__") 307, val := PySem.Value.none }] 2 } : PySem.Obj)) ::
(nat_lit 104, ({ cls := PySem.Value.type "type", data := PySem.Data.cls { name := PySem.Str.ofString "NoWay", bases := [PySem.Value.ref 31], mro := [PySem.Value.ref 104, PySem.Value.ref 31, PySem.Value.type "ValueError", PySem.Value.type "Exception", PySem.Value.type "BaseException", PySem.Value.type "object"], ns := 103, qualname := PySem.Str.ofString "NoWay" }, slots := #[some (PySem.Value.ref 95), none, some (PySem.Value.str (PySem.Str.ofString "NoWay") 294), some (PySem.Value.str (PySem.Str.ofString "NoWay") 302), some (PySem.Value.builtin "ValueError.__new__"), some (PySem.Value.bool true)] } : PySem.Obj)) ::
(nat_lit 115, ({ cls := PySem.Value.type "dict", data := PySem.Data.dict #[{ hash := PySem.PyData.keyHash P (PySem.Str.ofString "__module__"), key := PySem.Value.str (PySem.Str.ofString "__module__") 317, val := PySem.Value.str (PySem.Str.ofString "namewants.errors") 194 }, { hash := PySem.PyData.keyHash P (PySem.Str.ofString "__firstlineno__"), key := PySem.Value.str (PySem.Str.ofString "__firstlineno__") 321, val := PySem.Value.int 19 320 }, { hash := PySem.PyData.keyHash P (PySem.Str.ofString "__static_attributes__"), key := PySem.Value.str (PySem.Str.ofString "__static_attributes__") 322, val := PySem.Value.ref 114 }, { hash := PySem.PyData.keyHash P (PySem.Str.ofString "__doc__"), key := PySem.Value.str (PySem.Str.ofString "__doc__") 323, val := PySem.Value.none }] 2 } : PySem.Obj)) ::
(nat_lit 116, ({ cls := PySem.Value.type "type", data := PySem.Data.cls { name := PySem.Str.ofString "NoLetter", bases := [PySem.Value.ref 31], mro := [PySem.Value.ref 116, PySem.Value.ref 31, PySem.Value.type "ValueError", PySem.Value.type "Exception", PySem.Value.type "BaseException", PySem.Value.type "object"], ns := 115, qualname := PySem.Str.ofString "NoLetter" }, slots := #[some (PySem.Value.ref 107), none, some (PySem.Value.str (PySem.Str.ofString "NoLetter") 310), some (PySem.Value.str (PySem.Str.ofString "NoLetter") 318), some (PySem.Value.builtin "ValueError.__new__"), some (PySem.Value.bool true)] } : PySem.Obj)) ::
(nat_lit 134, ({ cls := PySem.Value.type "dict", data := PySem.Data.dict #[{ hash := PySem.PyData.keyHash P (PySem.Str.ofString "__module__"), key := PySem.Value.str (PySem.Str.ofString "__module__") 333, val := PySem.Value.str (PySem.Str.ofString "namewants.errors") 194 }, { hash := PySem.PyData.keyHash P (PySem.Str.ofString "__firstlineno__"), key := PySem.Value.str (PySem.Str.ofString "__firstlineno__") 337, val := PySem.Value.int 21 336 }, { hash := PySem.PyData.keyHash P (PySem.Str.ofString "__init__"), key := PySem.Value.str (PySem.Str.ofString "__init__") 345, val := PySem.Value.ref 132 }, { hash := PySem.PyData.keyHash P (PySem.Str.ofString "__static_attributes__"), key := PySem.Value.str (PySem.Str.ofString "__static_attributes__") 347, val := PySem.Value.ref 133 }, { hash := PySem.PyData.keyHash P (PySem.Str.ofString "__doc__"), key := PySem.Value.str (PySem.Str.ofString "__doc__") 348, val := PySem.Value.none }] 2 } : PySem.Obj)) ::
(nat_lit 135, ({ cls := PySem.Value.type "type", data := PySem.Data.cls { name := PySem.Str.ofString "Gone", bases := [PySem.Value.ref 31], mro := [PySem.Value.ref 135, PySem.Value.ref 31, PySem.Value.type "ValueError", PySem.Value.type "Exception", PySem.Value.type "BaseException", PySem.Value.type "object"], ns := 134, qualname := PySem.Str.ofString "Gone" }, slots := #[some (PySem.Value.ref 119), none, some (PySem.Value.str (PySem.Str.ofString "Gone") 326), some (PySem.Value.str (PySem.Str.ofString "Gone") 334), some (PySem.Value.builtin "ValueError.__new__"), some (PySem.Value.bool true)] } : PySem.Obj)) ::
(nat_lit 146, ({ cls := PySem.Value.type "dict", data := PySem.Data.dict #[{ hash := PySem.PyData.keyHash P (PySem.Str.ofString "__module__"), key := PySem.Value.str (PySem.Str.ofString "__module__") 358, val := PySem.Value.str (PySem.Str.ofString "namewants.errors") 194 }, { hash := PySem.PyData.keyHash P (PySem.Str.ofString "__firstlineno__"), key := PySem.Value.str (PySem.Str.ofString "__firstlineno__") 362, val := PySem.Value.int 25 361 }, { hash := PySem.PyData.keyHash P (PySem.Str.ofString "__static_attributes__"), key := PySem.Value.str (PySem.Str.ofString "__static_attributes__") 363, val := PySem.Value.ref 145 }, { hash := PySem.PyData.keyHash P (PySem.Str.ofString "__doc__"), key := PySem.Value.str (PySem.Str.ofString "__doc__") 364, val := PySem.Value.none }] 2 } : PySem.Obj)) ::
(nat_lit 147, ({ cls := PySem.Value.type "type", data := PySem.Data.cls { name := PySem.Str.ofString "BadStory", bases := [PySem.Value.ref 31], mro := [PySem.Value.ref 147, PySem.Value.ref 31, PySem.Value.type "ValueError", PySem.Value.type "Exception", PySem.Value.type "BaseException", PySem.Value.type "object"], ns := 146, qualname := PySem.Str.ofString "BadStory" }, slots := #[some (PySem.Value.ref 138), none, some (PySem.Value.str (PySem.Str.ofString "BadStory") 351), some (PySem.Value.str (PySem.Str.ofString "BadStory") 359), some (PySem.Value.builtin "ValueError.__new__"), some (PySem.Value.bool true)] } : PySem.Obj)) ::
(nat_lit 155, ({ cls := PySem.Value.type "code", data := PySem.Data.fields #[PySem.Value.str (PySem.Str.ofString "is_whole") 371, PySem.Value.str (PySem.Str.ofString "is_whole") 372, PySem.Value.str (PySem.Str.ofString "/claim/cut.py") 373, PySem.Value.int 29 0, PySem.Value.int 1 0, PySem.Value.int 0 0, PySem.Value.int 0 0, PySem.Value.int 3 0, PySem.Value.ref 150, PySem.Value.bool true, PySem.Value.int 181 0, PySem.Value.ref 151, PySem.Value.none, PySem.Value.ref 152, PySem.Value.ref 153, PySem.Value.ref 154, PySem.Value.int 375 0, PySem.Value.int 29 0, PySem.Value.str (PySem.Str.ofString "/claim/cut.py") 376] } : PySem.Obj)) ::
(nat_lit 156, ⟨.type "function", none, .func (PySem.W.fnOf "is_whole" "is_whole" (L2.defArgs K20.sWhole) (L2.defBody K20.sWhole) (L2.defScope K20.sWhole) .none .none .none (.str "namewants.checks" 367) none (.ref 155) .none), #[]⟩) ::
(nat_lit 162, ({ cls := PySem.Value.type "code", data := PySem.Data.fields #[PySem.Value.str (PySem.Str.ofString "is_within") 378, PySem.Value.str (PySem.Str.ofString "is_within") 379, PySem.Value.str (PySem.Str.ofString "/claim/cut.py") 380, PySem.Value.int 31 0, PySem.Value.int 3 0, PySem.Value.int 0 0, PySem.Value.int 0 0, PySem.Value.int 3 0, PySem.Value.ref 157, PySem.Value.bool true, PySem.Value.int 181 0, PySem.Value.ref 158, PySem.Value.none, PySem.Value.ref 159, PySem.Value.ref 160, PySem.Value.ref 161, PySem.Value.int 384 0, PySem.Value.int 31 0, PySem.Value.str (PySem.Str.ofString "/claim/cut.py") 385] } : PySem.Obj)) ::
(nat_lit 163, ⟨.type "function", none, .func (PySem.W.fnOf "is_within" "is_within" (L2.defArgs K20.sWithin) (L2.defBody K20.sWithin) (L2.defScope K20.sWithin) .none .none .none (.str "namewants.checks" 367) none (.ref 162) .none), #[]⟩) ::
(nat_lit 169, ({ cls := PySem.Value.type "code", data := PySem.Data.fields #[PySem.Value.str (PySem.Str.ofString "is_side") 387, PySem.Value.str (PySem.Str.ofString "is_side") 388, PySem.Value.str (PySem.Str.ofString "/claim/cut.py") 389, PySem.Value.int 33 0, PySem.Value.int 1 0, PySem.Value.int 0 0, PySem.Value.int 0 0, PySem.Value.int 3 0, PySem.Value.ref 164, PySem.Value.bool true, PySem.Value.int 181 0, PySem.Value.ref 165, PySem.Value.none, PySem.Value.ref 166, PySem.Value.ref 167, PySem.Value.ref 168, PySem.Value.int 391 0, PySem.Value.int 33 0, PySem.Value.str (PySem.Str.ofString "/claim/cut.py") 392] } : PySem.Obj)) ::
(nat_lit 170, ⟨.type "function", none, .func (PySem.W.fnOf "is_side" "is_side" (L2.defArgs K20.sSide) (L2.defBody K20.sSide) (L2.defScope K20.sSide) .none .none .none (.str "namewants.checks" 367) none (.ref 169) .none), #[]⟩) ::
(nat_lit 174, ({ cls := PySem.Value.type "code", data := PySem.Data.fields #[PySem.Value.str (PySem.Str.ofString "is_sides") 394, PySem.Value.str (PySem.Str.ofString "is_sides") 395, PySem.Value.str (PySem.Str.ofString "/claim/cut.py") 396, PySem.Value.int 35 0, PySem.Value.int 1 0, PySem.Value.int 0 0, PySem.Value.int 0 0, PySem.Value.int 3 0, PySem.Value.ref 171, PySem.Value.bool true, PySem.Value.int 181 0, PySem.Value.ref 172, PySem.Value.none, PySem.Value.none, PySem.Value.none, PySem.Value.ref 173, PySem.Value.int 397 0, PySem.Value.int 35 0, PySem.Value.str (PySem.Str.ofString "/claim/cut.py") 398] } : PySem.Obj)) ::
(nat_lit 175, ⟨.type "function", none, .func (PySem.W.fnOf "is_sides" "is_sides" (L2.defArgs K20.sSides) (L2.defBody K20.sSides) (L2.defScope K20.sSides) .none .none .none (.str "namewants.checks" 367) none (.ref 174) .none), #[]⟩) ::
(nat_lit 181, ({ cls := PySem.Value.type "code", data := PySem.Data.fields #[PySem.Value.str (PySem.Str.ofString "need_sides") 400, PySem.Value.str (PySem.Str.ofString "need_sides") 401, PySem.Value.str (PySem.Str.ofString "/claim/cut.py") 402, PySem.Value.int 41 0, PySem.Value.int 1 0, PySem.Value.int 0 0, PySem.Value.int 0 0, PySem.Value.int 3 0, PySem.Value.ref 176, PySem.Value.bool true, PySem.Value.int 181 0, PySem.Value.ref 177, PySem.Value.none, PySem.Value.ref 178, PySem.Value.ref 179, PySem.Value.ref 180, PySem.Value.int 404 0, PySem.Value.int 41 0, PySem.Value.str (PySem.Str.ofString "/claim/cut.py") 405] } : PySem.Obj)) ::
(nat_lit 182, ⟨.type "function", none, .func (PySem.W.fnOf "need_sides" "need_sides" (L2.defArgs K20.sNeedS) (L2.defBody K20.sNeedS) (L2.defScope K20.sNeedS) .none .none .none (.str "namewants.checks" 367) none (.ref 181) .none), #[]⟩) ::
(nat_lit 186, ({ cls := PySem.Value.type "code", data := PySem.Data.fields #[PySem.Value.str (PySem.Str.ofString "is_part") 415, PySem.Value.str (PySem.Str.ofString "is_part") 416, PySem.Value.str (PySem.Str.ofString "/claim/cut.py") 417, PySem.Value.int 48 0, PySem.Value.int 1 0, PySem.Value.int 0 0, PySem.Value.int 0 0, PySem.Value.int 3 0, PySem.Value.ref 183, PySem.Value.bool true, PySem.Value.int 181 0, PySem.Value.ref 184, PySem.Value.none, PySem.Value.none, PySem.Value.none, PySem.Value.ref 185, PySem.Value.int 418 0, PySem.Value.int 48 0, PySem.Value.str (PySem.Str.ofString "/claim/cut.py") 419] } : PySem.Obj)) ::
(nat_lit 187, ⟨.type "function", none, .func (PySem.W.fnOf "is_part" "is_part" (L2.defArgs K20.sPart) (L2.defBody K20.sPart) (L2.defScope K20.sPart) .none .none .none (.str "namewants.names" 407) none (.ref 186) .none), #[]⟩) ::
(nat_lit 191, ({ cls := PySem.Value.type "code", data := PySem.Data.fields #[PySem.Value.str (PySem.Str.ofString "is_name") 421, PySem.Value.str (PySem.Str.ofString "is_name") 422, PySem.Value.str (PySem.Str.ofString "/claim/cut.py") 423, PySem.Value.int 52 0, PySem.Value.int 1 0, PySem.Value.int 0 0, PySem.Value.int 0 0, PySem.Value.int 3 0, PySem.Value.ref 188, PySem.Value.bool true, PySem.Value.int 181 0, PySem.Value.ref 189, PySem.Value.none, PySem.Value.none, PySem.Value.none, PySem.Value.ref 190, PySem.Value.int 424 0, PySem.Value.int 52 0, PySem.Value.str (PySem.Str.ofString "/claim/cut.py") 425] } : PySem.Obj)) ::
(nat_lit 192, ⟨.type "function", none, .func (PySem.W.fnOf "is_name" "is_name" (L2.defArgs K20.sName) (L2.defBody K20.sName) (L2.defScope K20.sName) .none .none .none (.str "namewants.names" 407) none (.ref 191) .none), #[]⟩) ::
(nat_lit 198, ({ cls := PySem.Value.type "code", data := PySem.Data.fields #[PySem.Value.str (PySem.Str.ofString "is_beginning") 427, PySem.Value.str (PySem.Str.ofString "is_beginning") 428, PySem.Value.str (PySem.Str.ofString "/claim/cut.py") 429, PySem.Value.int 56 0, PySem.Value.int 1 0, PySem.Value.int 0 0, PySem.Value.int 0 0, PySem.Value.int 3 0, PySem.Value.ref 193, PySem.Value.bool true, PySem.Value.int 181 0, PySem.Value.ref 194, PySem.Value.none, PySem.Value.ref 195, PySem.Value.ref 196, PySem.Value.ref 197, PySem.Value.int 431 0, PySem.Value.int 56 0, PySem.Value.str (PySem.Str.ofString "/claim/cut.py") 432] } : PySem.Obj)) ::
(nat_lit 199, ⟨.type "function", none, .func (PySem.W.fnOf "is_beginning" "is_beginning" (L2.defArgs K20.sBeg) (L2.defBody K20.sBeg) (L2.defScope K20.sBeg) .none .none .none (.str "namewants.names" 407) none (.ref 198) .none), #[]⟩) ::
(nat_lit 205, ({ cls := PySem.Value.type "code", data := PySem.Data.fields #[PySem.Value.str (PySem.Str.ofString "need_name") 434, PySem.Value.str (PySem.Str.ofString "need_name") 435, PySem.Value.str (PySem.Str.ofString "/claim/cut.py") 436, PySem.Value.int 58 0, PySem.Value.int 1 0, PySem.Value.int 0 0, PySem.Value.int 0 0, PySem.Value.int 3 0, PySem.Value.ref 200, PySem.Value.bool true, PySem.Value.int 181 0, PySem.Value.ref 201, PySem.Value.none, PySem.Value.ref 202, PySem.Value.ref 203, PySem.Value.ref 204, PySem.Value.int 438 0, PySem.Value.int 58 0, PySem.Value.str (PySem.Str.ofString "/claim/cut.py") 439] } : PySem.Obj)) ::
(nat_lit 206, ⟨.type "function", none, .func (PySem.W.fnOf "need_name" "need_name" (L2.defArgs K20.sNeedN) (L2.defBody K20.sNeedN) (L2.defScope K20.sNeedN) .none .none .none (.str "namewants.names" 407) none (.ref 205) .none), #[]⟩) ::
(nat_lit 212, ({ cls := PySem.Value.type "code", data := PySem.Data.fields #[PySem.Value.str (PySem.Str.ofString "need_beginning") 441, PySem.Value.str (PySem.Str.ofString "need_beginning") 442, PySem.Value.str (PySem.Str.ofString "/claim/cut.py") 443, PySem.Value.int 61 0, PySem.Value.int 1 0, PySem.Value.int 0 0, PySem.Value.int 0 0, PySem.Value.int 3 0, PySem.Value.ref 207, PySem.Value.bool true, PySem.Value.int 181 0, PySem.Value.ref 208, PySem.Value.none, PySem.Value.ref 209, PySem.Value.ref 210, PySem.Value.ref 211, PySem.Value.int 445 0, PySem.Value.int 61 0, PySem.Value.str (PySem.Str.ofString "/claim/cut.py") 446] } : PySem.Obj)) ::
(nat_lit 213, ⟨.type "function", none, .func (PySem.W.fnOf "need_beginning" "need_beginning" (L2.defArgs K20.sNeedB) (L2.defBody K20.sNeedB) (L2.defScope K20.sNeedB) .none .none .none (.str "namewants.names" 407) none (.ref 212) .none), #[]⟩) ::
(nat_lit 226, ({ cls := PySem.Value.type "code", data := PySem.Data.fields #[PySem.Value.str (PySem.Str.ofString "__init__") 462, PySem.Value.str (PySem.Str.ofString "Table.__init__") 463, PySem.Value.str (PySem.Str.ofString "/claim/cut.py") 464, PySem.Value.int 67 0, PySem.Value.int 1 0, PySem.Value.int 0 0, PySem.Value.int 0 0, PySem.Value.int 3 0, PySem.Value.ref 221, PySem.Value.bool true, PySem.Value.int 181 0, PySem.Value.ref 222, PySem.Value.none, PySem.Value.ref 223, PySem.Value.ref 224, PySem.Value.ref 225, PySem.Value.int 466 0, PySem.Value.int 67 0, PySem.Value.str (PySem.Str.ofString "/claim/cut.py") 467] } : PySem.Obj)) ::
(nat_lit 227, ⟨.type "function", none, .func (PySem.W.fnOf "__init__" "Table.__init__" (L2.defArgs K20.sTInit) (L2.defBody K20.sTInit) (L2.defScope K20.sTInit) .none .none .none (.str "namewants.tables" 448) none (.ref 226) .none), #[]⟩) ::
(nat_lit 233, ({ cls := PySem.Value.type "code", data := PySem.Data.fields #[PySem.Value.str (PySem.Str.ofString "put") 469, PySem.Value.str (PySem.Str.ofString "Table.put") 470, PySem.Value.str (PySem.Str.ofString "/claim/cut.py") 471, PySem.Value.int 70 0, PySem.Value.int 3 0, PySem.Value.int 0 0, PySem.Value.int 0 0, PySem.Value.int 3 0, PySem.Value.ref 228, PySem.Value.bool true, PySem.Value.int 181 0, PySem.Value.ref 229, PySem.Value.none, PySem.Value.ref 230, PySem.Value.ref 231, PySem.Value.ref 232, PySem.Value.int 475 0, PySem.Value.int 70 0, PySem.Value.str (PySem.Str.ofString "/claim/cut.py") 476] } : PySem.Obj)) ::
(nat_lit 234, ⟨.type "function", none, .func (PySem.W.fnOf "put" "Table.put" (L2.defArgs K20.sTPut) (L2.defBody K20.sTPut) (L2.defScope K20.sTPut) .none .none .none (.str "namewants.tables" 448) none (.ref 233) .none), #[]⟩) ::
(nat_lit 240, ({ cls := PySem.Value.type "code", data := PySem.Data.fields #[PySem.Value.str (PySem.Str.ofString "drop") 478, PySem.Value.str (PySem.Str.ofString "Table.drop") 479, PySem.Value.str (PySem.Str.ofString "/claim/cut.py") 480, PySem.Value.int 75 0, PySem.Value.int 2 0, PySem.Value.int 0 0, PySem.Value.int 0 0, PySem.Value.int 3 0, PySem.Value.ref 235, PySem.Value.bool true, PySem.Value.int 181 0, PySem.Value.ref 236, PySem.Value.none, PySem.Value.ref 237, PySem.Value.ref 238, PySem.Value.ref 239, PySem.Value.int 483 0, PySem.Value.int 75 0, PySem.Value.str (PySem.Str.ofString "/claim/cut.py") 484] } : PySem.Obj)) ::
(nat_lit 241, ⟨.type "function", none, .func (PySem.W.fnOf "drop" "Table.drop" (L2.defArgs K20.sTDrop) (L2.defBody K20.sTDrop) (L2.defScope K20.sTDrop) .none .none .none (.str "namewants.tables" 448) none (.ref 240) .none), #[]⟩) ::
(nat_lit 247, ({ cls := PySem.Value.type "code", data := PySem.Data.fields #[PySem.Value.str (PySem.Str.ofString "way") 486, PySem.Value.str (PySem.Str.ofString "Table.way") 487, PySem.Value.str (PySem.Str.ofString "/claim/cut.py") 488, PySem.Value.int 81 0, PySem.Value.int 2 0, PySem.Value.int 0 0, PySem.Value.int 0 0, PySem.Value.int 3 0, PySem.Value.ref 242, PySem.Value.bool true, PySem.Value.int 181 0, PySem.Value.ref 243, PySem.Value.none, PySem.Value.ref 244, PySem.Value.ref 245, PySem.Value.ref 246, PySem.Value.int 493 0, PySem.Value.int 81 0, PySem.Value.str (PySem.Str.ofString "/claim/cut.py") 494] } : PySem.Obj)) ::
(nat_lit 248, ⟨.type "function", none, .func (PySem.W.fnOf "way" "Table.way" (L2.defArgs K20.sTWay) (L2.defBody K20.sTWay) (L2.defScope K20.sTWay) .none .none .none (.str "namewants.tables" 448) none (.ref 247) .none), #[]⟩) ::
(nat_lit 254, ({ cls := PySem.Value.type "code", data := PySem.Data.fields #[PySem.Value.str (PySem.Str.ofString "sides") 496, PySem.Value.str (PySem.Str.ofString "Table.sides") 497, PySem.Value.str (PySem.Str.ofString "/claim/cut.py") 498, PySem.Value.int 89 0, PySem.Value.int 2 0, PySem.Value.int 0 0, PySem.Value.int 0 0, PySem.Value.int 3 0, PySem.Value.ref 249, PySem.Value.bool true, PySem.Value.int 181 0, PySem.Value.ref 250, PySem.Value.none, PySem.Value.ref 251, PySem.Value.ref 252, PySem.Value.ref 253, PySem.Value.int 502 0, PySem.Value.int 89 0, PySem.Value.str (PySem.Str.ofString "/claim/cut.py") 503] } : PySem.Obj)) ::
(nat_lit 255, ⟨.type "function", none, .func (PySem.W.fnOf "sides" "Table.sides" (L2.defArgs K20.sTSides) (L2.defBody K20.sTSides) (L2.defScope K20.sTSides) .none .none .none (.str "namewants.tables" 448) none (.ref 254) .none), #[]⟩) ::
(nat_lit 259, ({ cls := PySem.Value.type "code", data := PySem.Data.fields #[PySem.Value.str (PySem.Str.ofString "rows") 505, PySem.Value.str (PySem.Str.ofString "Table.rows") 506, PySem.Value.str (PySem.Str.ofString "/claim/cut.py") 507, PySem.Value.int 93 0, PySem.Value.int 1 0, PySem.Value.int 0 0, PySem.Value.int 0 0, PySem.Value.int 3 0, PySem.Value.ref 256, PySem.Value.bool true, PySem.Value.int 181 0, PySem.Value.ref 257, PySem.Value.none, PySem.Value.none, PySem.Value.none, PySem.Value.ref 258, PySem.Value.int 508 0, PySem.Value.int 93 0, PySem.Value.str (PySem.Str.ofString "/claim/cut.py") 509] } : PySem.Obj)) ::
(nat_lit 260, ⟨.type "function", none, .func (PySem.W.fnOf "rows" "Table.rows" (L2.defArgs K20.sTRows) (L2.defBody K20.sTRows) (L2.defScope K20.sTRows) .none .none .none (.str "namewants.tables" 448) none (.ref 259) .none), #[]⟩) ::
(nat_lit 280, ({ cls := PySem.Value.type "code", data := PySem.Data.fields #[PySem.Value.str (PySem.Str.ofString "__len__") 526, PySem.Value.str (PySem.Str.ofString "Table.__len__") 527, PySem.Value.str (PySem.Str.ofString "/claim/cut.py") 528, PySem.Value.int 102 0, PySem.Value.int 1 0, PySem.Value.int 0 0, PySem.Value.int 0 0, PySem.Value.int 3 0, PySem.Value.ref 275, PySem.Value.bool true, PySem.Value.int 181 0, PySem.Value.ref 276, PySem.Value.none, PySem.Value.ref 277, PySem.Value.ref 278, PySem.Value.ref 279, PySem.Value.int 530 0, PySem.Value.int 102 0, PySem.Value.str (PySem.Str.ofString "/claim/cut.py") 531] } : PySem.Obj)) ::
(nat_lit 281, ⟨.type "function", none, .func (PySem.W.fnOf "__len__" "Table.__len__" (L2.defArgs K20.sTLen) (L2.defBody K20.sTLen) (L2.defScope K20.sTLen) .none .none .none (.str "namewants.tables" 448) none (.ref 280) .none), #[]⟩) ::
(nat_lit 287, ({ cls := PySem.Value.type "code", data := PySem.Data.fields #[PySem.Value.str (PySem.Str.ofString "__eq__") 533, PySem.Value.str (PySem.Str.ofString "Table.__eq__") 534, PySem.Value.str (PySem.Str.ofString "/claim/cut.py") 535, PySem.Value.int 105 0, PySem.Value.int 2 0, PySem.Value.int 0 0, PySem.Value.int 0 0, PySem.Value.int 3 0, PySem.Value.ref 282, PySem.Value.bool true, PySem.Value.int 181 0, PySem.Value.ref 283, PySem.Value.none, PySem.Value.ref 284, PySem.Value.ref 285, PySem.Value.ref 286, PySem.Value.int 538 0, PySem.Value.int 105 0, PySem.Value.str (PySem.Str.ofString "/claim/cut.py") 539] } : PySem.Obj)) ::
(nat_lit 288, ⟨.type "function", none, .func (PySem.W.fnOf "__eq__" "Table.__eq__" (L2.defArgs K20.sTEq) (L2.defBody K20.sTEq) (L2.defScope K20.sTEq) .none .none .none (.str "namewants.tables" 448) none (.ref 287) .none), #[]⟩) ::
(nat_lit 290, ({ cls := PySem.Value.type "dict", data := PySem.Data.dict #[{ hash := PySem.PyData.keyHash P (PySem.Str.ofString "__module__"), key := PySem.Value.str (PySem.Str.ofString "__module__") 457, val := PySem.Value.str (PySem.Str.ofString "namewants.tables") 448 }, { hash := PySem.PyData.keyHash P (PySem.Str.ofString "__firstlineno__"), key := PySem.Value.str (PySem.Str.ofString "__firstlineno__") 461, val := PySem.Value.int 65 460 }, { hash := PySem.PyData.keyHash P (PySem.Str.ofString "__init__"), key := PySem.Value.str (PySem.Str.ofString "__init__") 468, val := PySem.Value.ref 227 }, { hash := PySem.PyData.keyHash P (PySem.Str.ofString "put"), key := PySem.Value.str (PySem.Str.ofString "put") 477, val := PySem.Value.ref 234 }, { hash := PySem.PyData.keyHash P (PySem.Str.ofString "drop"), key := PySem.Value.str (PySem.Str.ofString "drop") 485, val := PySem.Value.ref 241 }, { hash := PySem.PyData.keyHash P (PySem.Str.ofString "way"), key := PySem.Value.str (PySem.Str.ofString "way") 495, val := PySem.Value.ref 248 }, { hash := PySem.PyData.keyHash P (PySem.Str.ofString "sides"), key := PySem.Value.str (PySem.Str.ofString "sides") 504, val := PySem.Value.ref 255 }, { hash := PySem.PyData.keyHash P (PySem.Str.ofString "rows"), key := PySem.Value.str (PySem.Str.ofString "rows") 510, val := PySem.Value.ref 260 }, { hash := PySem.PyData.keyHash P (PySem.Str.ofString "parted"), key := PySem.Value.str (PySem.Str.ofString "parted") 518, val := PySem.Value.ref 267 }, { hash := PySem.PyData.keyHash P (PySem.Str.ofString "lean"), key := PySem.Value.str (PySem.Str.ofString "lean") 525, val := PySem.Value.ref 274 }, { hash := PySem.PyData.keyHash P (PySem.Str.ofString "__len__"), key := PySem.Value.str (PySem.Str.ofString "__len__") 532, val := PySem.Value.ref 281 }, { hash := PySem.PyData.keyHash P (PySem.Str.ofString "__eq__"), key := PySem.Value.str (PySem.Str.ofString "__eq__") 540, val := PySem.Value.ref 288 }, { hash := PySem.PyData.keyHash P (PySem.Str.ofString "__static_attributes__"), key := PySem.Value.str (PySem.Str.ofString "__static_attributes__") 542, val := PySem.Value.ref 289 }, { hash := PySem.PyData.keyHash P (PySem.Str.ofString "__dict__"), key := PySem.Value.str (PySem.Str.ofString "__dict__") 544, val := PySem.Value.ref 292 }, { hash := PySem.PyData.keyHash P (PySem.Str.ofString "__weakref__"), key := PySem.Value.str (PySem.Str.ofString "__weakref__") 546, val := PySem.Value.ref 293 }, { hash := PySem.PyData.keyHash P (PySem.Str.ofString "__doc__"), key := PySem.Value.str (PySem.Str.ofString "__doc__") 547, val := PySem.Value.none }, { hash := PySem.PyData.keyHash P (PySem.Str.ofString "__hash__"), key := PySem.Value.str (PySem.Str.ofString "__hash__") 548, val := PySem.Value.none }] 5 } : PySem.Obj)) ::
(nat_lit 291, ({ cls := PySem.Value.type "type", data := PySem.Data.cls { name := PySem.Str.ofString "Table", bases := [PySem.Value.type "object"], mro := [PySem.Value.ref 291, PySem.Value.type "object"], ns := 290, qualname := PySem.Str.ofString "Table" }, slots := #[none, none, some (PySem.Value.str (PySem.Str.ofString "Table") 450), some (PySem.Value.str (PySem.Str.ofString "Table") 458), some (PySem.Value.builtin "object.__new__"), some (PySem.Value.bool true)] } : PySem.Obj)) ::
(nat_lit 301, ({ cls := PySem.Value.type "code", data := PySem.Data.fields #[PySem.Value.str (PySem.Str.ofString "_law_cell") 553, PySem.Value.str (PySem.Str.ofString "_law_cell") 554, PySem.Value.str (PySem.Str.ofString "/claim/cut.py") 555, PySem.Value.int 108 0, PySem.Value.int 2 0, PySem.Value.int 0 0, PySem.Value.int 0 0, PySem.Value.int 3 0, PySem.Value.ref 296, PySem.Value.bool true, PySem.Value.int 181 0, PySem.Value.ref 297, PySem.Value.none, PySem.Value.ref 298, PySem.Value.ref 299, PySem.Value.ref 300, PySem.Value.int 558 0, PySem.Value.int 108 0, PySem.Value.str (PySem.Str.ofString "/claim/cut.py") 559] } : PySem.Obj)) ::
(nat_lit 302, ⟨.type "function", none, .func (PySem.W.fnOf "_law_cell" "_law_cell" (L2.defArgs K20.sCell) (L2.defBody K20.sCell) (L2.defScope K20.sCell) .none .none .none (.str "law_namewants_k20_whole_tables" 551) none (.ref 301) .none), #[]⟩) ::
(nat_lit 308, ({ cls := PySem.Value.type "code", data := PySem.Data.fields #[PySem.Value.str (PySem.Str.ofString "_law_drawn") 561, PySem.Value.str (PySem.Str.ofString "_law_drawn") 562, PySem.Value.str (PySem.Str.ofString "/claim/cut.py") 563, PySem.Value.int 112 0, PySem.Value.int 2 0, PySem.Value.int 0 0, PySem.Value.int 0 0, PySem.Value.int 3 0, PySem.Value.ref 303, PySem.Value.bool true, PySem.Value.int 181 0, PySem.Value.ref 304, PySem.Value.none, PySem.Value.ref 305, PySem.Value.ref 306, PySem.Value.ref 307, PySem.Value.int 567 0, PySem.Value.int 112 0, PySem.Value.str (PySem.Str.ofString "/claim/cut.py") 568] } : PySem.Obj)) ::
(nat_lit 309, ⟨.type "function", none, .func (PySem.W.fnOf "_law_drawn" "_law_drawn" (L2.defArgs K20.sDrawn) (L2.defBody K20.sDrawn) (L2.defScope K20.sDrawn) .none .none .none (.str "law_namewants_k20_whole_tables" 551) none (.ref 308) .none), #[]⟩) ::
(nat_lit 315, ({ cls := PySem.Value.type "code", data := PySem.Data.fields #[PySem.Value.str (PySem.Str.ofString "_law_roll") 570, PySem.Value.str (PySem.Str.ofString "_law_roll") 571, PySem.Value.str (PySem.Str.ofString "/claim/cut.py") 572, PySem.Value.int 117 0, PySem.Value.int 2 0, PySem.Value.int 0 0, PySem.Value.int 0 0, PySem.Value.int 3 0, PySem.Value.ref 310, PySem.Value.bool true, PySem.Value.int 181 0, PySem.Value.ref 311, PySem.Value.none, PySem.Value.ref 312, PySem.Value.ref 313, PySem.Value.ref 314, PySem.Value.int 576 0, PySem.Value.int 117 0, PySem.Value.str (PySem.Str.ofString "/claim/cut.py") 577] } : PySem.Obj)) ::
(nat_lit 316, ⟨.type "function", none, .func (PySem.W.fnOf "_law_roll" "_law_roll" (L2.defArgs K20.sRoll) (L2.defBody K20.sRoll) (L2.defScope K20.sRoll) .none .none .none (.str "law_namewants_k20_whole_tables" 551) none (.ref 315) .none), #[]⟩) ::
(nat_lit 320, ({ cls := PySem.Value.type "code", data := PySem.Data.fields #[PySem.Value.str (PySem.Str.ofString "_law_rounds") 579, PySem.Value.str (PySem.Str.ofString "_law_rounds") 580, PySem.Value.str (PySem.Str.ofString "/claim/cut.py") 581, PySem.Value.int 124 0, PySem.Value.int 2 0, PySem.Value.int 0 0, PySem.Value.int 0 0, PySem.Value.int 3 0, PySem.Value.ref 317, PySem.Value.bool true, PySem.Value.int 181 0, PySem.Value.ref 318, PySem.Value.none, PySem.Value.none, PySem.Value.none, PySem.Value.ref 319, PySem.Value.int 582 0, PySem.Value.int 124 0, PySem.Value.str (PySem.Str.ofString "/claim/cut.py") 583] } : PySem.Obj)) ::
(nat_lit 321, ⟨.type "function", none, .func (PySem.W.fnOf "_law_rounds" "_law_rounds" (L2.defArgs K20.sRounds) (L2.defBody K20.sRounds) (L2.defScope K20.sRounds) .none .none .none (.str "law_namewants_k20_whole_tables" 551) none (.ref 320) .none), #[]⟩) ::
(nat_lit 325, ({ cls := PySem.Value.type "code", data := PySem.Data.fields #[PySem.Value.str (PySem.Str.ofString "_law_word") 585, PySem.Value.str (PySem.Str.ofString "_law_word") 586, PySem.Value.str (PySem.Str.ofString "/claim/cut.py") 587, PySem.Value.int 126 0, PySem.Value.int 1 0, PySem.Value.int 0 0, PySem.Value.int 0 0, PySem.Value.int 3 0, PySem.Value.ref 322, PySem.Value.bool true, PySem.Value.int 181 0, PySem.Value.ref 323, PySem.Value.none, PySem.Value.none, PySem.Value.none, PySem.Value.ref 324, PySem.Value.int 588 0, PySem.Value.int 126 0, PySem.Value.str (PySem.Str.ofString "/claim/cut.py") 589] } : PySem.Obj)) ::
(nat_lit 326, ⟨.type "function", none, .func (PySem.W.fnOf "_law_word" "_law_word" (L2.defArgs K20.sWord) (L2.defBody K20.sWord) (L2.defScope K20.sWord) .none .none .none (.str "law_namewants_k20_whole_tables" 551) none (.ref 325) .none), #[]⟩) ::
(nat_lit 332, ({ cls := PySem.Value.type "code", data := PySem.Data.fields #[PySem.Value.str (PySem.Str.ofString "_law_told") 591, PySem.Value.str (PySem.Str.ofString "_law_told") 592, PySem.Value.str (PySem.Str.ofString "/claim/cut.py") 593, PySem.Value.int 134 0, PySem.Value.int 1 0, PySem.Value.int 0 0, PySem.Value.int 0 0, PySem.Value.int 3 0, PySem.Value.ref 327, PySem.Value.bool true, PySem.Value.int 181 0, PySem.Value.ref 328, PySem.Value.none, PySem.Value.ref 329, PySem.Value.ref 330, PySem.Value.ref 331, PySem.Value.int 596 0, PySem.Value.int 134 0, PySem.Value.str (PySem.Str.ofString "/claim/cut.py") 597] } : PySem.Obj)) ::
(nat_lit 333, ⟨.type "function", none, .func (PySem.W.fnOf "_law_told" "_law_told" (L2.defArgs K20.sTold) (L2.defBody K20.sTold) (L2.defScope K20.sTold) .none .none .none (.str "law_namewants_k20_whole_tables" 551) none (.ref 332) .none), #[]⟩) ::
(nat_lit 337, ({ cls := PySem.Value.type "code", data := PySem.Data.fields #[PySem.Value.str (PySem.Str.ofString "_law_head") 599, PySem.Value.str (PySem.Str.ofString "_law_head") 600, PySem.Value.str (PySem.Str.ofString "/claim/cut.py") 601, PySem.Value.int 139 0, PySem.Value.int 1 0, PySem.Value.int 0 0, PySem.Value.int 0 0, PySem.Value.int 3 0, PySem.Value.ref 334, PySem.Value.bool true, PySem.Value.int 181 0, PySem.Value.ref 335, PySem.Value.none, PySem.Value.none, PySem.Value.none, PySem.Value.ref 336, PySem.Value.int 602 0, PySem.Value.int 139 0, PySem.Value.str (PySem.Str.ofString "/claim/cut.py") 603] } : PySem.Obj)) ::
(nat_lit 338, ⟨.type "function", none, .func (PySem.W.fnOf "_law_head" "_law_head" (L2.defArgs K20.sHead) (L2.defBody K20.sHead) (L2.defScope K20.sHead) .none .none .none (.str "law_namewants_k20_whole_tables" 551) none (.ref 337) .none), #[]⟩) ::
(nat_lit 344, ({ cls := PySem.Value.type "code", data := PySem.Data.fields #[PySem.Value.str (PySem.Str.ofString "_law_any_name") 605, PySem.Value.str (PySem.Str.ofString "_law_any_name") 606, PySem.Value.str (PySem.Str.ofString "/claim/cut.py") 607, PySem.Value.int 142 0, PySem.Value.int 1 0, PySem.Value.int 0 0, PySem.Value.int 0 0, PySem.Value.int 3 0, PySem.Value.ref 339, PySem.Value.bool true, PySem.Value.int 181 0, PySem.Value.ref 340, PySem.Value.none, PySem.Value.ref 341, PySem.Value.ref 342, PySem.Value.ref 343, PySem.Value.int 609 0, PySem.Value.int 142 0, PySem.Value.str (PySem.Str.ofString "/claim/cut.py") 610] } : PySem.Obj)) ::
(nat_lit 345, ⟨.type "function", none, .func (PySem.W.fnOf "_law_any_name" "_law_any_name" (L2.defArgs K20.sAny) (L2.defBody K20.sAny) (L2.defScope K20.sAny) .none .none .none (.str "law_namewants_k20_whole_tables" 551) none (.ref 344) .none), #[]⟩) ::
(nat_lit 351, ({ cls := PySem.Value.type "code", data := PySem.Data.fields #[PySem.Value.str (PySem.Str.ofString "_law_some_sides") 612, PySem.Value.str (PySem.Str.ofString "_law_some_sides") 613, PySem.Value.str (PySem.Str.ofString "/claim/cut.py") 614, PySem.Value.int 144 0, PySem.Value.int 2 0, PySem.Value.int 0 0, PySem.Value.int 0 0, PySem.Value.int 3 0, PySem.Value.ref 346, PySem.Value.bool true, PySem.Value.int 181 0, PySem.Value.ref 347, PySem.Value.none, PySem.Value.ref 348, PySem.Value.ref 349, PySem.Value.ref 350, PySem.Value.int 619 0, PySem.Value.int 144 0, PySem.Value.str (PySem.Str.ofString "/claim/cut.py") 620] } : PySem.Obj)) ::
(nat_lit 352, ⟨.type "function", none, .func (PySem.W.fnOf "_law_some_sides" "_law_some_sides" (L2.defArgs K20.sSome) (L2.defBody K20.sSome) (L2.defScope K20.sSome) .none .none .none (.str "law_namewants_k20_whole_tables" 551) none (.ref 351) .none), #[]⟩) ::
(nat_lit 356, ({ cls := PySem.Value.type "code", data := PySem.Data.fields #[PySem.Value.str (PySem.Str.ofString "_law_longest") 622, PySem.Value.str (PySem.Str.ofString "_law_longest") 623, PySem.Value.str (PySem.Str.ofString "/claim/cut.py") 624, PySem.Value.int 150 0, PySem.Value.int 2 0, PySem.Value.int 0 0, PySem.Value.int 0 0, PySem.Value.int 3 0, PySem.Value.ref 353, PySem.Value.bool true, PySem.Value.int 181 0, PySem.Value.ref 354, PySem.Value.none, PySem.Value.none, PySem.Value.none, PySem.Value.ref 355, PySem.Value.int 625 0, PySem.Value.int 150 0, PySem.Value.str (PySem.Str.ofString "/claim/cut.py") 626] } : PySem.Obj)) ::
(nat_lit 357, ⟨.type "function", none, .func (PySem.W.fnOf "_law_longest" "_law_longest" (L2.defArgs K20.sLongest) (L2.defBody K20.sLongest) (L2.defScope K20.sLongest) .none .none .none (.str "law_namewants_k20_whole_tables" 551) none (.ref 356) .none), #[]⟩) ::
(nat_lit 363, ({ cls := PySem.Value.type "code", data := PySem.Data.fields #[PySem.Value.str (PySem.Str.ofString "_law_found") 628, PySem.Value.str (PySem.Str.ofString "_law_found") 629, PySem.Value.str (PySem.Str.ofString "/claim/cut.py") 630, PySem.Value.int 153 0, PySem.Value.int 2 0, PySem.Value.int 0 0, PySem.Value.int 0 0, PySem.Value.int 3 0, PySem.Value.ref 358, PySem.Value.bool true, PySem.Value.int 181 0, PySem.Value.ref 359, PySem.Value.none, PySem.Value.ref 360, PySem.Value.ref 361, PySem.Value.ref 362, PySem.Value.int 634 0, PySem.Value.int 153 0, PySem.Value.str (PySem.Str.ofString "/claim/cut.py") 635] } : PySem.Obj)) ::
(nat_lit 364, ⟨.type "function", none, .func (PySem.W.fnOf "_law_found" "_law_found" (L2.defArgs K20.sFound) (L2.defBody K20.sFound) (L2.defScope K20.sFound) .none .none .none (.str "law_namewants_k20_whole_tables" 551) none (.ref 363) .none), #[]⟩) ::
(nat_lit 368, ({ cls := PySem.Value.type "code", data := PySem.Data.fields #[PySem.Value.str (PySem.Str.ofString "law") 637, PySem.Value.str (PySem.Str.ofString "law") 638, PySem.Value.str (PySem.Str.ofString "/claim/cut.py") 639, PySem.Value.int 156 0, PySem.Value.int 1 0, PySem.Value.int 0 0, PySem.Value.int 0 0, PySem.Value.int 3 0, PySem.Value.ref 365, PySem.Value.bool true, PySem.Value.int 181 0, PySem.Value.ref 366, PySem.Value.none, PySem.Value.none, PySem.Value.none, PySem.Value.ref 367, PySem.Value.int 640 0, PySem.Value.int 156 0, PySem.Value.str (PySem.Str.ofString "/claim/cut.py") 641] } : PySem.Obj)) ::
(nat_lit 369, ⟨.type "function", none, .func (PySem.W.fnOf "law" "law" (L2.defArgs K20.sLaw) (L2.defBody K20.sLaw) (L2.defScope K20.sLaw) .none .none .none (.str "law_namewants_k20_whole_tables" 551) none (.ref 368) .none), #[]⟩) :: []
noncomputable def PySem.W.Fast.tw1146950406425231276 : PySem.Params → PySem.W.Frag := K20.Kf
theorem PySem.W.Fast.te1146950406425231276 : K20.Kf = PySem.W.Fast.tw1146950406425231276 := rfl
open PySem PySem.W PyProof.Rows
set_option maxRecDepth 100000 in
set_option maxHeartbeats 0 in
theorem PySem.Challenge.cw_namewants_k20_whole_tables_holds : PySem.Challenge.rw_namewants_k20_whole_tables.Holds := by
  w_on; o_law; (o_head (kmHook K20.Kf [2, 3, 30, 31, 43, 44, 55, 56, 67, 68, 79, 80, 91, 92, 103, 104, 115, 116, 134, 135, 146, 147, 155, 156, 162, 163, 169, 170, 174, 175, 181, 182, 186, 187, 191, 192, 198, 199, 205, 206, 212, 213, 226, 227, 233, 234, 240, 241, 247, 248, 254, 255, 259, 260, 280, 281, 287, 288, 290, 291, 301, 302, 308, 309, 315, 316, 320, 321, 325, 326, 332, 333, 337, 338, 344, 345, 351, 352, 356, 357, 363, 364, 368, 369] (fun _ => by kernel_rfl) [366, 354])); (case hw => w_witness2)
  k_fill
  refine K20.walk (l := PySem.Challenge.rw_namewants_k20_whole_tables) 368 366 356 354 (by decide) rfl rfl (fun w h Y => PySem.W.km_in_of Y) (fun w h Y => PySem.W.km_tabs_of Y _ (by simp)) (fun w => by kernel_rfl) (fun w => by kernel_rfl) (fun w h Y => PySem.W.km_tabs_of Y _ (by simp)) (fun w => by kernel_rfl) (fun w => by kernel_rfl) ?F
  case F =>
    intro w mg fa h KX G hmg
    refine' K20.all_mk KX G hmg ?aCk ?a1 ?l1 ?c1d ?k1 ?a2 ?l2 ?c2d ?k2 ?a3 ?l3 ?c3d ?k3 ?a4 ?l4 ?c4d ?k4 ?a5 ?l5 ?c5d ?k5 ?a6 ?l6 ?c6d ?k6 ?a7 ?l7 ?c7d ?k7 ?a8 ?l8 ?c8d ?k8 ?a9 ?l9 ?c9d ?k9 ?a10 ?l10 ?c10d ?k10 ?a11 ?l11 ?c11d ?k11 ?a12 ?l12 ?c12d ?k12 ?a13 ?l13 ?c13d ?k13 ?a14 ?l14 ?c14d ?k14 ?a15 ?l15 ?c15d ?k15 ?a16 ?l16 ?c16d ?k16 ?a17 ?l17 ?c17d ?k17 ?a18 ?l18 ?c18d ?k18 ?a19 ?l19 ?c19d ?k19 ?a20 ?l20 ?c20d ?k20 ?a21 ?l21 ?c21d ?k21 ?a22 ?l22 ?c22d ?k22 ?ak1 ?ik1 ?lk1 ?ck1d ?kk1 ?ak2 ?ik2 ?lk2 ?ck2d ?kk2 ?ak3 ?ik3 ?lk3 ?ck3d ?kk3 ?ak4 ?ik4 ?lk4 ?ck4d ?kk4 ?ak5 ?ik5 ?lk5 ?ck5d ?kk5 ?ak6 ?ik6 ?lk6 ?ck6d ?kk6 ?ak7 ?ik7 ?lk7 ?ck7d ?kk7 ?ak8 ?ik8 ?lk8 ?ck8d ?kk8 ?pgk ?hdk ?pok ?sak ?mkk ?kck ?nk0 ?gc0 ?gc1 ?gc2 ?gc3 ?zn0 ?zn1 ?zn2 ?zn3 ?zn4 ?zn5 ?zn6 ?zn7 ?zn8 ?zn9 ?zn10 ?zn11 ?zn12 ?zn13 ?zn14 ?ea0 ?et0 ?ec0 ?ea1 ?et1 ?ec1 ?ea2 ?et2 ?ec2 ?ea3 ?et3 ?ec3 ?ea4 ?et4 ?ec4 ?ea5 ?et5 ?ec5 ?ea6 ?et6 ?ec6 ?ea7 ?et7 ?ec7 ?ea8 ?et8 ?ec8 ?eaW ?etW ?ecW ?ebW ?egn ?etk ?elW ?eNW ?eKW ?el0 ?eN0 ?eK0 ?eg0 ?eh0 ?ek0 ?eo0 ?eb0 ?es00 ?es01 ?es02 ?es03 ?es04 ?es05 ?es06 ?es07 ?es08 ?en01 ?en02 ?en03 ?en04 ?en05 ?en06 ?en07 ?en08 ?es0W ?es0V ?lcode ?vP ?vC ?lcodel ?vPl ?vCl ?xl ?xN ?xt ?xe ?xm ?xf ?xh ?xo ?xc ?xy ?xs
    (case aCk => k_is)
    (case a1 => k_is)
    (case l1 => k_is)
    (case c1d => k_is)
    (case k1 => k_is)
    (case a2 => k_is)
    (case l2 => k_is)
    (case c2d => k_is)
    (case k2 => k_is)
    (case a3 => k_is)
    (case l3 => k_is)
    (case c3d => k_is)
    (case k3 => k_is)
    (case a4 => k_is)
    (case l4 => k_is)
    (case c4d => k_is)
    (case k4 => k_is)
    (case a5 => k_is)
    (case l5 => k_is)
    (case c5d => k_is)
    (case k5 => k_is)
    (case a6 => k_is)
    (case l6 => k_is)
    (case c6d => k_is)
    (case k6 => k_is)
    (case a7 => k_is)
    (case l7 => k_is)
    (case c7d => k_is)
    (case k7 => k_is)
    (case a8 => k_is)
    (case l8 => k_is)
    (case c8d => k_is)
    (case k8 => k_is)
    (case a9 => k_is)
    (case l9 => k_is)
    (case c9d => k_is)
    (case k9 => k_is)
    (case a10 => k_is)
    (case l10 => k_is)
    (case c10d => k_is)
    (case k10 => k_is)
    (case a11 => k_is)
    (case l11 => k_is)
    (case c11d => k_is)
    (case k11 => k_is)
    (case a12 => k_is)
    (case l12 => k_is)
    (case c12d => k_is)
    (case k12 => k_is)
    (case a13 => k_is)
    (case l13 => k_is)
    (case c13d => k_is)
    (case k13 => k_is)
    (case a14 => k_is)
    (case l14 => k_is)
    (case c14d => k_is)
    (case k14 => k_is)
    (case a15 => k_is)
    (case l15 => k_is)
    (case c15d => k_is)
    (case k15 => k_is)
    (case a16 => k_is)
    (case l16 => k_is)
    (case c16d => k_is)
    (case k16 => k_is)
    (case a17 => k_is)
    (case l17 => k_is)
    (case c17d => k_is)
    (case k17 => k_is)
    (case a18 => k_is)
    (case l18 => k_is)
    (case c18d => k_is)
    (case k18 => k_is)
    (case a19 => k_is)
    (case l19 => k_is)
    (case c19d => k_is)
    (case k19 => k_is)
    (case a20 => k_is)
    (case l20 => k_is)
    (case c20d => k_is)
    (case k20 => k_is)
    (case a21 => k_is)
    (case l21 => k_is)
    (case c21d => k_is)
    (case k21 => k_is)
    (case a22 => k_is)
    (case l22 => k_is)
    (case c22d => k_is)
    (case k22 => k_is)
    (case ak1 => k_is)
    (case ik1 => k_is)
    (case lk1 => k_is)
    (case ck1d => k_is)
    (case kk1 => k_is)
    (case ak2 => k_is)
    (case ik2 => k_is)
    (case lk2 => k_is)
    (case ck2d => k_is)
    (case kk2 => k_is)
    (case ak3 => k_is)
    (case ik3 => k_is)
    (case lk3 => k_is)
    (case ck3d => k_is)
    (case kk3 => k_is)
    (case ak4 => k_is)
    (case ik4 => k_is)
    (case lk4 => k_is)
    (case ck4d => k_is)
    (case kk4 => k_is)
    (case ak5 => k_is)
    (case ik5 => k_is)
    (case lk5 => k_is)
    (case ck5d => k_is)
    (case kk5 => k_is)
    (case ak6 => k_is)
    (case ik6 => k_is)
    (case lk6 => k_is)
    (case ck6d => k_is)
    (case kk6 => k_is)
    (case ak7 => k_is)
    (case ik7 => k_is)
    (case lk7 => k_is)
    (case ck7d => k_is)
    (case kk7 => k_is)
    (case ak8 => k_is)
    (case ik8 => k_is)
    (case lk8 => k_is)
    (case ck8d => k_is)
    (case kk8 => k_is)
    (case pgk => k_is)
    (case hdk => k_is)
    (case pok => k_is)
    (case sak => k_is)
    (case mkk => k_is)
    (case kck => k_is)
    (case nk0 => k_is)
    (case gc0 => k_is)
    (case gc1 => k_is)
    (case gc2 => k_is)
    (case gc3 => k_is)
    (case zn0 => k_is)
    (case zn1 => k_is)
    (case zn2 => k_is)
    (case zn3 => k_is)
    (case zn4 => k_is)
    (case zn5 => k_is)
    (case zn6 => k_is)
    (case zn7 => k_is)
    (case zn8 => k_is)
    (case zn9 => k_is)
    (case zn10 => k_is)
    (case zn11 => k_is)
    (case zn12 => k_is)
    (case zn13 => k_is)
    (case zn14 => k_is)
    (case ea0 => k_is)
    (case et0 => k_is)
    (case ec0 => k_is)
    (case ea1 => k_is)
    (case et1 => k_is)
    (case ec1 => k_is)
    (case ea2 => k_is)
    (case et2 => k_is)
    (case ec2 => k_is)
    (case ea3 => k_is)
    (case et3 => k_is)
    (case ec3 => k_is)
    (case ea4 => k_is)
    (case et4 => k_is)
    (case ec4 => k_is)
    (case ea5 => k_is)
    (case et5 => k_is)
    (case ec5 => k_is)
    (case ea6 => k_is)
    (case et6 => k_is)
    (case ec6 => k_is)
    (case ea7 => k_is)
    (case et7 => k_is)
    (case ec7 => k_is)
    (case ea8 => k_is)
    (case et8 => k_is)
    (case ec8 => k_is)
    (case eaW => k_is)
    (case etW => k_is)
    (case ecW => k_is)
    (case ebW => k_is)
    (case egn => k_is)
    (case etk => k_is)
    (case elW => k_is)
    (case eNW => k_is)
    (case eKW => rfl)
    (case el0 => k_is)
    (case eN0 => k_is)
    (case eK0 => rfl)
    (case eg0 => k_is)
    (case eh0 => k_is)
    (case ek0 => k_is)
    (case eo0 => k_is)
    (case eb0 => k_is)
    (case es00 => k_is)
    (case es01 => k_is)
    (case es02 => k_is)
    (case es03 => k_is)
    (case es04 => k_is)
    (case es05 => k_is)
    (case es06 => k_is)
    (case es07 => k_is)
    (case es08 => k_is)
    (case en01 => rfl)
    (case en02 => rfl)
    (case en03 => rfl)
    (case en04 => rfl)
    (case en05 => rfl)
    (case en06 => rfl)
    (case en07 => rfl)
    (case en08 => rfl)
    (case es0W => k_is)
    (case es0V => k_is)
    (case lcode => k_is)
    (case vP => rfl)
    (case vC => rfl)
    (case lcodel => k_is)
    (case vPl => rfl)
    (case vCl => rfl)
    (case xl => k_is)
    (case xN => k_is)
    (case xt => rfl)
    (case xe => rfl)
    (case xm => rfl)
    (case xf => rfl)
    (case xh => k_is)
    (case xo => k_is)
    (case xc => k_is)
    (case xy => k_is)
    (case xs => k_is)
#print axioms PySem.Challenge.cw_namewants_k20_whole_tables_holds
end
