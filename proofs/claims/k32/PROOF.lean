import PyProof.Rows.All
import Wide.All
import OpenK.AllK
import Wide.FinOn
import Lean
import PyProof.EqAt
import PyProof.EqKinds
import PyProof.TupleCall
import KE.KRevIter
import PyProof.EnumStmt
import PyProof.EnumFor
import PyProof.EnumMake
import PyProof.Rows.SeqMore
import KE.KDictList
import KE.KMinKey
import PyProof.WalkInts
import PyProof.Rows.CallKwBuiltin
import PyProof.MeetsSeq
import PyProof.Rows.SetFrom
import PyProof.SetRoads
import KE.KTryMore
import KE.RegKIsAll
import KE.RegKTryMore
import PyProof.NsDelKeeps
import PyProof.RulesAs
import PyProof.ExcBaseAll.ValueError
import PyProof.ExcArgsOwn
import PyProof.ExcAttrAll.ValueError
import PyProof.ListMulRoad
import PyProof.NeKinds
import PyProof.IsRules
import PyProof.ConsumeWalk
import PyProof.SumAny
import PySem.Challenge.RW_spentonce_k32_tree_refused
set_option Elab.async false
set_option linter.all false
set_option maxRecDepth 100000
set_option maxHeartbeats 4000000
namespace L2
open PySem PySem.Spec PyProof.Rows

noncomputable abbrev Key := Sum Int Str
noncomputable def keyIs : Key → Value → Bool
  | .inl k, v => Value.isInt k v
  | .inr x, v => Value.isStrOf x v
noncomputable def keyH (w : World) : Key → Int
  | .inl k => hashInt k
  | .inr x => hashStr w x
theorem keyIs_shape : ∀ {k : Key} {v : Value}, keyIs k v = true → (∃ i t, k = Sum.inl i ∧ v = Value.int i t) ∨ (∃ x t, k = Sum.inr x ∧ v = Value.str x t)
  | .inl i, v, h => by
    obtain ⟨t, e⟩ := Value.isInt_shape (k := i) (v := v) h
    exact .inl ⟨i, t, rfl, e⟩
  | .inr x, v, h => by
    obtain ⟨t, e⟩ := Value.isStrOf_shape (x := x) (v := v) h
    exact .inr ⟨x, t, rfl, e⟩
theorem keyIs_int (i : Int) (t : Tok) : keyIs (.inl i) (.int i t) = true := by simp [keyIs, Value.isInt]
theorem keyIs_str (x : Str) (t : Tok) : keyIs (.inr x) (.str x t) = true := by simp [keyIs, Value.isStrOf]
theorem key_ll (a b : Int) : decide ((Sum.inl a : Key) = Sum.inl b) = (a == b) := by
  by_cases e : a = b
  · subst e; simp
  · have h : ¬ (Sum.inl a : Key) = Sum.inl b := fun q => e (Sum.inl.inj q)
    rw [decide_eq_false h]
    exact (beq_eq_false_iff_ne.mpr e).symm
theorem key_rr (a b : Str) : decide ((Sum.inr a : Key) = Sum.inr b) = decide (a = b) := by
  by_cases e : a = b
  · subst e; simp
  · have h : ¬ (Sum.inr a : Key) = Sum.inr b := fun q => e (Sum.inr.inj q)
    rw [decide_eq_false h, decide_eq_false e]
theorem key_lr (a : Int) (b : Str) : decide ((Sum.inl a : Key) = Sum.inr b) = false := decide_eq_false (fun q => nomatch q)
theorem key_rl (a : Str) (b : Int) : decide ((Sum.inr a : Key) = Sum.inl b) = false := decide_eq_false (fun q => nomatch q)

noncomputable def mixKind (prog : Program) (w : World) : PySem.KeyKind prog w Key where
  is := keyIs
  hash := keyH w
  inj := fun v a b ha hb => by
    rcases keyIs_shape ha with ⟨i, t, rfl, rfl⟩ | ⟨x, t, rfl, rfl⟩
    · rcases keyIs_shape hb with ⟨j, u, rfl, e⟩ | ⟨y, u, rfl, e⟩
      · injection e with e1 _; rw [e1]
      · exact nomatch e
    · rcases keyIs_shape hb with ⟨j, u, rfl, e⟩ | ⟨y, u, rfl, e⟩
      · exact nomatch e
      · injection e with e1 _; rw [e1]
  byValue := fun k v h => by
    rcases keyIs_shape h with ⟨i, t, rfl, rfl⟩ | ⟨x, t, rfl, rfl⟩ <;> rfl
  pyHash := fun hv h => by
    rcases keyIs_shape hv with ⟨i, t, rfl, rfl⟩ | ⟨x, t, rfl, rfl⟩
    · exact wpAny_pyHash_int h
    · exact wpAny_pyHash_str h
  eqBool := fun hu hv h => by
    rcases keyIs_shape hu with ⟨i, t, rfl, rfl⟩ | ⟨x, t, rfl, rfl⟩
    · rcases keyIs_shape hv with ⟨j, u, rfl, rfl⟩ | ⟨y, u, rfl, rfl⟩
      · rw [key_ll] at h; exact wpAny_eqBool_int h
      · rw [key_lr] at h; exact SeqAt.EqAt.int_str i t y u _ _ _ _ h
    · rcases keyIs_shape hv with ⟨j, u, rfl, rfl⟩ | ⟨y, u, rfl, rfl⟩
      · rw [key_rl] at h; exact SeqAt.EqAt.str_int x t j u _ _ _ _ h
      · rw [key_rr] at h; exact wpAny_eqBool_str h
  «strs» := fun k x t v h => by
    rcases keyIs_shape h with ⟨i, u, rfl, e⟩ | ⟨y, u, rfl, e⟩
    · exact nomatch e
    · injection e with e1 _
      subst e1
      cases v <;> rfl

theorem mixKind_int (prog : Program) (w : World) (i : Int) (t : Tok) : (mixKind prog w).is (.inl i) (.int i t) = true := keyIs_int i t
theorem mixKind_str (prog : Program) (w : World) (x : Str) (t : Tok) : (mixKind prog w).is (.inr x) (.str x t) = true := keyIs_str x t
end L2

namespace L2
open PySem PySem.Spec PyProof.Rows

inductive V where
  | non | bl (b : Bool) | int (i : Int) | str (x : Str) | byt (b : Array UInt8) | flt (b : UInt64) | ref (a : Addr) | ty (n : String)
  deriving DecidableEq

noncomputable def RelV : V → Value → Prop
  | .non, u => u = Value.none
  | .bl b, u => u = Value.bool b
  | .int i, u => ∃ t, u = Value.int i t
  | .str x, u => ∃ t, u = Value.str x t
  | .byt b, u => ∃ t, u = Value.bytes b t
  | .flt b, u => ∃ t, u = Value.float b t
  | .ref a, u => u = Value.ref a
  | .ty n, u => u = Value.type n

noncomputable abbrev Vals : List V → List Value → Prop := Paired RelV
theorem Vals.length {xs : List V} {us : List Value} (r : Vals xs us) : xs.length = us.length := Paired.length r
theorem Vals.get : ∀ {xs : List V} {us : List Value} {i : Nat} {x : V}, Vals xs us → xs[i]? = some x → ∃ u, us[i]? = some u ∧ RelV x u
  | _, _, _, _, .nil, e => by simp at e
  | _, _, 0, _, .cons r _, e => by simp at e; subst e; exact ⟨_, rfl, r⟩
  | _, _, i + 1, x, .cons _ t, e => by
    obtain ⟨u, h1, h2⟩ := Vals.get (i := i) (x := x) t (by simpa using e)
    exact ⟨u, by simpa using h1, h2⟩
theorem Vals.set {x : V} {u : Value} (r : RelV x u) : ∀ {xs : List V} {us : List Value} (i : Nat), Vals xs us → Vals (xs.set i x) (us.set i u)
  | _, _, _, .nil => .nil
  | _, _, 0, .cons _ t => .cons r t
  | _, _, i + 1, .cons q t => .cons q (Vals.set r i t)
theorem Vals.append : ∀ {xs ys : List V} {us ws : List Value}, Vals xs us → Vals ys ws → Vals (xs ++ ys) (us ++ ws)
  | _, _, _, _, .nil, s => s
  | _, _, _, _, .cons r t, s => .cons r (Vals.append t s)
theorem Vals.take : ∀ {xs : List V} {us : List Value} (n : Nat), Vals xs us → Vals (xs.take n) (us.take n)
  | _, _, 0, _ => .nil
  | _, _, _ + 1, .nil => .nil
  | _, _, n + 1, .cons r t => .cons r (Vals.take n t)
theorem Vals.drop : ∀ {xs : List V} {us : List Value} (n : Nat), Vals xs us → Vals (xs.drop n) (us.drop n)
  | _, _, 0, r => r
  | _, _, _ + 1, .nil => .nil
  | _, _, n + 1, .cons _ t => Vals.drop n t
theorem Vals.none_of : ∀ {xs : List V} {us : List Value} {i : Nat}, Vals xs us → xs[i]? = none → us[i]? = none := fun {xs us i} r e => by
  have h1 := r.length
  have h2 : xs.length ≤ i := List.getElem?_eq_none_iff.mp e
  exact List.getElem?_eq_none_iff.mpr (by omega)

noncomputable def RelO : Option V → Option Value → Prop
  | some v, some u => RelV v u
  | none, none => True
  | _, _ => False
noncomputable def KV {κ : Type} : List (κ × V) → List (κ × Value) → Prop := Paired fun (p : κ × V) (q : κ × Value) => p.1 = q.1 ∧ RelV p.2 q.2

noncomputable def kV : Key → V
  | .inl i => .int i
  | .inr x => .str x

inductive HO where
  /-- a list -/
  | lst (xs : List V)
  /-- a tuple (never changes) -/
  | tup (xs : List V)
  /-- a dict whose keys are ints and texts; one whose keys are tuples of ints and texts (the empty one is both) -/
  | dK (kvs : List (Key × V)) | dT (kvs : List (List Key × V))
  /-- a set of ints: its members, its size -/
  | set (S : Int → Bool) (n : Nat)
  /-- an instance of the class at C, its dict at dx, its attributes -/
  | ins (C dx : Addr) (fs : List (Str × V))
  /-- the dict of the instance at x -/
  | own (x : Addr)
  /-- the dict of an exception -/
  | xd (fs : List (Str × V))
  /-- a bound method, f of x -/
  | met (f x : Addr)
  /-- a range object lo, lo + 1, .. below hi -/
  | rng (lo hi : Int)
  /-- a thing that is known to the object (the script; a dict while a loop walks it): read, never written while it is so -/
  | frz (o : Obj) (u : HO)
  /-- a code object's table -/
  | tbl (ps : Array Value)
  /-- any other thing, by what is true of its one object (a def of one's own: SetO a S n := HO.ext fun h => ..) -/
  | ext (φ : Heap → Prop)

noncomputable abbrev Hp := Addr → Option HO
noncomputable def upd (H : Hp) (a : Addr) (o : HO) : Hp := fun b => if b = a then some o else H b
theorem upd_same {H : Hp} {a : Addr} {o : HO} : upd H a o a = some o := by unfold upd; rw [if_pos rfl]
theorem upd_ne {H : Hp} {a b : Addr} {o : HO} (h : b ≠ a) : upd H a o b = H b := by unfold upd; rw [if_neg h]
theorem ne_of {H : Hp} {a b : Addr} {o u : HO} (h : H a = some o) (h' : H b = some u) (d : o ≠ u) : a ≠ b := by
  intro e; subst e; rw [h] at h'; exact d (Option.some.inj h')
theorem ne_of_none {H : Hp} {a b : Addr} {o : HO} (h : H a = some o) (h' : H b = none) : a ≠ b := by
  intro e; subst e; rw [h] at h'; cases h'

section
variable (P : Program) (w : World)
noncomputable def ObjOk (H : Hp) (h : Heap) (a : Addr) : HO → Prop
  | .lst xs => xs.length ≤ sizeLine ∧ ∃ (its : List Value) (n : Nat), Vals xs its ∧ h.get? a = some { cls := .type "list", data := .seq its.toArray n }
  | .tup xs => xs.length ≤ sizeLine ∧ ∃ its : List Value, Vals xs its ∧ IsTup h a its.toArray
  | .dK kvs => kvs.length ≤ sizeLine ∧ (a == sysModules) = false ∧ ∃ vs, KV kvs vs ∧ h.DictOf (mixKind P w) a vs
  | .dT kvs => kvs.length ≤ sizeLine ∧ (a == sysModules) = false ∧ ∃ xs : List (List Key × Addr × Value),
      Paired (fun (p : List Key × V) (q : List Key × Addr × Value) => p.1 = q.1 ∧ H q.2.1 = some (.tup (p.1.map kV)) ∧ RelV p.2 q.2.2) kvs xs ∧
      ∃ o es ep, h.get? a = some o ∧ o.ExactDict ∧ o.data = .dict es ep ∧ es.toList = xs.map (entryOfKey (tupleKind (mixKind P w))) ∧ (xs.map (·.1)).Nodup
  | .set S n => h.SetOf (intKind P w) a S n
  | .ins C dx fs => H dx = some (.own a) ∧ fs.length ≤ 1000 ∧ dx ≠ a ∧ h.get? a = some (PySem.W.instObj C dx) ∧
      ∃ mA, h.Ns1 dx mA ∧ (∀ f, RelO (fs.lookup f) (mA f)) ∧ PySem.Within mA (fs.map (·.1))
  | .own _ => ∃ o, h.get? a = some o
  | .xd fs => ∃ mA, h.Ns1 a mA ∧ ∀ f, RelO (fs.lookup f) (mA f)
  | .rng lo hi => ∃ t u v, h.get? a = some { cls := .type "range", data := .fields #[.int lo t, .int hi u, .int 1 v] }
  | .frz o u => h.get? a = some o ∧ ObjOk H h a u
  | .tbl ps => h.get? a = some { cls := .none, data := .fields ps }
  | .met f x => h.get? a = some (PySem.W.methodObj (.ref f) (.ref x))
  | .ext φ => φ h ∧ (∃ o, h.get? a = some o) ∧ ∀ h1 h2 : Heap, φ h1 → (∀ o, h1.get? a = some o → h2.get? a = some o) → φ h2
noncomputable def HOk (H : Hp) (h : Heap) : Prop := ∀ a o, H a = some o → ObjOk P w H h a o
end

section
variable {P : Program} {w : World} {H H' : Hp} {h h' : Heap} {a : Addr} {o : HO}
theorem ObjOk.lt (x : ObjOk P w H h a o) : a < h.objs.size := by
  cases o with
  | lst xs => obtain ⟨_, _, _, _, e⟩ := x; exact Heap.lt_size e
  | tup xs => obtain ⟨_, _, _, p⟩ := x; exact p.lt
  | dK kvs => obtain ⟨_, _, _, _, o, _, _, e, _⟩ := x; exact Heap.lt_size e
  | dT kvs => obtain ⟨_, _, _, _, o, _, _, e, _⟩ := x; exact Heap.lt_size e
  | set S n => obtain ⟨o, _, _, _, e, _⟩ := x; exact Heap.lt_size e
  | ins C dx fs => obtain ⟨_, _, _, e, _⟩ := x; exact Heap.lt_size e
  | own y => obtain ⟨_, e⟩ := x; exact Heap.lt_size e
  | xd fs => obtain ⟨_, ⟨_, _, _, e, _⟩, _⟩ := x; exact Heap.lt_size e
  | rng lo hi => obtain ⟨_, _, _, e⟩ := x; exact Heap.lt_size e
  | frz ob u => obtain ⟨e, _⟩ := x; exact Heap.lt_size e
  | tbl ps => exact Heap.lt_size (show h.get? a = some _ from x)
  | met f y => exact Heap.lt_size (show h.get? a = some _ from x)
  | ext φ => obtain ⟨_, ⟨_, e⟩, _⟩ := x; exact Heap.lt_size e
theorem Paired.mapP {α β : Type} {F G : α → β → Prop} : ∀ {l₁ : List α} {l₂ : List β}, Paired F l₁ l₂ → (∀ a b, F a b → G a b) → Paired G l₁ l₂
  | _, _, .nil, _ => .nil
  | _, _, .cons r t, f => .cons (f _ _ r) (Paired.mapP t f)
theorem ObjOk.stay (x : ObjOk P w H h a o) (k : ∀ b u, (b = a ∨ H b = some (.own a)) → h.get? b = some u → h'.get? b = some u)
    (ho : ∀ b, H b = some (.own a) → H' b = some (.own a)) (ht : ∀ b xs, H b = some (.tup xs) → H' b = some (.tup xs)) : ObjOk P w H' h' a o := by
  induction o with
  | lst xs => obtain ⟨z, its, n, r, e⟩ := x; exact ⟨z, its, n, r, k _ _ (.inl rfl) e⟩
  | tup xs => obtain ⟨z, its, r, ob, e, c⟩ := x; exact ⟨z, its, r, ob, k _ _ (.inl rfl) e, c⟩
  | dK kvs => obtain ⟨z, y, vs, r, ob, es, ep, e, c⟩ := x; exact ⟨z, y, vs, r, ob, es, ep, k _ _ (.inl rfl) e, c⟩
  | dT kvs =>
    obtain ⟨z, y, xs, r, ob, es, ep, e, c⟩ := x
    exact ⟨z, y, xs, Paired.mapP r fun p q z => ⟨z.1, ht _ _ z.2.1, z.2.2⟩, ob, es, ep, k _ _ (.inl rfl) e, c⟩
  | set S n => obtain ⟨ob, es, ep, t, e, c⟩ := x; exact ⟨ob, es, ep, t, k _ _ (.inl rfl) e, c⟩
  | ins C dx fs =>
    obtain ⟨d, z, ne, e, mA, ⟨od, es, ep, e2, c⟩, r⟩ := x
    exact ⟨ho _ d, z, ne, k _ _ (.inl rfl) e, mA, ⟨od, es, ep, k _ _ (.inr d) e2, c⟩, r⟩
  | own y => obtain ⟨ob, e⟩ := x; exact ⟨ob, k _ _ (.inl rfl) e⟩
  | xd fs => obtain ⟨mA, ⟨od, es, ep, e, c⟩, r⟩ := x; exact ⟨mA, ⟨od, es, ep, k _ _ (.inl rfl) e, c⟩, r⟩
  | rng lo hi => obtain ⟨t, u, v, e⟩ := x; exact ⟨t, u, v, k _ _ (.inl rfl) e⟩
  | frz ob u ih => obtain ⟨e, q⟩ := x; exact ⟨k _ _ (.inl rfl) e, ih q⟩
  | tbl ps =>
    have e : h.get? a = some { cls := .none, data := .fields ps } := x
    show h'.get? a = some { cls := .none, data := .fields ps }
    exact k a _ (.inl rfl) e
  | met f y =>
    have e : h.get? a = some (PySem.W.methodObj (.ref f) (.ref y)) := x
    show h'.get? a = some (PySem.W.methodObj (.ref f) (.ref y))
    exact k a _ (.inl rfl) e
  | ext φ => obtain ⟨p, ⟨o, e⟩, st⟩ := x; exact ⟨st _ _ p fun o q => k _ _ (.inl rfl) q, ⟨o, k _ _ (.inl rfl) e⟩, st⟩
theorem HOk.lt (x : HOk P w H h) (e : H a = some o) : a < h.objs.size := (x a o e).lt
theorem HOk.fresh (x : HOk P w H h) (e : h.objs.size ≤ a) : H a = none := by
  cases q : H a with
  | none => rfl
  | some u => exact absurd (Nat.lt_of_lt_of_le (x.lt q) e) (Nat.lt_irrefl _)
theorem HOk.kept (x : HOk P w H h) (k : ∀ b u, h.get? b = some u → h'.get? b = some u) : HOk P w H h' := fun a o e =>
  (x a o e).stay (fun b u _ q => k b u q) (fun _ q => q) fun _ _ q => q
theorem HOk.laid (x : HOk P w H h) (k : ∀ b u, h.get? b = some u → h'.get? b = some u) (hp : h.objs.size ≤ a) (new : ObjOk P w (upd H a o) h' a o) : HOk P w (upd H a o) h' := fun b u e => by
  have hn := x.fresh hp
  by_cases hb : b = a
  · subst hb; rw [upd_same] at e; cases e; exact new
  · rw [upd_ne hb] at e
    exact (x b u e).stay (fun c v _ q => k c v q) (fun c q => by rw [upd_ne (ne_of_none q hn)]; exact q) fun c xs q => by rw [upd_ne (ne_of_none q hn)]; exact q
end

noncomputable def Rd (H : Hp) (a : Addr) (u : HO) : Prop := H a = some u ∨ ∃ o, H a = some (.frz o u)
theorem Rd.of {H : Hp} {a : Addr} {u : HO} (h : H a = some u) : Rd H a u := .inl h
theorem Rd.ok {P : Program} {w : World} {H : Hp} {h : Heap} {a : Addr} {u : HO} (r : Rd H a u) (x : HOk P w H h) : ObjOk P w H h a u := by
  rcases r with r | ⟨o, r⟩
  · exact x a u r
  · obtain ⟨_, q⟩ := x a _ r
    exact q
noncomputable def Mut : Option HO → Prop
  | some (.lst _) => True
  | some (.dK _) => True
  | some (.dT _) => True
  | some (.set _ _) => True
  | some (.ins _ _ _) => True
  | some (.ext _) => True
  | _ => False
section
variable {P : Program} {w : World} {H : Hp} {h h' : Heap} {x e : Addr} {o' : HO}
theorem HOk.write (ok : HOk P w H h) (mu : Mut (H x)) (he : e = x ∨ H e = some (.own x)) (k : ∀ b u, b ≠ e → h.get? b = some u → h'.get? b = some u) (heo : ∃ u, h'.get? e = some u)
    (new : ObjOk P w (upd H x o') h' x o') : HOk P w (upd H x o') h' := fun b u q => by
  have nown : ∀ c y, H c = some (.own y) → c ≠ x := fun c y r z => by subst z; rw [r] at mu; exact mu
  have ntup : ∀ c xs, H c = some (.tup xs) → c ≠ x := fun c xs r z => by subst z; rw [r] at mu; exact mu
  by_cases hb : b = x
  · subst hb; rw [upd_same] at q; cases q; exact new
  · rw [upd_ne hb] at q
    by_cases hbe : b = e
    · have q' : H b = some (.own x) := by
        rcases he with z | z
        · exact absurd (hbe.trans z) hb
        · rw [hbe]; exact z
      rw [q] at q'; cases q'
      obtain ⟨v, hv⟩ := heo
      exact ⟨v, by rw [hbe]; exact hv⟩
    · refine (ok b u q).stay (fun c v hc r => k c v ?_ r) (fun c r => by rw [upd_ne (nown c b r)]; exact r) fun c xs r => by rw [upd_ne (ntup c xs r)]; exact r
      rcases hc with rfl | hc
      · exact hbe
      · rintro rfl
        rcases he with z | z
        · exact nown c b hc z
        · rw [hc] at z; cases z; exact hb rfl
end

structure Un (fs ex : List Addr) (H H' : Hp) (h h' : Heap) : Prop where
  keep : ∀ b o, h.get? b = some o → H b = none → b ∉ fs → b ∉ ex → h'.get? b = some o
  slot : ∀ b o, h.get? b = some o → H b = none → b ∈ fs → b ∉ ex → ∃ sl, h'.get? b = some { o with slots := sl }
  free : ∀ b o, h.get? b = some o → H b = none → b ∉ ex → H' b = none
  there : ∀ b o, h.get? b = some o → b ∉ ex → ∃ o', h'.get? b = some o'
  tups : ∀ b xs, H b = some (.tup xs) → H' b = some (.tup xs)
  frzs : ∀ b o u, H b = some (.frz o u) → H' b = some (.frz o u)
  tbls : ∀ b ps, H b = some (.tbl ps) → ∃ more, H' b = some (.tbl (ps ++ more))
section
variable {fs fs' ex ex' : List Addr} {H H1 H2 : Hp} {h h1 h2 h' : Heap} {a x e : Addr} {o : HO}
theorem Un.any (u : Un fs ex H H1 h h1) {b : Addr} {ob : Obj} (q : h.get? b = some ob) (n : H b = none) (hx : b ∉ ex) : ∃ sl, h1.get? b = some { ob with slots := sl } := by
  by_cases hb : b ∈ fs
  · exact u.slot b ob q n hb hx
  · exact ⟨ob.slots, u.keep b ob q n hb hx⟩
theorem Un.trans (a : Un fs ex H H1 h h1) (b : Un fs ex H1 H2 h1 h2) : Un fs ex H H2 h h2 where
  keep := fun c ob q n hc hx => b.keep c ob (a.keep c ob q n hc hx) (a.free c ob q n hx) hc hx
  slot := fun c ob q n hc hx => by
    obtain ⟨sl, e1⟩ := a.slot c ob q n hc hx
    obtain ⟨sl', e2⟩ := b.slot c _ e1 (a.free c ob q n hx) hc hx
    exact ⟨sl', e2⟩
  free := fun c ob q n hx => by
    obtain ⟨o', e1⟩ := a.there c ob q hx
    exact b.free c o' e1 (a.free c ob q n hx) hx
  there := fun c ob q hx => by
    obtain ⟨o', e1⟩ := a.there c ob q hx
    exact b.there c o' e1 hx
  tups := fun c xs q => b.tups c xs (a.tups c xs q)
  frzs := fun c ob xs q => b.frzs c ob xs (a.frzs c ob xs q)
  tbls := fun c ps q => by
    obtain ⟨m1, e1⟩ := a.tbls c ps q
    obtain ⟨m2, e2⟩ := b.tbls c _ e1
    exact ⟨m1 ++ m2, by rw [e2, Array.append_assoc]⟩
theorem Un.kept (k : ∀ b u, h.get? b = some u → h'.get? b = some u) : Un fs ex H H h h' :=
  ⟨fun b ob q _ _ _ => k b ob q, fun b ob q _ _ _ => ⟨ob.slots, k b ob q⟩, fun _ _ _ n _ => n, fun b ob q _ => ⟨ob, k b ob q⟩, fun _ _ q => q, fun _ _ _ q => q, fun _ ps q => ⟨#[], by rw [q]; simp⟩⟩
theorem Un.refl : Un fs ex H H h h := Un.kept fun _ _ q => q
theorem Un.laid (k : ∀ b u, h.get? b = some u → h'.get? b = some u) (hp : h.objs.size ≤ a) (hn : H a = none) : Un fs ex H (upd H a o) h h' where
  keep := fun b u q _ _ _ => k b u q
  slot := fun b u q _ _ _ => ⟨u.slots, k b u q⟩
  free := fun b u q n _ => by rw [upd_ne (Nat.ne_of_lt (Nat.lt_of_lt_of_le (Heap.lt_size q) hp))]; exact n
  there := fun b u q _ => ⟨u, k b u q⟩
  tups := fun b xs q => by rw [upd_ne (ne_of_none q hn)]; exact q
  frzs := fun b u xs q => by rw [upd_ne (ne_of_none q hn)]; exact q
  tbls := fun b ps q => ⟨#[], by rw [upd_ne (ne_of_none q hn), q]; simp⟩
theorem Un.write (mu : Mut (H x)) (he : e = x ∨ H e = some (.own x)) (k : ∀ b u, b ≠ e → h.get? b = some u → h'.get? b = some u) (heo : ∃ u, h'.get? e = some u) : Un fs ex H (upd H x o) h h' := by
  have hx : ∀ b, H b = none → b ≠ x := fun b n z => by subst z; rw [n] at mu; exact mu
  have hb : ∀ b, H b = none → b ≠ e := fun b n z => by
    subst z
    rcases he with r | r
    · exact hx b n r
    · rw [n] at r; cases r
  have hm : ∀ b u, H b = some u → ¬ Mut (some u) → b ≠ x := fun b u q nm z => by subst z; rw [q] at mu; exact nm mu
  refine ⟨fun b u q n _ _ => k b u (hb b n) q, fun b u q n _ _ => ⟨u.slots, k b u (hb b n) q⟩, fun b u q n _ => by rw [upd_ne (hx b n)]; exact n, fun b u q _ => ?_,
    fun b xs q => by rw [upd_ne (hm b _ q fun z => z)]; exact q, fun b u xs q => by rw [upd_ne (hm b _ q fun z => z)]; exact q, fun b ps q => ⟨#[], by rw [upd_ne (hm b _ q fun z => z), q]; simp⟩⟩
  by_cases hbe : b = e
  · subst hbe; exact heo
  · exact ⟨u, k b u hbe q⟩
theorem Un.mono (u : Un fs ex H H1 h h1) (hs : ∀ b ∈ fs, b ∈ fs') (hx : ∀ b ∈ ex, b ∈ ex') : Un fs' ex' H H1 h h1 :=
  ⟨fun b ob q n hb he => u.keep b ob q n (fun z => hb (hs b z)) fun z => he (hx b z), fun _ _ q n _ he => u.any q n fun z => he (hx _ z), fun b ob q n he => u.free b ob q n fun z => he (hx b z), fun b ob q he => u.there b ob q fun z => he (hx b z), u.tups, u.frzs, u.tbls⟩
end

noncomputable def trk (h : Heap) (H : Hp) : List Addr := (List.range h.objs.size).filter fun a => (H a).isSome
noncomputable def hidT (h : Heap) (H : Hp) : Heap := PySem.W.hideAll h (trk h H)
theorem hidT_size (h : Heap) (H : Hp) : (hidT h H).objs.size = h.objs.size := PySem.W.hideAll_size _ _
theorem hidT_get {h : Heap} {H : Hp} {b : Addr} {o : Obj} (e : h.get? b = some o) (n : H b = none) : (hidT h H).get? b = some o :=
  PySem.W.hideAll_get _ e fun hm => by
    have q : (H b).isSome = true := (List.mem_filter.mp hm).2
    rw [n] at q; simp at q
theorem of_hidT {h : Heap} {H : Hp} {b : Addr} {o : Obj} (e : (hidT h H).get? b = some o) : h.get? b = some o ∧ H b = none := by
  have e' : h.get? b = some o := PySem.W.of_hideAll (trk h H) e
  refine ⟨e', ?_⟩
  cases q : H b with
  | none => rfl
  | some x =>
    have hm : b ∈ trk h H := List.mem_filter.mpr ⟨List.mem_range.mpr (Heap.lt_size e'), by simp [q]⟩
    have z : (hidT h H).get? b = none := PySem.W.hideAll_none (trk h H) hm
    rw [z] at e; cases e

noncomputable def allNews (g h : Heap) (L : Addr) : List (Addr × Obj) := (List.range h.objs.size).filterMap fun a => if a = L ∨ (g.get? a).isSome = true then none else (h.get? a).map fun o => (a, o)
noncomputable def rest (g h : Heap) (L d : Addr) : List (Addr × Obj) := (allNews g h L).filter fun p => decide (p.1 ≠ d)
end L2

namespace L2
open PySem PySem.Spec PyProof.Rows

structure Mod (K : PySem.W.Frag) (mg : Str → Option Value) (base : Heap) : Prop where
  kin : K.In base
  glob : base.Ns mainGlobals mg
  blt : ∃ mb, base.Ns builtinsNs mb ∧ ∀ x : Str, x ≠ "__name__" → mb x = bootBuiltins x
  nolimit : base.NoLimit

structure Cx where
  prog : Program
  w : World
  K : PySem.W.Frag
  mg : Str → Option Value
  base : Heap
  A : Around
  N : List Str
  s₀ : Shared
  H₀ : Hp
  env : Env
  outer : List Env
  stack : List Env
  ex : List Addr
  fn : Str → Bool
  calm : Bool
  pn : List (Addr × Obj)
  xe : Value → Shared → Prop
noncomputable def frs (l : List Env) : List Addr := l.filterMap (·.frame)
noncomputable abbrev Cx.fs (X : Cx) : List Addr := frs X.outer

noncomputable def Vis (sc : Scope) (x : Str) : Prop := sc.names.lookup x = some .local ∨ sc.names.lookup x = some .cell ∨ sc.names.lookup x = some .free
noncomputable def Loc (sc : Scope) (x : Str) : Prop := sc.names.lookup x = some .local ∨ sc.names.lookup x = some .cell
noncomputable def Look (env : Env) (h : Heap) (m : Str → Option Value) (x : Str) (u : Value) : Prop :=
  (env.kindOf x = some .local ∧ m x = some u) ∨ ((env.kindOf x = some .cell ∨ env.kindOf x = some .free) ∧ ∃ c, env.cells.lookup x = some c ∧ h.IsCell c (some u))

structure Cx.Ok (X : Cx) : Prop where
  mod : Mod X.K X.mg X.base
  kind : X.env.scope.kind = .function
  glob : X.env.globals = mainGlobals
  blt : X.env.builtins = builtinsNs
  above : X.s₀.heap.objs.size ≤ X.env.locals
  inj : ∀ x y c, X.env.cells.lookup x = some c → X.env.cells.lookup y = some c → x = y
  has : ∀ x, (X.env.kindOf x = some .cell ∨ X.env.kindOf x = some .free) → ∃ c, X.env.cells.lookup x = some c
  cab : ∀ x c, X.fn x = true → X.env.cells.lookup x = some c → X.s₀.heap.objs.size ≤ c
  hd : X.calm = true → X.A.handled = none
  frames : X.A.frames = some X.stack
  stk : X.stack = X.outer ∨ (X.stack = X.env :: X.outer ∧ X.env.frame = some X.env.locals)
  exf : ∀ b ∈ X.ex, b ≠ X.env.locals ∧ ∀ x c, X.env.cells.lookup x = some c → c ≠ b
  bs : ∀ b o, X.base.get? b = some o → X.s₀.heap.get? b = some o ∧ X.H₀ b = none
  bsz : X.base.objs.size ≤ X.s₀.heap.objs.size
  noex : ∀ b o, X.base.get? b = some o → b ∉ X.ex
  exfs : ∀ b ∈ X.ex, b ∉ X.fs
  funs : X.s₀.heap.FunFrames X.base X.outer
  frf : ∀ b ∈ X.fs, X.H₀ b = none

structure Inv (X : Cx) (pins : List (Addr × Obj)) (σ : List (Option V)) (H : Hp) (s : Shared) : Prop where
  ok : X.Ok
  os : s.os = X.s₀.os
  bare : AllBare s.gens
  base : Un X.fs X.ex X.H₀ H X.s₀.heap s.heap
  loc : ∃ m, s.heap.Ns X.env.locals m ∧ ∀ (i : Nat) (x : Str) (v : V), X.N[i]? = some x → σ[i]? = some (some v) → Vis X.env.scope x → ∃ u, RelV v u ∧ Look X.env s.heap m x u
  cell : ∀ x c, X.env.cells.lookup x = some c → ∃ v, s.heap.IsCell c v
  free : H X.env.locals = none
  freeC : ∀ x c, X.env.cells.lookup x = some c → H c = none
  pin : ∀ p ∈ X.pn ++ pins, s.heap.get? p.1 = some p.2 ∧ H p.1 = none ∧ p.1 ≠ X.env.locals ∧ p.1 ∉ X.fs ∧ ∀ v, p.2.data ≠ .cell v
  hok : HOk X.prog X.w H s.heap
  len : σ.length = X.N.length

section
variable {X : Cx} {pins : List (Addr × Obj)} {σ : List (Option V)} {H H' : Hp} {s : Shared} {h' : Heap}

theorem Cx.Ok.nofr (ok : X.Ok) {b : Addr} {o : Obj} (e : X.base.get? b = some o) : b ∉ X.fs := fun hb => by
  have := (ok.funs.mem hb).1
  rw [e] at this; cases this
theorem Inv.bs (I : Inv X pins σ H s) : ∀ b o, X.base.get? b = some o → s.heap.get? b = some o ∧ H b = none := fun b o e =>
  ⟨I.base.keep b o (I.ok.bs b o e).1 (I.ok.bs b o e).2 (I.ok.nofr e) (I.ok.noex b o e), I.base.free b o (I.ok.bs b o e).1 (I.ok.bs b o e).2 (I.ok.noex b o e)⟩
theorem Inv.bk (I : Inv X pins σ H s) : ∀ b o, X.base.get? b = some o → s.heap.get? b = some o := fun b o e => (I.bs b o e).1
theorem Inv.mod (I : Inv X pins σ H s) : Mod X.K X.mg X.base := I.ok.mod
theorem Inv.kIn (I : Inv X pins σ H s) : X.K.In s.heap := I.ok.mod.kin.keeps I.bk
theorem Inv.nolimit (I : Inv X pins σ H s) : s.heap.NoLimit := I.ok.mod.nolimit.keeps I.bk
theorem Inv.fr (I : Inv X pins σ H s) : ∃ m, Fr X.base X.env.locals s.heap m :=
  let ⟨m, hn, _⟩ := I.loc
  ⟨m, hn, I.bk, Nat.le_trans I.ok.bsz I.ok.above⟩
theorem Inv.lt (I : Inv X pins σ H s) : X.env.locals < s.heap.objs.size := let ⟨_, hn, _⟩ := I.loc; hn.lt
theorem Inv.sz (I : Inv X pins σ H s) : X.s₀.heap.objs.size ≤ s.heap.objs.size := Nat.le_trans I.ok.above (Nat.le_of_lt I.lt)
theorem Inv.nofs (I : Inv X pins σ H s) {a : Addr} (h : s.heap.objs.size ≤ a) : a ∉ X.fs := fun hb => by
  obtain ⟨_, o, ho, _⟩ := I.ok.funs.mem hb
  exact absurd (Nat.lt_of_lt_of_le (Heap.lt_size ho) (Nat.le_trans I.sz h)) (Nat.lt_irrefl _)
theorem Inv.cne (I : Inv X pins σ H s) : ∀ x c, X.env.cells.lookup x = some c → c ≠ X.env.locals := fun x c e z => by
  obtain ⟨v, o, ho, hd⟩ := I.cell x c e
  obtain ⟨m, ⟨o', es, ep, ho', hd', _⟩, _⟩ := I.loc
  rw [z, ho'] at ho; cases ho; rw [hd'] at hd; cases hd
theorem Inv.funs (I : Inv X pins σ H s) : s.heap.FunFrames X.base X.outer := by
  have all : ∀ (l : List Env), (∀ b ∈ frs l, b ∈ X.fs) → X.s₀.heap.FunFrames X.base l → s.heap.FunFrames X.base l := by
    intro l
    induction l with
    | nil => intro _ _; trivial
    | cons env r ih =>
      intro hs hl
      obtain ⟨hk, ⟨L, o, hf, hn, ho, hd⟩, hr⟩ := hl
      have hL : L ∈ X.fs := hs L (by unfold frs; rw [List.filterMap_cons, hf]; exact List.mem_cons_self)
      obtain ⟨sl, e⟩ := I.base.slot L o ho (I.ok.frf L hL) hL fun z => I.ok.exfs L z hL
      exact ⟨hk, ⟨L, _, hf, hn, e, hd⟩, ih (fun b hb => hs b (by unfold frs; rw [List.filterMap_cons, hf]; exact List.mem_cons_of_mem _ hb)) hr⟩
  exact all X.outer (fun _ hb => hb) I.ok.funs

theorem Inv.stack (I : Inv X pins σ H s) : s.heap.FunFrames X.base X.stack := by
  rcases I.ok.stk with e | ⟨e, hf⟩
  · rw [e]; exact I.funs
  · rw [e]
    obtain ⟨m, hn, _⟩ := I.loc
    refine .cons (by rw [I.ok.kind]; decide) hf hn ?_ I.funs
    exact Heap.get?_none_of_le (Nat.le_trans I.ok.bsz I.ok.above)
theorem Inv.stkSub (I : Inv X pins σ H s) : ∀ b ∈ frs X.stack, b ∈ X.env.locals :: X.fs := fun b hb => by
  rcases I.ok.stk with e | ⟨e, hf⟩
  · rw [e] at hb; exact List.mem_cons_of_mem _ hb
  · rw [e] at hb
    unfold frs at hb
    rw [List.filterMap_cons, hf] at hb
    exact hb
theorem Inv.stkFree (I : Inv X pins σ H s) : ∀ b ∈ frs X.stack, H b = none := fun b hb => by
  rcases List.mem_cons.mp (I.stkSub b hb) with e | hb
  · rw [e]; exact I.free
  · obtain ⟨_, o, ho, _⟩ := I.ok.funs.mem hb
    exact I.base.free b o ho (I.ok.frf b hb) fun z => I.ok.exfs b z hb

theorem Inv.step {g' : Array GenState} {t' : Nat} {d' : Drawn} {ch : List Addr} (I : Inv X pins σ H s)
    (hch : ∀ b ∈ ch, (b ∈ X.ex ∨ X.s₀.heap.objs.size ≤ b) ∧ b ≠ X.env.locals ∧ (∀ x c, X.env.cells.lookup x = some c → c ≠ b) ∧ ∀ p ∈ X.pn ++ pins, p.1 ≠ b)
    (keep : ∀ b o, b ≠ X.env.locals → b ∉ X.fs → b ∉ ch → s.heap.get? b = some o → H b = none → h'.get? b = some o)
    (slot : ∀ b o, b ≠ X.env.locals → b ∈ X.fs → b ∉ ch → s.heap.get? b = some o → H b = none → ∃ sl, h'.get? b = some { o with slots := sl }) (free : ∀ b o, b ∉ ch → s.heap.get? b = some o → H b = none → H' b = none)
    (there : ∀ b o, b ∉ ch → s.heap.get? b = some o → ∃ o', h'.get? b = some o')
    (tups : ∀ b xs, H b = some (.tup xs) → H' b = some (.tup xs)) (frzs : ∀ b o u, H b = some (.frz o u) → H' b = some (.frz o u)) (tbls : ∀ b ps, H b = some (.tbl ps) → ∃ more, H' b = some (.tbl (ps ++ more)))
    (ns : ∀ m, s.heap.Ns X.env.locals m → h'.Ns X.env.locals m) (hok : HOk X.prog X.w H' h') (hg : AllBare g') :
    Inv X pins σ H' { s with heap := h', gens := g', drawn := d', toks := t' } := by
  have neL : ∀ b o, X.s₀.heap.get? b = some o → b ≠ X.env.locals := fun b o e => Nat.ne_of_lt (Nat.lt_of_lt_of_le (Heap.lt_size e) I.ok.above)
  have neC : ∀ b o, X.s₀.heap.get? b = some o → b ∉ X.ex → b ∉ ch := fun b o e hx hb => by
    rcases (hch b hb).1 with z | z
    · exact hx z
    · exact absurd (Nat.lt_of_lt_of_le (Heap.lt_size e) z) (Nat.lt_irrefl _)
  have cellK : ∀ x c, X.env.cells.lookup x = some c → ∀ v, s.heap.IsCell c v → h'.IsCell c v := fun x c e v ⟨o, ho, hd⟩ => by
    have nch : c ∉ ch := fun z => (hch c z).2.2.1 x c e rfl
    by_cases hc : c ∈ X.fs
    · obtain ⟨sl, q⟩ := slot c o (I.cne x c e) hc nch ho (I.freeC x c e)
      exact ⟨_, q, hd⟩
    · exact ⟨o, keep c o (I.cne x c e) hc nch ho (I.freeC x c e), hd⟩
  refine ⟨I.ok, I.os, hg, ⟨fun b o e n hb hx => ?_, fun b o e n hb hx => ?_, fun b o e n hx => ?_, fun b o e hx => ?_, fun b xs e => tups b xs (I.base.tups b xs e), fun b o xs e => frzs b o xs (I.base.frzs b o xs e), fun b ps e => ?_⟩, ?_, fun x c e => ?_, ?_, fun x c e => ?_, fun p hp => ?_, hok, I.len⟩
  · exact keep b o (neL b o e) hb (neC b o e hx) (I.base.keep b o e n hb hx) (I.base.free b o e n hx)
  · obtain ⟨sl, e1⟩ := I.base.slot b o e n hb hx
    obtain ⟨sl', e2⟩ := slot b _ (neL b o e) hb (neC b o e hx) e1 (I.base.free b o e n hx)
    exact ⟨sl', e2⟩
  · obtain ⟨o', e1⟩ := I.base.there b o e hx
    exact free b o' (neC b o e hx) e1 (I.base.free b o e n hx)
  · obtain ⟨o', e1⟩ := I.base.there b o e hx
    exact there b o' (neC b o e hx) e1
  · obtain ⟨m1, e1⟩ := I.base.tbls b ps e
    obtain ⟨m2, e2⟩ := tbls b _ e1
    exact ⟨m1 ++ m2, by rw [e2, Array.append_assoc]⟩
  · obtain ⟨m, hn, hl⟩ := I.loc
    refine ⟨m, ns m hn, fun i x v e1 e2 e3 => ?_⟩
    obtain ⟨u, r, l⟩ := hl i x v e1 e2 e3
    refine ⟨u, r, ?_⟩
    rcases l with l | ⟨k, c, e, z⟩
    · exact .inl l
    · exact .inr ⟨k, c, e, cellK x c e _ z⟩
  · obtain ⟨v, z⟩ := I.cell x c e
    exact ⟨v, cellK x c e v z⟩
  · obtain ⟨m, ⟨o, _, _, ho, _⟩, _⟩ := I.loc
    exact free _ o (fun z => (hch _ z).2.1 rfl) ho I.free
  · obtain ⟨v, o, ho, hd⟩ := I.cell x c e
    exact free c o (fun z => (hch c z).2.2.1 x c e rfl) ho (I.freeC x c e)
  · obtain ⟨e, n, ne, nf, d⟩ := I.pin p hp
    have nch : p.1 ∉ ch := fun z => (hch p.1 z).2.2.2 p hp rfl
    exact ⟨keep p.1 p.2 ne nf nch e n, free p.1 p.2 nch e n, ne, nf, d⟩
theorem Inv.un {t' : Nat} (I : Inv X pins σ H s) (u : Un X.fs [] H H' s.heap h') (hok : HOk X.prog X.w H' h') : Inv X pins σ H' { s with heap := h', toks := t' } := by
  obtain ⟨m, ⟨o, es, ep, ho, r⟩, _⟩ := id I.loc
  obtain ⟨sl, hL⟩ := u.any ho I.free (by simp)
  exact I.step (g' := s.gens) (d' := s.drawn) (ch := []) (fun _ z => nomatch z) (fun b o _ hb _ e n => u.keep b o e n hb (by simp)) (fun b o _ hb _ e n => u.slot b o e n hb (by simp)) (fun b o _ e n => u.free b o e n (by simp)) (fun b o _ e => u.there b o e (by simp)) u.tups u.frzs u.tbls (fun m' hm => by
    obtain ⟨o', es', ep', ho', r'⟩ := hm
    rw [ho] at ho'; cases ho'
    exact ⟨_, es', ep', hL, r'⟩) hok I.bare
theorem Inv.call {g' : Array GenState} {t' : Nat} {d' : Drawn} {ch : List Addr} (I : Inv X pins σ H s) (u : Un (frs X.stack) ch H H' s.heap h') (hok : HOk X.prog X.w H' h') (hg : AllBare g')
    (hch : ∀ b ∈ ch, (b ∈ X.ex ∨ X.s₀.heap.objs.size ≤ b) ∧ b ≠ X.env.locals ∧ (∀ x c, X.env.cells.lookup x = some c → c ≠ b) ∧ ∀ p ∈ X.pn ++ pins, p.1 ≠ b) :
    Inv X pins σ H' { s with heap := h', gens := g', drawn := d', toks := t' } := by
  obtain ⟨m, ⟨o, es, ep, ho, r⟩, _⟩ := id I.loc
  obtain ⟨sl, hL⟩ := u.any ho I.free fun z => (hch _ z).2.1 rfl
  exact I.step (ch := ch) hch (fun b o hL hb hc e n => u.keep b o e n (fun z => (List.mem_cons.mp (I.stkSub b z)).elim hL hb) hc) (fun b o _ _ hc e n => u.any e n hc) (fun b o hc e n => u.free b o e n hc) (fun b o hc e => u.there b o e hc) u.tups u.frzs u.tbls (fun m' hm => by
    obtain ⟨o', es', ep', ho', r'⟩ := hm
    rw [ho] at ho'; cases ho'
    exact ⟨_, es', ep', hL, r'⟩) hok hg
theorem Inv.turned {t' : Nat} {it : Addr} (I : Inv X pins σ H s) (k : ∀ b o, b ≠ it → s.heap.get? b = some o → h'.get? b = some o) (hn : H it = none) (hL : it ≠ X.env.locals)
    (h1 : it ∈ X.ex ∨ X.s₀.heap.objs.size ≤ it) (h2 : ∀ x c, X.env.cells.lookup x = some c → c ≠ it) (h3 : ∀ p ∈ X.pn ++ pins, p.1 ≠ it) : Inv X pins σ H { s with heap := h', toks := t' } := by
  have nit : ∀ b u, H b = some u → b ≠ it := fun b u e z => by rw [z, hn] at e; cases e
  refine I.step (g' := s.gens) (d' := s.drawn) (ch := [it]) (fun b hb => ?_) (fun b o _ _ hc e _ => k b o (fun z => hc (by simp [z])) e) (fun b o _ _ hc e _ => ⟨o.slots, k b o (fun z => hc (by simp [z])) e⟩) (fun _ _ _ _ n => n)
    (fun b o hc e => ⟨o, k b o (fun z => hc (by simp [z])) e⟩) (fun _ _ e => e) (fun _ _ _ e => e) (fun b ps e => ⟨#[], by rw [e]; simp⟩) (fun m hm => ?_) (fun b u e => ?_) I.bare
  · have e : b = it := by simpa using hb
    subst e
    exact ⟨h1, hL, h2, h3⟩
  · obtain ⟨o, es, ep, ho, r⟩ := hm
    exact ⟨o, es, ep, k _ o (Ne.symm hL) ho, r⟩
  · refine (I.hok b u e).stay (fun c v hc q => k c v ?_ q) (fun _ q => q) fun _ _ q => q
    rcases hc with z | z
    · rw [z]; exact nit b u e
    · exact nit c _ z
theorem Inv.tok (I : Inv X pins σ H s) (t : Nat) : Inv X pins σ H { s with toks := t } := I.un (h' := s.heap) (t' := t) Un.refl I.hok
theorem Inv.kept {t' : Nat} (I : Inv X pins σ H s) (k : ∀ b u, s.heap.get? b = some u → h'.get? b = some u) : Inv X pins σ H { s with heap := h', toks := t' } := I.un (Un.kept k) (I.hok.kept k)
theorem Inv.laid {a : Addr} {o : HO} {t' : Nat} (I : Inv X pins σ H s) (k : ∀ b u, s.heap.get? b = some u → h'.get? b = some u) (hp : s.heap.objs.size ≤ a) (new : ObjOk X.prog X.w (upd H a o) h' a o) :
    Inv X pins σ (upd H a o) { s with heap := h', toks := t' } := I.un (Un.laid k hp (I.hok.fresh hp)) (I.hok.laid k hp new)
theorem Inv.write {x e : Addr} {o : HO} {t' : Nat} (I : Inv X pins σ H s) (mu : Mut (H x)) (he : e = x ∨ H e = some (.own x)) (k : ∀ b u, b ≠ e → s.heap.get? b = some u → h'.get? b = some u) (heo : ∃ u, h'.get? e = some u)
    (new : ObjOk X.prog X.w (upd H x o) h' x o) : Inv X pins σ (upd H x o) { s with heap := h', toks := t' } := I.un (Un.write mu he k heo) (I.hok.write mu he k heo new)
theorem Inv.pins_of {pins' : List (Addr × Obj)} (I : Inv X pins σ H s) (h : ∀ p ∈ pins', s.heap.get? p.1 = some p.2 ∧ H p.1 = none ∧ p.1 ≠ X.env.locals ∧ p.1 ∉ X.fs ∧ ∀ v, p.2.data ≠ .cell v) : Inv X pins' σ H s :=
  ⟨I.ok, I.os, I.bare, I.base, I.loc, I.cell, I.free, I.freeC, fun p hp => (List.mem_append.mp hp).elim (fun z => I.pin p (List.mem_append_left _ z)) (h p), I.hok, I.len⟩

theorem nodup_ix {N : List Str} (hN : N.Nodup) {i j : Nat} {x : Str} (a : N[i]? = some x) (b : N[j]? = some x) : i = j := by
  obtain ⟨h1, e1⟩ := List.getElem?_eq_some_iff.mp a
  obtain ⟨h2, e2⟩ := List.getElem?_eq_some_iff.mp b
  exact (List.getElem_inj hN).mp (e1.trans e2.symm)

theorem store_ok2 {M : Model} {A : Around} {E : Value → Shared → Prop} {i : Nat} {x : Str} {v : V} {u : Value} {Q : Unit → Shared → Prop} (I : Inv X pins σ H s) (hN : X.N.Nodup) (hi : X.N[i]? = some x) (hx : Loc X.env.scope x) (r : RelV v u)
    (h : ∀ s', Inv X pins (σ.set i (some v)) H s' → (∃ a, Heap.SameBut a s.heap s'.heap ∧ (a = X.env.locals ∨ X.env.cells.lookup x = some a)) → Q () s') (hf : X.fn x = true ∨ X.env.scope.names.lookup x = some .local := by first | exact .inl rfl | exact .inr rfl | assumption) : wpAny M A (storeName X.env x u) Q E s := by
  obtain ⟨m, hn, hl⟩ := id I.loc
  have hcls : (X.env.scope.kind == .class || (X.env.scope.kind == .module && X.env.locals != X.env.globals)) = false := by rw [I.ok.kind]; rfl
  have hiσ : i < σ.length := by rw [I.len]; exact (List.getElem?_eq_some_iff.mp hi).1
  have cne := I.cne
  have tracked : ∀ {a : Addr} {h' : Heap}, (∃ o, s.heap.get? a = some o ∧ H a = none) → Heap.SameBut a s.heap h' → HOk X.prog X.w H h' := fun {a h'} ha hs b ob e => by
    obtain ⟨_, _, hfree⟩ := ha
    refine (I.hok b ob e).stay (fun c w' hc q => (hs.2 c ?_).trans q) (fun _ q => q) fun _ _ q => q
    rintro rfl
    rcases hc with rfl | hc
    · rw [hfree] at e; cases e
    · rw [hfree] at hc; cases hc
  rcases hx with hk | hk
  · refine wpAny_storeName_local hk hn (fun h' hn' hs => ?_) hcls
    obtain ⟨oL, _, _, hoL, _⟩ := id hn
    refine h _ ⟨I.ok, I.os, I.bare, ⟨fun b o e n hb hx => ?_, fun b o e n hb hx => ?_, I.base.free, fun b o e hx => ?_, I.base.tups, I.base.frzs, I.base.tbls⟩, ⟨_, hn', fun j y v' e1 e2 e3 => ?_⟩, fun y c e => ?_, I.free, I.freeC, fun p hp => ?_, tracked ⟨oL, hoL, I.free⟩ hs, by simpa using I.len⟩ ⟨_, hs, .inl rfl⟩
    · exact (hs.2 b (Nat.ne_of_lt (Nat.lt_of_lt_of_le (Heap.lt_size e) I.ok.above))).trans (I.base.keep b o e n hb hx)
    · obtain ⟨sl, e1⟩ := I.base.slot b o e n hb hx
      exact ⟨sl, (hs.2 b (Nat.ne_of_lt (Nat.lt_of_lt_of_le (Heap.lt_size e) I.ok.above))).trans e1⟩
    · obtain ⟨o', e1⟩ := I.base.there b o e hx
      exact ⟨o', (hs.2 b (Nat.ne_of_lt (Nat.lt_of_lt_of_le (Heap.lt_size e) I.ok.above))).trans e1⟩
    · by_cases hj : j = i
      · subst hj
        rw [hi] at e1; cases e1
        rw [List.getElem?_set_self hiσ] at e2
        cases e2
        exact ⟨u, r, .inl ⟨hk, by simp⟩⟩
      · rw [List.getElem?_set_ne (Ne.symm hj)] at e2
        obtain ⟨u', r', q⟩ := hl j y v' e1 e2 e3
        refine ⟨u', r', ?_⟩
        rcases q with ⟨k, e⟩ | ⟨k, c, e, z⟩
        · refine .inl ⟨k, ?_⟩
          have : y ≠ x := fun e => hj (nodup_ix hN e1 (e ▸ hi))
          simp [this, e]
        · exact .inr ⟨k, c, e, z.sameBut hs (cne y c e)⟩
    · obtain ⟨w', z⟩ := I.cell y c e
      exact ⟨w', z.sameBut hs (cne y c e)⟩
    · obtain ⟨e, n, ne, nf, d⟩ := I.pin p hp
      exact ⟨(hs.2 p.1 ne).trans e, n, ne, nf, d⟩
  · have hfn : X.fn x = true := by
      rcases hf with z | z
      · exact z
      · rw [z] at hk; cases hk
    obtain ⟨c, hc⟩ := I.ok.has x (.inl hk)
    obtain ⟨w', z⟩ := I.cell x c hc
    refine wpAny_storeName_cell I.ok.kind hk hc z (fun h' hc' hs => ?_)
    obtain ⟨oc, hoc, hocd⟩ := id z
    refine h { s with heap := h' } ⟨I.ok, I.os, I.bare, ⟨fun b o e n hb hx => ?_, fun b o e n hb hx => ?_, I.base.free, fun b o e hx => ?_, I.base.tups, I.base.frzs, I.base.tbls⟩, ⟨m, hn.sameBut hs (Ne.symm (cne x c hc)), fun j y v' e1 e2 e3 => ?_⟩, fun y c' e => ?_, I.free, I.freeC, fun p hp => ?_, tracked ⟨oc, hoc, I.freeC x c hc⟩ hs, by simpa using I.len⟩ ⟨c, hs, .inr hc⟩
    · exact (hs.2 b (Nat.ne_of_lt (Nat.lt_of_lt_of_le (Heap.lt_size e) (I.ok.cab x c hfn hc)))).trans (I.base.keep b o e n hb hx)
    · obtain ⟨sl, e1⟩ := I.base.slot b o e n hb hx
      exact ⟨sl, (hs.2 b (Nat.ne_of_lt (Nat.lt_of_lt_of_le (Heap.lt_size e) (I.ok.cab x c hfn hc)))).trans e1⟩
    · obtain ⟨o', e1⟩ := I.base.there b o e hx
      exact ⟨o', (hs.2 b (Nat.ne_of_lt (Nat.lt_of_lt_of_le (Heap.lt_size e) (I.ok.cab x c hfn hc)))).trans e1⟩
    · by_cases hj : j = i
      · subst hj
        rw [hi] at e1; cases e1
        rw [List.getElem?_set_self hiσ] at e2
        cases e2
        exact ⟨u, r, .inr ⟨.inl hk, c, hc, hc'⟩⟩
      · rw [List.getElem?_set_ne (Ne.symm hj)] at e2
        obtain ⟨u', r', q⟩ := hl j y v' e1 e2 e3
        refine ⟨u', r', ?_⟩
        rcases q with q | ⟨k, c', e, z'⟩
        · exact .inl q
        · refine .inr ⟨k, c', e, z'.sameBut hs ?_⟩
          rintro rfl
          exact hj (nodup_ix hN e1 (I.ok.inj _ _ _ e hc ▸ hi))
    · by_cases hcc : c' = c
      · subst hcc; exact ⟨_, hc'⟩
      · obtain ⟨w2, z2⟩ := I.cell y c' e
        exact ⟨w2, z2.sameBut hs hcc⟩
    · obtain ⟨e, n, ne, nf, d⟩ := I.pin p hp
      refine ⟨(hs.2 p.1 ?_).trans e, n, ne, nf, d⟩
      intro q
      rw [q, hoc] at e
      have q' : oc = p.2 := Option.some.inj e
      exact d w' (by rw [← q']; exact hocd)
theorem store_ok {M : Model} {A : Around} {E : Value → Shared → Prop} {i : Nat} {x : Str} {v : V} {u : Value} {Q : Unit → Shared → Prop} (I : Inv X pins σ H s) (hN : X.N.Nodup) (hi : X.N[i]? = some x) (hx : Loc X.env.scope x) (r : RelV v u)
    (h : ∀ s', Inv X pins (σ.set i (some v)) H s' → Q () s') (hf : X.fn x = true ∨ X.env.scope.names.lookup x = some .local := by first | exact .inl rfl | exact .inr rfl | assumption) : wpAny M A (storeName X.env x u) Q E s :=
  store_ok2 I hN hi hx r (fun s' I' _ => h s' I') hf
theorem Inv.call' {s' : Shared} {ch : List Addr} (I : Inv X pins σ H s) (ho : s'.os = s.os) (u : Un (frs X.stack) ch H H' s.heap s'.heap) (hok : HOk X.prog X.w H' s'.heap) (hg : AllBare s'.gens)
    (hch : ∀ b ∈ ch, (b ∈ X.ex ∨ X.s₀.heap.objs.size ≤ b) ∧ b ≠ X.env.locals ∧ (∀ x c, X.env.cells.lookup x = some c → c ≠ b) ∧ ∀ p ∈ X.pn ++ pins, p.1 ≠ b) : Inv X pins σ H' s' := by
  obtain ⟨h', g', d', t', o'⟩ := s'
  have e : o' = s.os := ho
  subst e
  exact I.call (g' := g') (t' := t') (d' := d') u hok hg hch
end

noncomputable abbrev XK := Value → Option Addr → Hp → Prop
noncomputable abbrev St := List (Option V)
noncomputable abbrev VK := V → Hp → Prop
noncomputable abbrev TE := St → Hp → VK → Prop
noncomputable abbrev TT := St → Hp → (Bool → Hp → Prop) → Prop
noncomputable abbrev TA := St → Hp → (List V → Hp → Prop) → Prop
structure Ends where
  nx : St → Hp → Prop
  rt : VK
  bk : St → Hp → Prop := fun _ _ => False
  ct : St → Hp → Prop := fun _ _ => False
noncomputable abbrev TS := Ends → St → Hp → Prop

noncomputable def EP (X : Cx) (pins : List (Addr × Obj)) (σ : St) (Q : VK) (u : Value) (s' : Shared) : Prop := ∃ v H', Inv X pins σ H' s' ∧ RelV v u ∧ Q v H'
noncomputable def TP (X : Cx) (pins : List (Addr × Obj)) (σ : St) (Q : Bool → Hp → Prop) (b : Bool) (s' : Shared) : Prop := ∃ H', Inv X pins σ H' s' ∧ Q b H'
noncomputable def AP (X : Cx) (pins : List (Addr × Obj)) (σ : St) (Q : List V → Hp → Prop) (us : List Value) (s' : Shared) : Prop := ∃ vs H', Inv X pins σ H' s' ∧ Vals vs us ∧ Q vs H'
noncomputable def SP (X : Cx) (pins : List (Addr × Obj)) (D : Ends) (f : Flow) (s' : Shared) : Prop :=
  match f with
  | .next => ∃ σ' H', Inv X pins σ' H' s' ∧ D.nx σ' H'
  | .brk => ∃ σ' H', Inv X pins σ' H' s' ∧ D.bk σ' H'
  | .cont => ∃ σ' H', Inv X pins σ' H' s' ∧ D.ct σ' H'
  | .ret u => ∃ v σ' H', Inv X pins σ' H' s' ∧ RelV v u ∧ D.rt v H'

noncomputable def PE (X : Cx) (e : Expr) (t : TE) : Prop :=
  ∀ (pins : List (Addr × Obj)) (s : Shared) (σ : St) (H : Hp) (Q : VK), Inv X pins σ H s → t σ H Q → wpAny (model X.prog X.w) X.A (eval e X.env) (EP X pins σ Q) X.xe s
noncomputable def PT (X : Cx) (e : Expr) (t : TT) : Prop :=
  ∀ (pins : List (Addr × Obj)) (s : Shared) (σ : St) (H : Hp) (Q : Bool → Hp → Prop), Inv X pins σ H s → t σ H Q → wpAny (model X.prog X.w) X.A (isTrue e X.env (eval e X.env)) (TP X pins σ Q) X.xe s
noncomputable def PW (X : Cx) (e : Expr) (t : TT) : Prop :=
  ∀ (whole : Sem Value) (pins : List (Addr × Obj)) (s : Shared) (σ : St) (H : Hp) (Q : Bool → Hp → Prop), Inv X pins σ H s → t σ H Q → wpAny (model X.prog X.w) X.A (isTrue e X.env whole) (TP X pins σ Q) X.xe s
theorem PW.pt {X : Cx} {e : Expr} {t : TT} (h : PW X e t) : PT X e t := h _
noncomputable def PA (X : Cx) (es : List Expr) (t : TA) : Prop :=
  ∀ (pos : Pos) (pins : List (Addr × Obj)) (s : Shared) (σ : St) (H : Hp) (Q : List V → Hp → Prop), Inv X pins σ H s → t σ H Q → wpAny (model X.prog X.w) X.A (spliced (backTo pos (starEach es X.env))) (AP X pins σ Q) X.xe s
noncomputable def PS (X : Cx) (st : Stmt) (t : TS) : Prop :=
  ∀ (pins : List (Addr × Obj)) (s : Shared) (σ : St) (H : Hp) (D : Ends), Inv X pins σ H s → t D σ H → wpAny (model X.prog X.w) X.A (exec st X.env) (SP X pins D) X.xe s
noncomputable def PSs (X : Cx) (st : List Stmt) (t : TS) : Prop :=
  ∀ (pins : List (Addr × Obj)) (s : Shared) (σ : St) (H : Hp) (D : Ends), Inv X pins σ H s → t D σ H → wpAny (model X.prog X.w) X.A (execs st X.env) (SP X pins D) X.xe s
theorem thn {α : Type} {t : Sem α} {Q Q' : α → Shared → Prop} {M : Model} {A : Around} {E : Value → Shared → Prop} {s : Shared} (h : wpAny M A t Q E s) (hQ : ∀ a s, Q a s → Q' a s) : wpAny M A t Q' E s := wpAny_mono h hQ fun _ _ x => x
end L2

namespace L2
open PySem PySem.Spec PyProof.Rows
section
variable {X : Cx}

theorem bin {a b : Expr} {ta tb : TE} (ha : PE X a ta) (hb : PE X b tb) {pins : List (Addr × Obj)} {s : Shared} {σ : St} {H : Hp} {R : V → V → Hp → Prop} (I : Inv X pins σ H s) (h : ta σ H fun x H1 => tb σ H1 fun y H2 => R x y H2)
    {α : Type} {Q : α → Shared → Prop} {f : Value → Value → Sem α}
    (hf : ∀ v u s2 x y H2, Inv X pins σ H2 s2 → RelV x v → RelV y u → R x y H2 → wpAny (model X.prog X.w) X.A (f v u) Q X.xe s2) :
    wpAny (model X.prog X.w) X.A (eval a X.env) (fun v s₁ => wpAny (model X.prog X.w) X.A (eval b X.env) (fun u s₂ => wpAny (model X.prog X.w) X.A (f v u) Q X.xe s₂) X.xe s₁) X.xe s := by
  refine thn (ha pins s σ H _ I h) fun v s1 ⟨x, H1, I1, r1, q1⟩ => ?_
  refine thn (hb pins s1 σ H1 _ I1 q1) fun u s2 ⟨y, H2, I2, r2, q2⟩ => ?_
  exact hf v u s2 x y H2 I2 r1 r2 q2

noncomputable def tVar (i : Nat) : TE := fun σ H Q => ∃ v, σ[i]? = some (some v) ∧ Q v H
noncomputable def tC (v : V) : TE := fun _ H Q => Q v H
theorem pe_var {i : Nat} {x : Str} {pos : Pos} (hN : X.N[i]? = some x) (hv : Vis X.env.scope x) (hd : (x == ("__debug__" : Str)) = false := by decide) (hcd : (x == ("__classdict__" : Str)) = false := by decide) : PE X (.Name x pos) (tVar i) := by
  intro pins s σ H Q I h
  obtain ⟨v, e, h⟩ := h
  obtain ⟨m, hn, hl⟩ := I.loc
  obtain ⟨u, r, l⟩ := hl i x v hN e hv
  have fin : EP X pins σ Q u s := ⟨v, H, I, r, h⟩
  rcases l with ⟨hk, hm⟩ | ⟨hk, c, hc, hcell⟩
  · exact wpAny_Name (wpAny_loadName_local I.ok.kind hk hn hm fin) hd
  · rcases hk with hk | hk
    · exact wpAny_Name (wpAny_loadName_cell I.ok.kind hk hc hcell fin) hd
    · exact wpAny_Name (wpAny_loadName_free I.ok.kind hk hc hcell fin hcd) hd
theorem pe_int {i j pos} : PE X (.Constant (.int i) j pos) (tC (.int i)) := fun _ _ _ H _ I h => wpAny_Constant_int ⟨.int i, H, I.tok _, ⟨_, rfl⟩, h⟩
theorem pe_bl {b j pos} : PE X (.Constant (.bool b) j pos) (tC (.bl b)) := fun _ _ _ H _ I h => Constant_bool ⟨.bl b, H, I, rfl, h⟩
theorem pe_non {j pos} : PE X (.Constant .none j pos) (tC .non) := fun _ _ _ H _ I h => Constant_none ⟨.non, H, I, rfl, h⟩
theorem pe_str {x j pos} : PE X (.Constant (.str x) j pos) (tC (.str x)) := fun _ _ _ H _ I h => Calls.Constant_str ⟨.str x, H, I.tok _, ⟨_, rfl⟩, h⟩

noncomputable def Gl (X : Cx) (x : Str) : Prop := X.env.kindOf x = some .globalImplicit
theorem ld_glob {E : Value → Shared → Prop} {pins : List (Addr × Obj)} {s : Shared} {σ : St} {H : Hp} {x : Str} {u : Value} {pos : Pos} {Q : Value → Shared → Prop} (I : Inv X pins σ H s) (hg : Gl X x) (hm : X.mg x = some u) (h : Q u s)
    (hd : (x == ("__debug__" : Str)) = false := by decide) : wpAny (model X.prog X.w) X.A (eval (.Name x pos) X.env) Q E s :=
  Calls.Name_function_global I.ok.kind hg (Calls.loadGlobal_global (by rw [I.ok.glob]; exact I.mod.glob.keeps I.bk) hm h) hd
theorem ld_blt {E : Value → Shared → Prop} {pins : List (Addr × Obj)} {s : Shared} {σ : St} {H : Hp} {x : Str} {u : Value} {pos : Pos} {Q : Value → Shared → Prop} (I : Inv X pins σ H s) (hg : Gl X x) (hm : X.mg x = none) (hv : bootBuiltins x = some u) (h : Q u s)
    (hn : x ≠ "__name__" := by decide) (hd : (x == ("__debug__" : Str)) = false := by decide) : wpAny (model X.prog X.w) X.A (eval (.Name x pos) X.env) Q E s := by
  obtain ⟨mb, h1, h2⟩ := I.mod.blt
  exact Calls.Name_function_global I.ok.kind hg (Calls.loadGlobal_builtin (by rw [I.ok.glob]; exact I.mod.glob.keeps I.bk) hm (by rw [I.ok.blt]; exact h1.keeps I.bk) ((h2 x hn).trans hv) h) hd
theorem pe_glob {x : Str} {v : V} {u : Value} {pos : Pos} (hg : Gl X x) (hm : X.mg x = some u) (r : RelV v u) (hd : (x == ("__debug__" : Str)) = false := by decide) : PE X (.Name x pos) (tC v) :=
  fun _ _ _ H _ I h => ld_glob I hg hm ⟨v, H, I, r, h⟩ hd
theorem pe_bltn {x : Str} {v : V} {u : Value} {pos : Pos} (hg : Gl X x) (hm : X.mg x = none) (hv : bootBuiltins x = some u) (r : RelV v u) (hn : x ≠ "__name__" := by decide) (hd : (x == ("__debug__" : Str)) = false := by decide) : PE X (.Name x pos) (tC v) :=
  fun _ _ _ H _ I h => ld_blt I hg hm hv ⟨v, H, I, r, h⟩ hn hd

variable {a b : Expr} {ta tb : TE} {pos : Pos}
variable {tA tB' : TT} {rest : List Expr}
noncomputable def tAnd (t u : TT) : TT := fun σ H Q => t σ H fun c H1 => if c = true then u σ H1 Q else Q false H1
noncomputable def tOr (t u : TT) : TT := fun σ H Q => t σ H fun c H1 => if c = true then Q true H1 else u σ H1 Q
noncomputable def tNot (t : TT) : TT := fun σ H Q => t σ H fun c H1 => Q (!c) H1
theorem pw_and1 (ha : PT X a tA) : PW X (.BoolOp .And [a] pos) tA := by
  intro wh pins s σ H Q I h
  refine isTrue_and (thn (ha pins s σ H Q I h) fun c s1 e => ?_)
  cases c with
  | true => exact isTrue_and_nil e
  | false => exact e
theorem pw_or1 (ha : PT X a tA) : PW X (.BoolOp .Or [a] pos) tA := by
  intro wh pins s σ H Q I h
  refine isTrue_or (thn (ha pins s σ H Q I h) fun c s1 e => ?_)
  cases c with
  | false => exact isTrue_or_nil e
  | true => exact e
theorem pw_and (ha : PT X a tA) (hb : PW X (.BoolOp .And (b :: rest) pos) tB') : PW X (.BoolOp .And (a :: b :: rest) pos) (tAnd tA tB') := by
  intro wh pins s σ H Q I h
  refine isTrue_and (thn (ha pins s σ H _ I h) fun c s1 ⟨H1, I1, q1⟩ => ?_)
  cases c with
  | true => exact hb wh pins s1 σ H1 Q I1 q1
  | false => exact ⟨H1, I1, q1⟩
theorem pw_or (ha : PT X a tA) (hb : PW X (.BoolOp .Or (b :: rest) pos) tB') : PW X (.BoolOp .Or (a :: b :: rest) pos) (tOr tA tB') := by
  intro wh pins s σ H Q I h
  refine isTrue_or (thn (ha pins s σ H _ I h) fun c s1 ⟨H1, I1, q1⟩ => ?_)
  cases c with
  | true => exact ⟨H1, I1, q1⟩
  | false => exact hb wh pins s1 σ H1 Q I1 q1
theorem pt_not (ha : PT X a tA) : PT X (.UnaryOp .Not a pos) (tNot tA) := by
  intro pins s σ H Q I h
  exact isTrue_not (ha pins s σ H (fun c H1 => Q (!c) H1) I h)
noncomputable def tAndV (ta tb : TE) : TE := fun σ H Q => ta σ H fun x H1 => ∃ c, x = .bl c ∧ if c = true then tb σ H1 Q else Q (.bl false) H1
noncomputable def tOrV (ta tb : TE) : TE := fun σ H Q => ta σ H fun x H1 => ∃ c, x = .bl c ∧ if c = true then Q (.bl true) H1 else tb σ H1 Q
theorem pe_one {op} {t : TE} (h : PE X a t) : PE X (.BoolOp op [a] pos) t := fun pins s σ H Q I hw => BoolOp_one (h pins s σ H Q I hw)
theorem pe_and (ha : PE X a ta) (hb : PE X (.BoolOp .And (b :: rest) pos) tb) : PE X (.BoolOp .And (a :: b :: rest) pos) (tAndV ta tb) := by
  intro pins s σ H Q I h
  refine BoolOp_and (thn (ha pins s σ H _ I h) fun v s1 ⟨x, H1, I1, r1, q1⟩ => ?_)
  obtain ⟨c, rfl, q1⟩ := q1
  cases r1
  refine wpAny_truthy_bool ?_
  cases c with
  | true => exact hb pins s1 σ H1 Q I1 q1
  | false => exact ⟨.bl false, H1, I1, rfl, q1⟩
theorem pe_or (ha : PE X a ta) (hb : PE X (.BoolOp .Or (b :: rest) pos) tb) : PE X (.BoolOp .Or (a :: b :: rest) pos) (tOrV ta tb) := by
  intro pins s σ H Q I h
  refine BoolOp_or (thn (ha pins s σ H _ I h) fun v s1 ⟨x, H1, I1, r1, q1⟩ => ?_)
  obtain ⟨c, rfl, q1⟩ := q1
  cases r1
  refine wpAny_truthy_bool ?_
  cases c with
  | false => exact hb pins s1 σ H1 Q I1 q1
  | true => exact ⟨.bl true, H1, I1, rfl, q1⟩
end
end L2

namespace L2
open PySem PySem.Spec PyProof.Rows

noncomputable def SqL (K : PySem.W.Frag) (H : Hp) (a : Addr) (xs : List V) : Prop :=
  Rd H a (.lst xs) ∨
    ∃ (o : Obj) (its : Array Value) (n : Nat), K.lookup a = some o ∧ o.cls = .type "list" ∧ o.dict = none ∧ o.data = .seq its n ∧ its.size ≤ sizeLine ∧ Vals xs its.toList
noncomputable def SqT (K : PySem.W.Frag) (H : Hp) (a : Addr) (xs : List V) : Prop :=
  Rd H a (.tup xs) ∨
    ∃ (o : Obj) (its : Array Value) (n : Nat), K.lookup a = some o ∧ o.cls = .type "tuple" ∧ o.data = .seq its n ∧ its.size ≤ sizeLine ∧ Vals xs its.toList
noncomputable def absV : Value → Option V
  | .none => some .non
  | .bool b => some (.bl b)
  | .int i _ => some (.int i)
  | .str x _ => some (.str x)
  | .bytes b _ => some (.byt b)
  | .float b _ => some (.flt b)
  | .ref a => some (.ref a)
  | .type n => some (.ty n)
  | _ => none
theorem RelV.abs {x : V} {u : Value} (r : RelV x u) : absV u = some x := by
  cases x with
  | non => cases r; rfl
  | bl _ => cases r; rfl
  | int _ => obtain ⟨t, rfl⟩ := r; rfl
  | str _ => obtain ⟨t, rfl⟩ := r; rfl
  | byt _ => obtain ⟨t, rfl⟩ := r; rfl
  | flt _ => obtain ⟨t, rfl⟩ := r; rfl
  | ref _ => cases r; rfl
  | ty _ => cases r; rfl
theorem RelV.inj {x y : V} {u : Value} (r : RelV x u) (q : RelV y u) : x = y := Option.some.inj (r.abs.symm.trans q.abs)
theorem Vals.inj : ∀ {xs ys : List V} {us : List Value}, Vals xs us → Vals ys us → xs = ys
  | _, _, _, .nil, .nil => rfl
  | _, _, _, .cons r t, .cons r' t' => by rw [r.inj r', Vals.inj t t']
section
variable {X : Cx} {pins : List (Addr × Obj)} {σ : St} {H : Hp} {s : Shared} {a : Addr} {xs ys : List V}
theorem SqL.of {K : PySem.W.Frag} (h : H a = some (.lst xs)) : SqL K H a xs := .inl (.inl h)
theorem SqT.of {K : PySem.W.Frag} (h : H a = some (.tup xs)) : SqT K H a xs := .inl (.inl h)
theorem Inv.list (I : Inv X pins σ H s) (h : SqL X.K H a xs) : ∃ its : List Value, Vals xs its ∧ PlainL s.heap a its.toArray ∧ xs.length ≤ sizeLine := by
  rcases h with h | ⟨o, its, n, hk, hc, hd, hs, hz, r⟩
  · obtain ⟨z, its, n, r, e⟩ := h.ok I.hok
    exact ⟨its, r, ⟨_, n, e, rfl, rfl, rfl⟩, z⟩
  · refine ⟨its.toList, r, ⟨o, n, I.kIn a o hk, hc, hd, by simpa using hs⟩, ?_⟩
    have e := r.length
    simp only [Array.length_toList] at e
    omega
theorem Inv.tuple (I : Inv X pins σ H s) (h : SqT X.K H a xs) : ∃ its : List Value, Vals xs its ∧ IsTup s.heap a its.toArray ∧ xs.length ≤ sizeLine := by
  rcases h with h | ⟨o, its, n, hk, hc, hs, hz, r⟩
  · obtain ⟨z, its, r, p⟩ := h.ok I.hok
    exact ⟨its, r, p, z⟩
  · refine ⟨its.toList, r, ⟨o, I.kIn a o hk, hc, n, by simpa using hs⟩, ?_⟩
    have e := r.length
    simp only [Array.length_toList] at e
    omega
theorem Inv.list_inj (I : Inv X pins σ H s) (h : SqL X.K H a xs) (h' : SqL X.K H a ys) : xs = ys := by
  obtain ⟨its, r, ⟨o, n, e, _, _, d⟩, _⟩ := I.list h
  obtain ⟨its', r', ⟨o', n', e', _, _, d'⟩, _⟩ := I.list h'
  rw [e] at e'; cases e'
  rw [d] at d'
  injection d' with d1 _
  have : its = its' := by simpa using congrArg Array.toList d1
  subst this
  exact r.inj r'
theorem Inv.tuple_inj (I : Inv X pins σ H s) (h : SqT X.K H a xs) (h' : SqT X.K H a ys) : xs = ys := by
  obtain ⟨its, r, ⟨o, e, _, n, d⟩, _⟩ := I.tuple h
  obtain ⟨its', r', ⟨o', e', _, n', d'⟩, _⟩ := I.tuple h'
  rw [e] at e'; cases e'
  rw [d] at d'
  injection d' with d1 _
  have : its = its' := by simpa using congrArg Array.toList d1
  subst this
  exact r.inj r'
end

noncomputable abbrev Cx.wish (X : Cx) (E : Value → Shared → Prop) : Cx := { X with xe := E }
noncomputable abbrev Cx.nox (X : Cx) : Cx := X.wish fun _ _ => False
theorem Cx.Ok.wish {X : Cx} (ok : X.Ok) (E : Value → Shared → Prop) : (X.wish E).Ok :=
  ⟨ok.mod, ok.kind, ok.glob, ok.blt, ok.above, ok.inj, ok.has, ok.cab, ok.hd, ok.frames, ok.stk, ok.exf, ok.bs, ok.bsz, ok.noex, ok.exfs, ok.funs, ok.frf⟩
theorem Cx.Ok.unwish {X : Cx} {E : Value → Shared → Prop} (ok : (X.wish E).Ok) : X.Ok :=
  ⟨ok.mod, ok.kind, ok.glob, ok.blt, ok.above, ok.inj, ok.has, ok.cab, ok.hd, ok.frames, ok.stk, ok.exf, ok.bs, ok.bsz, ok.noex, ok.exfs, ok.funs, ok.frf⟩
section
variable {X : Cx} {pins : List (Addr × Obj)} {σ : St} {H : Hp} {s : Shared} {E : Value → Shared → Prop}
theorem Inv.wish (I : Inv X pins σ H s) (E : Value → Shared → Prop) : Inv (X.wish E) pins σ H s := ⟨I.ok.wish E, I.os, I.bare, I.base, I.loc, I.cell, I.free, I.freeC, I.pin, I.hok, I.len⟩
theorem Inv.unwish (I : Inv (X.wish E) pins σ H s) : Inv X pins σ H s := ⟨I.ok.unwish, I.os, I.bare, I.base, I.loc, I.cell, I.free, I.freeC, I.pin, I.hok, I.len⟩
theorem SP.unwish {D : Ends} {f : Flow} {s' : Shared} (h : SP (X.wish E) pins D f s') : SP X pins D f s' := by
  cases f with
  | next => obtain ⟨σ', H', I, q⟩ := h; exact ⟨σ', H', I.unwish, q⟩
  | brk => obtain ⟨σ', H', I, q⟩ := h; exact ⟨σ', H', I.unwish, q⟩
  | cont => obtain ⟨σ', H', I, q⟩ := h; exact ⟨σ', H', I.unwish, q⟩
  | ret u => obtain ⟨v, σ', H', I, r, q⟩ := h; exact ⟨v, σ', H', I.unwish, r, q⟩
theorem PE.nox {e : Expr} {t : TE} (h : PE X.nox e t) : PE X e t := fun pins s σ H Q I hw =>
  wpAny_mono (h pins s σ H Q (I.wish _) hw) (fun _ _ ⟨v, H', I', r, q⟩ => ⟨v, H', I'.unwish, r, q⟩) fun _ _ z => False.elim z
theorem PT.nox {e : Expr} {t : TT} (h : PT X.nox e t) : PT X e t := fun pins s σ H Q I hw =>
  wpAny_mono (h pins s σ H Q (I.wish _) hw) (fun _ _ ⟨H', I', q⟩ => ⟨H', I'.unwish, q⟩) fun _ _ z => False.elim z
theorem PSs.nox {st : List Stmt} {t : TS} (h : PSs X.nox st t) : PSs X st t := fun pins s σ H D I hw =>
  wpAny_mono (h pins s σ H D (I.wish _) hw) (fun _ _ q => q.unwish) fun _ _ z => False.elim z
end

section
variable {X : Cx} {st : Stmt} {rest : List Stmt} {t u : TS} {e : Expr} {te : TE} {pos : Pos}
noncomputable def tNext : TS := fun D σ H => D.nx σ H
noncomputable def tSeq (t u : TS) : TS := fun D σ H => t { D with nx := u D } σ H
theorem pss_nil : PSs X [] tNext := fun _ _ σ H _ I h => wpAny_execs_nil ⟨σ, H, I, h⟩
theorem pss_cons (h1 : PS X st t) (h2 : PSs X rest u) : PSs X (st :: rest) (tSeq t u) := by
  intro pins s σ H D I h
  refine wpAny_execs_cons (thn (h1 pins s σ H { D with nx := u D } I h) fun f s1 q => ?_)
  cases f with
  | next =>
    obtain ⟨σ', H', I', q⟩ := q
    exact h2 pins s1 σ' H' D I' q
  | ret v => exact q
  | brk => exact q
  | cont => exact q
theorem pss_one (h1 : PS X st t) : PSs X [st] t := by
  intro pins s σ H D I h
  refine wpAny_execs_cons (thn (h1 pins s σ H D I h) fun f s1 q => ?_)
  cases f with
  | next => exact wpAny_execs_nil q
  | ret v => exact q
  | brk => exact q
  | cont => exact q
theorem Inv.quiet {pins : List (Addr × Obj)} {σ : St} {H : Hp} {s : Shared} (I : Inv X pins σ H s) : interactive X.env = false := by simp [interactive, I.ok.kind]
noncomputable def tDrop (te : TE) : TS := fun D σ H => te σ H fun _ H1 => D.nx σ H1
theorem ps_expr (he : PE X e te) (hs : swapsWith e none pos.line X.env = pure false := by rfl) : PS X (.Expr e pos) (tDrop te) := by
  intro pins s σ H D I h
  exact wpAny_Expr_any (thn (he pins s σ H _ I h) fun v s1 ⟨x, H1, I1, r1, q1⟩ => ⟨σ, H1, I1, q1⟩) I.quiet hs
noncomputable def tRet (te : TE) : TS := fun D σ H => te σ H D.rt
theorem ps_ret (he : PE X e te) : PS X (.Return (some e) pos) (tRet te) := by
  intro pins s σ H D I h
  exact wpAny_Return_some (thn (he pins s σ H _ I h) fun v s1 ⟨x, H1, I1, r1, q1⟩ => ⟨x, σ, H1, I1, r1, q1⟩)
noncomputable def tIfS (c : TT) (t u : TS) : TS := fun D σ H => c σ H fun b H1 => if b = true then t D σ H1 else u D σ H1
theorem ps_if {c : Expr} {a b : List Stmt} {tc : TT} (hc : PT X c tc) (ha : PSs X a t) (hb : PSs X b u) : PS X (.If c a b pos) (tIfS tc t u) := by
  intro pins s σ H D I h
  refine wpAny_If (thn (hc pins s σ H _ I h) fun d s1 ⟨H1, I1, q1⟩ => ?_)
  cases d with
  | true => exact ha pins s1 σ H1 D I1 q1
  | false => exact hb pins s1 σ H1 D I1 q1
end

noncomputable abbrev TG := V → St → Hp → (St → Hp → Prop) → Prop
noncomputable abbrev TGs := List V → St → Hp → (St → Hp → Prop) → Prop
noncomputable def PG (X : Cx) (target : Expr) (t : TG) : Prop :=
  ∀ (pins : List (Addr × Obj)) (s : Shared) (σ : St) (H : Hp) (v : V) (u : Value) (Q : St → Hp → Prop), Inv X pins σ H s → RelV v u → t v σ H Q →
    wpAny (model X.prog X.w) X.A (assign target X.env u) (fun _ s' => ∃ σ' H', Inv X pins σ' H' s' ∧ Q σ' H') X.xe s
noncomputable def PGs (X : Cx) (ts : List Expr) (t : TGs) : Prop :=
  ∀ (pins : List (Addr × Obj)) (s : Shared) (σ : St) (H : Hp) (vs : List V) (us : List Value) (Q : St → Hp → Prop), Inv X pins σ H s → Vals vs us → t vs σ H Q →
    wpAny (model X.prog X.w) X.A (assignInOrder ((assignEach ts X.env).map (·.2)) us) (fun _ s' => ∃ σ' H', Inv X pins σ' H' s' ∧ Q σ' H') X.xe s
noncomputable abbrev TSet := V → V → V → Hp → (Hp → Prop) → Prop
noncomputable def PSet (X : Cx) (t : TSet) : Prop :=
  ∀ (pins : List (Addr × Obj)) (s : Shared) (σ : St) (H : Hp) (o i v : V) (ov iv u : Value) (Q : Hp → Prop), Inv X pins σ H s → RelV o ov → RelV i iv → RelV v u → t o i v H Q →
    wpAny (model X.prog X.w) X.A (setItem ov iv u) (fun _ s' => ∃ H', Inv X pins σ H' s' ∧ Q H') X.xe s
section
variable {X : Cx} {pos : Pos}
noncomputable def gName (i : Nat) : TG := fun v σ H Q => Q (σ.set i (some v)) H
theorem pg_name {i : Nat} {x : Str} (hN : X.N.Nodup) (hi : X.N[i]? = some x) (hx : Loc X.env.scope x) (hf : X.fn x = true ∨ X.env.scope.names.lookup x = some .local := by first | exact .inl rfl | exact .inr rfl | assumption) : PG X (.Name x pos) (gName i) := by
  intro pins s σ H v u Q I r h
  exact wpAny_assign_Name (store_ok I hN hi hx r (fun s' I' => ⟨_, H, I', h⟩) hf)
noncomputable def gNil : TGs := fun vs σ H Q => vs = [] ∧ Q σ H
noncomputable def gCons (t : TG) (u : TGs) : TGs := fun vs σ H Q => ∃ v r, vs = v :: r ∧ t v σ H fun σ' H' => u r σ' H' Q
theorem pgs_nil : PGs X [] gNil := by
  intro pins s σ H vs us Q I r h
  obtain ⟨e, h⟩ := h
  subst e
  cases r
  exact assignInOrder_nil ⟨σ, H, I, h⟩
theorem pgs_cons {e : Expr} {es : List Expr} {t : TG} {u : TGs} (h1 : PG X e t) (h2 : PGs X es u)
    (hs : (assignEach (e :: es) X.env).map (·.2) = assign e X.env :: (assignEach es X.env).map (·.2) := by rfl) : PGs X (e :: es) (gCons t u) := by
  intro pins s σ H vs us Q I r h
  obtain ⟨v, vr, e1, h⟩ := h
  subst e1
  cases r with
  | cons r rr =>
    rw [hs]
    refine assignInOrder_cons (thn (h1 pins s σ H _ _ _ I r h) fun _ s1 ⟨σ1, H1, I1, q1⟩ => ?_)
    exact h2 pins s1 σ1 H1 _ _ Q I1 rr q1
noncomputable def gTup (K : PySem.W.Frag) (n : Nat) (t : TGs) : TG := fun v σ H Q => ∃ a xs, v = .ref a ∧ SqT K H a xs ∧ xs.length = n ∧ t xs σ H Q
theorem pg_tup {es : List Expr} {k : Nat} {t : TGs} {n : Nat} (hc : X.calm = true) (h : PGs X es t)
    (hn : (assignEach es X.env).length = n := by rfl) (hst : (assignEach es X.env).findIdx? (·.1) = none := by rfl) : PG X (.Tuple es k pos) (gTup X.K n t) := by
  intro pins s σ H v u Q I r hw
  obtain ⟨a, xs, e1, hq, hl, hw⟩ := hw
  subst e1
  cases r
  obtain ⟨its, rv, ht, hz⟩ := I.tuple hq
  refine assign_Tuple_tuple (I.ok.hd hc) ht (by simp [hn, ← hl, rv.length]) hst fun h' hx => ?_
  have I1 : Inv X pins σ H { s with heap := h' } := I.kept (t' := s.toks) fun b o e => hx b o (Nat.ne_of_lt (Heap.lt_size e)) e
  exact h pins _ σ H xs _ Q I1 (by simpa using rv) hw
noncomputable def gSub (to ti : TE) (t : TSet) : TG := fun v σ H Q => to σ H fun o H1 => ti σ H1 fun i H2 => t o i v H2 fun H3 => Q σ H3
theorem pg_sub {o i : Expr} {to ti : TE} {t : TSet} (ho : PE X o to) (hi : PE X i ti) (hs : PSet X t)
    (ha : ∀ v, assign (.Subscript o i pos) X.env v = (do
      let ov ← holding [v] (eval o X.env)
      let iv ← holding [v, ov] (eval i X.env)
      standAt pos
      holding [v, ov, iv] (setItem ov iv v)
      release [v, ov, iv] []) := by intro _; rfl) : PG X (.Subscript o i pos) (gSub to ti t) := by
  intro pins s σ H v u Q I r h
  rw [ha]
  refine wpAny_bind (wpAny_holding (thn (ho pins s σ H _ I h) fun ov s1 ⟨x, H1, I1, r1, q1⟩ => ?_))
  refine wpAny_bind (wpAny_holding (thn (hi pins s1 σ H1 _ I1 q1) fun iv s2 ⟨y, H2, I2, r2, q2⟩ => ?_))
  refine wpAny_bind (wpAny_standAt (wpAny_bind (wpAny_holding (thn (hs pins s2 σ H2 x y v ov iv u _ I2 r1 r2 r q2) fun _ s3 ⟨H3, I3, q3⟩ => ?_))))
  exact wpAny_release ⟨σ, H3, I3, q3⟩
noncomputable def tAsg (te : TE) (g : TG) : TS := fun D σ H => te σ H fun x H1 => g x σ H1 D.nx
theorem ps_asg {tg e : Expr} {te : TE} {g : TG} (he : PE X e te) (hg : PG X tg g) (hs : swapsWithSole [tg] e pos.line X.env = pure false := by rfl) (hw : swappedStores [tg] e X.env = pure none := by rfl)
    (h1 : (assignEach [tg] X.env).map (·.2) = [assign tg X.env] := by rfl) : PS X (.Assign [tg] e pos) (tAsg te g) := by
  intro pins s σ H D I h
  refine wpAny_Assign_stores (thn (he pins s σ H _ I h) fun v s1 ⟨x, H1, I1, r1, q1⟩ => ?_) hs hw
  rw [h1]
  exact thn (hg pins s1 σ H1 x v _ I1 r1 q1) fun _ s2 q => q
end

section
variable {X : Cx} {pos : Pos}
noncomputable def tWhile (c : TT) (tb : TS) : TS := fun D σ H => ∃ W : Nat → St → Hp → Prop, (∃ m, W m σ H) ∧ ∀ m σ H, W m σ H →
  c σ H fun b H1 => if b = true then ∃ N : St → Hp → Prop, (∀ σ' H', N σ' H' → ∃ m', m' < m ∧ W m' σ' H') ∧ tb { D with nx := N, ct := N, bk := D.nx } σ H1 else D.nx σ H1
theorem ps_while {c : Expr} {body : List Stmt} {tc : TT} {tb : TS} (hp : PassesOwn (model X.prog X.w) X.A X.env X.xe) (hc : PT X c tc) (hb : PSs X body tb) : PS X (.While c body [] pos) (tWhile tc tb) := by
  intro pins s σ H D I h
  obtain ⟨W, ⟨m0, w0⟩, turn⟩ := h
  refine wpAny_While (codeAny_whileLoop (fun n s' => ∃ σ' H', Inv X pins σ' H' s' ∧ W n σ' H') ?_ m0 ⟨σ, H, I, w0⟩)
  rintro n s1 ⟨σ1, H1, I1, w1⟩
  refine wpAny_passesOwn hp (thn (hc pins s1 σ1 H1 _ I1 (turn n σ1 H1 w1)) fun b s2 ⟨H2, I2, q2⟩ => ?_)
  cases b with
  | true =>
    obtain ⟨N, hN, q2⟩ := q2
    rw [if_pos rfl]
    refine wpAny_passesOwn hp (thn (hb pins s2 σ1 H2 _ I2 q2) fun f s3 q3 => ?_)
    cases f with
    | next =>
      obtain ⟨σ3, H3, I3, n3⟩ := q3
      obtain ⟨m', hm, w3⟩ := hN σ3 H3 n3
      exact ⟨m', hm, σ3, H3, I3, w3⟩
    | cont =>
      obtain ⟨σ3, H3, I3, n3⟩ := q3
      obtain ⟨m', hm, w3⟩ := hN σ3 H3 n3
      exact ⟨m', hm, σ3, H3, I3, w3⟩
    | brk => exact q3
    | ret v => exact q3
  | false =>
    rw [if_neg Bool.false_ne_true]
    exact wpAny_execs_nil ⟨σ1, H2, I2, q2⟩
end

structure It where
  go : Nat → Hp → Prop
  yld : Nat → Hp → V → Hp → Prop
  stop : Nat → Hp → Prop
noncomputable def FpOk (X : Cx) (pins : List (Addr × Obj)) (H : Hp) (b : Addr) : Prop :=
  H b = none ∧ b ≠ X.env.locals ∧ b ∉ X.fs ∧ (b ∈ X.ex ∨ X.s₀.heap.objs.size ≤ b) ∧ (∀ x c, X.env.cells.lookup x = some c → c ≠ b) ∧ ∀ p ∈ X.pn ++ pins, p.1 ≠ b
theorem Inv.fpOk {X : Cx} {pins : List (Addr × Obj)} {σ : St} {H H' : Hp} {s : Shared} {b : Addr} (I : Inv X pins σ H s) (hb : s.heap.objs.size ≤ b) (hn : H' b = none) : FpOk X pins H' b := by
  refine ⟨hn, Nat.ne_of_gt (Nat.lt_of_lt_of_le I.lt hb), I.nofs hb, .inr (Nat.le_trans I.sz hb), fun x c e z => ?_, fun p hp z => ?_⟩
  · obtain ⟨v, q⟩ := I.cell x c e
    exact absurd (Nat.lt_of_lt_of_le q.lt (by rw [z]; exact hb)) (Nat.lt_irrefl _)
  · exact absurd (Nat.lt_of_lt_of_le (Heap.lt_size (I.pin p hp).1) (by rw [z]; exact hb)) (Nat.lt_irrefl _)
structure Turn (P : Program) (w : World) (K : PySem.W.Frag) (tg : Expr) (J : It) (fp : List Addr) (it : Addr) (tn : Nat → Heap → Prop) : Prop where
  mem : it ∈ fp
  obj : ∀ i h, tn i h → ∀ b ∈ fp, ∃ o, h.get? b = some o ∧ ∀ v, o.data ≠ .cell v
  keep : ∀ i h h', tn i h → (∀ b ∈ fp, ∀ o, h.get? b = some o → h'.get? b = some o) → tn i h'
  item : ∀ (X : Cx), X.prog = P → X.w = w → X.K = K → X.calm = true → ∀ (i : Nat) (pins : List (Addr × Obj)) (s : Shared) (σ : St) (H : Hp) (E : Value → Shared → Prop), Inv X pins σ H s → (∀ b ∈ fp, FpOk X pins H b) → tn i s.heap → J.go i H →
    wpAny (model P w) X.A (pyNext (.ref it)) (fun r s1 => ∃ u, r = some u ∧
      wpAny (model P w) X.A (letOwnedTupleGo tg (.ref it) u) (fun _ s2 => ∃ x H', Inv X pins σ H' s2 ∧ RelV x u ∧ J.yld i H x H' ∧ tn (i + 1) s2.heap ∧ ∀ b ∈ fp, H' b = none) E s1) E s
  done : ∀ (X : Cx), X.prog = P → X.w = w → X.K = K → X.calm = true → ∀ (i : Nat) (pins : List (Addr × Obj)) (s : Shared) (σ : St) (H : Hp) (E : Value → Shared → Prop), Inv X pins σ H s → (∀ b ∈ fp, FpOk X pins H b) → tn i s.heap → J.stop i H →
    wpAny (model P w) X.A (pyNext (.ref it)) (fun r s1 => r = none ∧ Inv X pins σ H s1) E s
  self : ∀ (A : Around) (i : Nat) (s : Shared) (Q : Value → Shared → Prop) (E : Value → Shared → Prop), tn i s.heap → Q (.ref it) s → wpAny (model P w) A (pyIter (.ref it)) Q E s
noncomputable abbrev TI := St → Hp → (It → Hp → Prop) → Prop
noncomputable def PIE (X : Cx) (pins : List (Addr × Obj)) (σ : St) (tg : Expr) (R : It → Hp → Prop) (itv : Value) (s2 : Shared) : Prop :=
  ∃ (it : Addr) (fp : List Addr) (tn : Nat → Heap → Prop) (J : It) (H' : Hp), itv = .ref it ∧ Inv X pins σ H' s2 ∧ Turn X.prog X.w X.K tg J fp it tn ∧ tn 0 s2.heap ∧ (∀ b ∈ fp, FpOk X pins H' b) ∧ R J H'
noncomputable def PI (X : Cx) (tg iter : Expr) (wi : TI) : Prop :=
  ∀ (pins : List (Addr × Obj)) (s : Shared) (σ : St) (H : Hp) (R : It → Hp → Prop), Inv X pins σ H s → wi σ H R →
    wpAny (model X.prog X.w) X.A (eval iter X.env) (fun v s1 => wpAny (model X.prog X.w) X.A (pyIter v) (PIE X pins σ tg R) X.xe s1) X.xe s

theorem go_of {M : Model} {A : Around} {E : Value → Shared → Prop} {s : Shared} {tg : Expr} {it : Addr} {u : Value} {o : Obj} {n : String} {vs : Array Value} {Q : Unit → Shared → Prop} (ho : s.heap.get? it = some o) (hc : o.cls = .type n) (hd : o.data = .fields vs)
    (hn : ["enumerate", "zip", "dict_itemiterator", "dict_reverseitemiterator", "odict_iterator", "itertools.zip_longest", "itertools.pairwise"].contains n = false) (hQ : Q () s) : wpAny M A (letOwnedTupleGo tg (.ref it) u) Q E s := by
  unfold letOwnedTupleGo
  cases tg <;> first
    | exact wpAny_pure hQ
    | (cases u <;> first
        | exact wpAny_pure hQ
        | (refine wpAny_bind (wpAny_load ho ?_)
           rw [hc, hd]
           show wpAny M A (if (["enumerate", "zip", "dict_itemiterator", "dict_reverseitemiterator", "odict_iterator", "itertools.zip_longest", "itertools.pairwise"].contains n && vs[0]? == some (rawInt _)) = true then _ else _) Q E s
           rw [if_neg (by intro h; rw [hn, Bool.false_and] at h; cases h)]
           exact wpAny_pure hQ))

noncomputable def Itl (K : PySem.W.Frag) (a : Addr) : It :=
  ⟨fun i H => ∃ xs x, SqL K H a xs ∧ xs[i]? = some x, fun i H x H' => H' = H ∧ ∀ xs, SqL K H a xs → xs[i]? = some x, fun i H => ∃ xs, SqL K H a xs ∧ xs.length ≤ i⟩
theorem turn_list {P : Program} {w : World} {K : PySem.W.Frag} {tg : Expr} (a it : Addr) : Turn P w K tg (Itl K a) [it] it (fun i h => h.IsListIter it a i) where
  mem := by simp
  obj := fun i h st b hb => by
    have e : b = it := by simpa using hb
    subst e
    obtain ⟨o, e, c, d⟩ := st
    exact ⟨o, e, fun v z => by rw [d] at z; cases z⟩
  keep := fun i h h' st k => st.at fun o e => k it (by simp) o e
  item := by
    intro X hP hw hK hc i pins s σ H E I hf st hg
    subst hP hw hK
    obtain ⟨xs, x, hq, hx⟩ := hg
    obtain ⟨its, rv, p, hz⟩ := I.list hq
    obtain ⟨u, hu, ru⟩ := rv.get hx
    obtain ⟨f0, f1, f2, f3, f4, f5⟩ := hf it (by simp)
    refine wpAny_pyNext_list_item st p.isList (x := u) (by simpa using hu) fun h' st' sb => ?_
    have I1 : Inv X pins σ H { s with heap := h' } := I.turned (t' := s.toks) (fun b o hb e => (sb.2 b hb).trans e) f0 f1 f3 f4 f5
    obtain ⟨o, e, c, d⟩ := id st'
    exact ⟨u, rfl, go_of (s := { s with heap := h' }) e c d (by decide) ⟨x, H, I1, ru, ⟨rfl, fun ys hy => by rw [I.list_inj hy hq]; exact hx⟩, st', fun b hb => (hf b hb).1⟩⟩
  done := by
    intro X hP hw hK hc i pins s σ H E I hf st hg
    subst hP hw hK
    obtain ⟨xs, hq, hx⟩ := hg
    obtain ⟨its, rv, p, hz⟩ := I.list hq
    obtain ⟨f0, f1, f2, f3, f4, f5⟩ := hf it (by simp)
    have hl := rv.length
    exact wpAny_pyNext_list_end (I.ok.hd hc) st p.isList (by simp; omega) fun h' eb => ⟨rfl, I.turned (t' := s.toks) (fun b o hb e => eb b o hb e) f0 f1 f3 f4 f5⟩
  self := fun _ _ _ _ _ st h => wpAny_pyIter_listiter st h
end L2

namespace L2
open PySem PySem.Spec PyProof.Rows
section
variable {X : Cx} {tg : Expr}
noncomputable def tFor (wi : TI) (g : TG) (tb : TS) : TS := fun D σ H => wi σ H fun J H1 => ∃ W : Nat → Nat → St → Hp → Prop, (∃ m, W 0 m σ H1) ∧ ∀ i m σ H, W i m σ H →
  (J.stop i H ∧ D.nx σ H) ∨ (J.go i H ∧ ∃ N : St → Hp → Prop, (∀ σ' H', N σ' H' → ∃ m', m' < m ∧ W (i + 1) m' σ' H') ∧ ∀ x H', J.yld i H x H' → g x σ H' fun σ2 H2 => tb { D with nx := N, ct := N, bk := D.nx } σ2 H2)
noncomputable def pinsAt (fp : List Addr) (h : Heap) : List (Addr × Obj) := fp.filterMap fun b => (h.get? b).map fun o => (b, o)
theorem mem_pinsAt {fp : List Addr} {h : Heap} {b : Addr} {o : Obj} (hb : b ∈ fp) (e : h.get? b = some o) : (b, o) ∈ pinsAt fp h := List.mem_filterMap.mpr ⟨b, hb, by rw [e]; rfl⟩
theorem of_pinsAt {fp : List Addr} {h : Heap} {p : Addr × Obj} (hp : p ∈ pinsAt fp h) : p.1 ∈ fp ∧ h.get? p.1 = some p.2 := by
  obtain ⟨b, hb, e⟩ := List.mem_filterMap.mp hp
  cases q : h.get? b with
  | none => rw [q] at e; cases e
  | some o =>
    rw [q] at e
    have e' : (b, o) = p := Option.some.inj e
    subst e'
    exact ⟨hb, q⟩
theorem Inv.pinned {pins : List (Addr × Obj)} {σ : St} {H : Hp} {s : Shared} {fp : List Addr} (I : Inv X pins σ H s) (hf : ∀ b ∈ fp, FpOk X pins H b) (ho : ∀ b ∈ fp, ∃ o, s.heap.get? b = some o ∧ ∀ v, o.data ≠ .cell v) : Inv X (pins ++ pinsAt fp s.heap) σ H s :=
  I.pins_of fun p hp => (List.mem_append.mp hp).elim (fun z => I.pin p (List.mem_append_right _ z)) fun z => by
    obtain ⟨hb, e⟩ := of_pinsAt z
    obtain ⟨f0, f1, f2, _⟩ := hf p.1 hb
    obtain ⟨o, e', d⟩ := ho p.1 hb
    rw [e] at e'; cases e'
    exact ⟨e, f0, f1, f2, d⟩
theorem Inv.unpinned {pins pl : List (Addr × Obj)} {σ : St} {H : Hp} {s : Shared} (I : Inv X (pins ++ pl) σ H s) : Inv X pins σ H s := I.pins_of fun p hp => I.pin p (List.mem_append_right _ (List.mem_append_left _ hp))
theorem ps_for {iter : Expr} {body : List Stmt} {wi : TI} {g : TG} {tb : TS} {pos : Pos} (hp : PassesOwn (model X.prog X.w) X.A X.env X.xe) (hc : X.calm = true) (hi : PI X tg iter wi) (hg : PG X tg g) (hb : PSs X body tb)
    (hs : ∀ x, foldedSetIterable iter X.env x = pure x := by intro _; rfl) : PS X (.For tg iter body [] pos) (tFor wi g tb) := by
  intro pins s σ H D I h
  refine wpAny_For (thn (hi pins s σ H _ I h) fun v s1 h1 => thn h1 fun itv s2 h2 => ?_) hs
  obtain ⟨it, fp, tn, J, H2, e, I2, T, st2, f2, W, ⟨m0, w0⟩, turn⟩ := h2
  subst e
  -- what stays true of the iterator's objects through the loop
  have stat : ∀ {H' : Hp}, (∀ b ∈ fp, H' b = none) → ∀ b ∈ fp, FpOk X pins H' b := fun hn b hb => ⟨hn b hb, (f2 b hb).2⟩
  refine codeAny_forLoop_any (fun n s' => ∃ i σ' H', Inv X pins σ' H' s' ∧ tn i s'.heap ∧ (∀ b ∈ fp, H' b = none) ∧ W i n σ' H') ?_ m0 ⟨0, σ, H2, I2, st2, fun b hb => (f2 b hb).1, w0⟩
  rintro n s3 ⟨i, σ3, H3, I3, st3, fr3, w3⟩
  rcases turn i n σ3 H3 w3 with ⟨stop, qn⟩ | ⟨go, N, hN, step⟩
  · refine wpAny_passesOwn hp (thn (T.done X rfl rfl rfl hc i pins s3 σ3 H3 X.xe I3 (stat fr3) st3 stop) fun r s4 ⟨hr, I4⟩ => ?_)
    subst hr
    exact wpAny_execs_nil ⟨σ3, H3, I4, qn⟩
  · refine wpAny_passesOwn hp (thn (T.item X rfl rfl rfl hc i pins s3 σ3 H3 X.xe I3 (stat fr3) st3 go) fun r s4 ⟨u, hr, h4⟩ => ?_)
    subst hr
    refine wpAny_passesOwn hp (thn h4 fun _ s5 ⟨x, H5, I5, r5, y5, st5, fr5⟩ => ?_)
    have I5' := I5.pinned (stat fr5) (T.obj _ _ st5)
    refine wpAny_passesOwn hp (thn (hg _ s5 σ3 H5 x u _ I5' r5 (step x H5 y5)) fun _ s6 ⟨σ6, H6, I6, q6⟩ => ?_)
    refine wpAny_passesOwn hp (thn (hb _ s6 σ6 H6 _ I6 q6) fun f s7 q7 => ?_)
    have again : ∀ {σ7 : St} {H7 : Hp}, Inv X (pins ++ pinsAt fp s5.heap) σ7 H7 s7 → N σ7 H7 → ∃ m, m < n ∧ ∃ i σ' H', Inv X pins σ' H' s7 ∧ tn i s7.heap ∧ (∀ b ∈ fp, H' b = none) ∧ W i m σ' H' := fun {σ7 H7} I7 n7 => by
      obtain ⟨m', hm, w7⟩ := hN σ7 H7 n7
      refine ⟨m', hm, i + 1, σ7, H7, I7.unpinned, T.keep _ _ _ st5 fun b hb o e => (I7.pin (b, o) (List.mem_append_right _ (List.mem_append_right _ (mem_pinsAt hb e)))).1, fun b hb => ?_, w7⟩
      obtain ⟨o, e, d⟩ := T.obj _ _ st5 b hb
      exact (I7.pin (b, o) (List.mem_append_right _ (List.mem_append_right _ (mem_pinsAt hb e)))).2.1
    cases f with
    | next => obtain ⟨σ7, H7, I7, n7⟩ := q7; exact again I7 n7
    | cont => obtain ⟨σ7, H7, I7, n7⟩ := q7; exact again I7 n7
    | brk => obtain ⟨σ7, H7, I7, q7⟩ := q7; exact ⟨σ7, H7, I7.unpinned, q7⟩
    | ret v => obtain ⟨x7, σ7, H7, I7, r7, q7⟩ := q7; exact ⟨x7, σ7, H7, I7.unpinned, r7, q7⟩
end

end L2

namespace L2
open PySem PySem.Spec PyProof.Rows

noncomputable abbrev R2 := V → V → Hp → VK → Prop
noncomputable def OpR (X : Cx) (f : Value → Value → Sem Value) (r : R2) : Prop :=
  ∀ (pins : List (Addr × Obj)) (s : Shared) (σ : St) (H : Hp) (x y : V) (v u : Value) (Q : VK), Inv X pins σ H s → RelV x v → RelV y u → r x y H Q →
    wpAny (model X.prog X.w) X.A (f v u) (EP X pins σ Q) X.xe s
noncomputable def UnR (X : Cx) (f : Value → Sem Value) (r : V → Hp → VK → Prop) : Prop :=
  ∀ (pins : List (Addr × Obj)) (s : Shared) (σ : St) (H : Hp) (x : V) (v : Value) (Q : VK), Inv X pins σ H s → RelV x v → r x H Q →
    wpAny (model X.prog X.w) X.A (f v) (EP X pins σ Q) X.xe s
noncomputable def CallR (X : Cx) (f : Value) (r : List V → Hp → VK → Prop) : Prop :=
  ∀ (pins : List (Addr × Obj)) (s : Shared) (σ : St) (H : Hp) (xs : List V) (us : List Value) (Q : VK), Inv X pins σ H s → Vals xs us → r xs H Q →
    wpAny (model X.prog X.w) X.A (call f us) (EP X pins σ Q) X.xe s
noncomputable def TruR (X : Cx) (r : V → Hp → (Bool → Hp → Prop) → Prop) : Prop :=
  ∀ (pins : List (Addr × Obj)) (s : Shared) (σ : St) (H : Hp) (x : V) (v : Value) (Q : Bool → Hp → Prop), Inv X pins σ H s → RelV x v → r x H Q →
    wpAny (model X.prog X.w) X.A (truthy v) (TP X pins σ Q) X.xe s

noncomputable def tOp (r : R2) (ta tb : TE) : TE := fun σ H Q => ta σ H fun x H1 => tb σ H1 fun y H2 => r x y H2 Q
noncomputable def tUn (r : V → Hp → VK → Prop) (ta : TE) : TE := fun σ H Q => ta σ H fun x H1 => r x H1 Q
noncomputable def rI (C : Int → Int → Prop) (g : Int → Int → V) : R2 := fun x y H Q => ∃ i j, x = .int i ∧ y = .int j ∧ C i j ∧ Q (g i j) H
noncomputable def rI0 (g : Int → Int → V) : R2 := fun x y H Q => ∃ i j, x = .int i ∧ y = .int j ∧ Q (g i j) H
noncomputable def rU (g : Int → V) : V → Hp → VK → Prop := fun x H Q => ∃ i, x = .int i ∧ Q (g i) H

section
variable {X : Cx} {a b c : Expr} {ta tb tc : TE} {pos : Pos}

theorem binT (ha : PE X a ta) (hb : PE X b tb) {pins : List (Addr × Obj)} {s : Shared} {σ : St} {H : Hp} {R : V → V → Hp → Prop} (I : Inv X pins σ H s)
    (h : ta σ H fun x H1 => tb σ H1 fun y H2 => R x y H2) {Q : Value → Shared → Prop} {f : Value → Value → Sem Value}
    (hf : ∀ v u s2 x y H2, Inv X pins σ H2 s2 → RelV x v → RelV y u → R x y H2 → wpAny (model X.prog X.w) X.A (f v u) Q X.xe s2) :
    wpAny (model X.prog X.w) X.A (eval a X.env) (fun v s₁ => wpAny (model X.prog X.w) X.A (eval b X.env) (fun u s₂ => wpAny (model X.prog X.w) X.A (f v u) Q X.xe s₂) X.xe s₁) X.xe s := by
  refine thn (ha pins s σ H _ I h) fun v s1 ⟨x, H1, I1, r1, q1⟩ => ?_
  refine thn (hb pins s1 σ H1 _ I1 q1) fun u s2 ⟨y, H2, I2, r2, q2⟩ => ?_
  exact hf v u s2 x y H2 I2 r1 r2 q2

theorem pe_op {op : Operator} {r : R2} (ho : OpR X (binaryOp op) r) (ha : PE X a ta) (hb : PE X b tb) : PE X (.BinOp a op b pos) (tOp r ta tb) := by
  intro pins s σ H Q I h
  exact wpAny_BinOp (binT ha hb I h fun v u s2 x y H2 I2 rx ry q => ho pins s2 σ H2 x y v u Q I2 rx ry q)
theorem pe_un {op : UnaryOp} {r : V → Hp → VK → Prop} (ho : UnR X (unaryOp op) r) (ha : PE X a ta) : PE X (.UnaryOp op a pos) (tUn r ta) := by
  intro pins s σ H Q I h
  exact UnaryOp_ (thn (ha pins s σ H _ I h) fun v s1 ⟨x, H1, I1, r1, q1⟩ => ho pins s1 σ H1 x v Q I1 r1 q1)
theorem opI {f : Value → Value → Sem Value} {C : Int → Int → Prop} {g : Int → Int → Int}
    (rule : ∀ (i j : Int) (t u : Tok) (s : Shared) (Q : Value → Shared → Prop) (E : Value → Shared → Prop), C i j → Q (.int (g i j) s.toks) { s with toks := s.toks + 1 } → wpAny (model X.prog X.w) X.A (f (.int i t) (.int j u)) Q E s) :
    OpR X f (rI C fun i j => .int (g i j)) := by
  intro pins s σ H x y v u Q I rx ry h
  obtain ⟨i, j, rfl, rfl, hc, q⟩ := h
  obtain ⟨t, rfl⟩ := rx
  obtain ⟨t', rfl⟩ := ry
  exact rule i j t t' s _ _ hc ⟨.int (g i j), H, I.tok _, ⟨_, rfl⟩, q⟩
theorem opI0 {f : Value → Value → Sem Value} {g : Int → Int → Int}
    (rule : ∀ (i j : Int) (t u : Tok) (s : Shared) (Q : Value → Shared → Prop) (E : Value → Shared → Prop), Q (.int (g i j) s.toks) { s with toks := s.toks + 1 } → wpAny (model X.prog X.w) X.A (f (.int i t) (.int j u)) Q E s) :
    OpR X f (rI0 fun i j => .int (g i j)) := by
  intro pins s σ H x y v u Q I rx ry h
  obtain ⟨i, j, rfl, rfl, q⟩ := h
  obtain ⟨t, rfl⟩ := rx
  obtain ⟨t', rfl⟩ := ry
  exact rule i j t t' s _ _ ⟨.int (g i j), H, I.tok _, ⟨_, rfl⟩, q⟩
theorem opB0 {f : Value → Value → Sem Value} {g : Int → Int → Bool}
    (rule : ∀ (i j : Int) (t u : Tok) (s : Shared) (Q : Value → Shared → Prop) (E : Value → Shared → Prop), Q (.bool (g i j)) s → wpAny (model X.prog X.w) X.A (f (.int i t) (.int j u)) Q E s) :
    OpR X f (rI0 fun i j => .bl (g i j)) := by
  intro pins s σ H x y v u Q I rx ry h
  obtain ⟨i, j, rfl, rfl, q⟩ := h
  obtain ⟨t, rfl⟩ := rx
  obtain ⟨t', rfl⟩ := ry
  exact rule i j t t' s _ _ ⟨.bl (g i j), H, I, rfl, q⟩

noncomputable def CPow (i j : Int) : Prop := 0 ≤ j ∧ j ≤ 1000000 ∧ i.natAbs < 2 ^ 64
noncomputable def CMul (i j : Int) : Prop := (-(2 ^ 64) < i ∧ i < 2 ^ 64) ∨ (-(2 ^ 64) < j ∧ j < 2 ^ 64)
theorem CMul.ok {i j : Int} (h : CMul i j) : IntMulOk i j := by
  rcases h with ⟨h1, h2⟩ | ⟨h1, h2⟩
  · exact .of_left (intBits_le_64 h1 h2)
  · exact .of_right (intBits_le_64 h1 h2)
theorem op_add : OpR X (binaryOp .Add) (rI0 fun i j => .int (i + j)) := opI0 fun _ _ _ _ _ _ _ q => add_int q
theorem op_mod : OpR X (binaryOp .Mod) (rI (fun _ j => 0 < j) fun i j => .int (i % j)) := opI fun i j _ _ _ _ _ hc q => by
  have h1 : (0 : Int) < j := hc
  exact mod_int' (by omega) (by rw [Int.fmod_eq_emod_of_nonneg i (by omega)]; exact q)
theorem op_pow : OpR X (binaryOp .Pow) (rI CPow fun i j => .int (i ^ j.toNat)) := opI fun _ _ _ _ _ _ _ hc q => pow_int_small hc.1 hc.2.1 hc.2.2 q
theorem unI {f : Value → Sem Value} {g : Int → Int}
    (rule : ∀ (i : Int) (t : Tok) (s : Shared) (Q : Value → Shared → Prop) (E : Value → Shared → Prop), Q (.int (g i) s.toks) { s with toks := s.toks + 1 } → wpAny (model X.prog X.w) X.A (f (.int i t)) Q E s) :
    UnR X f (rU fun i => .int (g i)) := by
  intro pins s σ H x v Q I rx h
  obtain ⟨i, rfl, q⟩ := h
  obtain ⟨t, rfl⟩ := rx
  exact rule i t s _ _ ⟨.int (g i), H, I.tok _, ⟨_, rfl⟩, q⟩
theorem un_neg : UnR X (unaryOp .USub) (rU fun i => .int (-i)) := unI fun _ _ _ _ _ q => neg_int q
end

section
variable {X : Cx} {a b c : Expr} {ta tb tc : TE} {pos : Pos}
theorem op_gt : OpR X (compareOp .Gt) (rI0 fun i j => .bl (decide (j < i))) := opB0 fun _ _ _ _ _ _ _ q => gt_int q
theorem OpR.or {f : Value → Value → Sem Value} {r r' : R2} (h : OpR X f r) (h' : OpR X f r') : OpR X f (fun x y H Q => r x y H Q ∨ r' x y H Q) := by
  intro pins s σ H x y v u Q I rx ry q
  rcases q with q | q
  · exact h pins s σ H x y v u Q I rx ry q
  · exact h' pins s σ H x y v u Q I rx ry q

theorem nomark (b : Expr) {op : CmpOp} (h : op ≠ .In := by decide) (h2 : op ≠ .NotIn := by decide) : behindInMarks op b = false := by
  have e1 : (op == CmpOp.In) = false := by cases op <;> first | rfl | exact absurd rfl h
  have e2 : (op == CmpOp.NotIn) = false := by cases op <;> first | rfl | exact absurd rfl h2
  cases b <;> simp [behindInMarks, e1, e2]
theorem pe_cmpR {op : CmpOp} {r : R2} (ho : OpR X (compareOp op) r) (ha : PE X a ta) (hb : PE X b tb) (hm : behindInMarks op b = false) : PE X (.Compare a [op] [b] pos) (tOp r ta tb) := by
  intro pins s σ H Q I h
  exact wpAny_Compare1 (binT ha hb I h fun v u s2 x y H2 I2 rx ry q => ho pins s2 σ H2 x y v u Q I2 rx ry q) hm
noncomputable def tTest (t : TE) : TT := fun σ H Q => t σ H fun x H' => ∃ k, x = .bl k ∧ Q k H'
theorem pt_cmpR {op : CmpOp} {r : R2} (ho : OpR X (compareOp op) r) (ha : PE X a ta) (hb : PE X b tb) (hm : behindInMarks op b = false) : PT X (.Compare a [op] [b] pos) (tTest (tOp r ta tb)) := by
  intro pins s σ H Q I h
  refine wpAny_isTrue_Compare1 (thn (ha pins s σ H _ I h) fun v s1 ⟨x, H1, I1, r1, q1⟩ => thn (hb pins s1 σ H1 _ I1 q1) fun u s2 ⟨y, H2, I2, r2, q2⟩ =>
    thn (ho pins s2 σ H2 x y v u _ I2 r1 r2 q2) fun c s3 ⟨z, H3, I3, r3, k, e, q3⟩ => ?_) hm
  subst e
  cases r3
  exact wpAny_truthy_bool ⟨H3, I3, q3⟩
noncomputable def TruV (K : PySem.W.Frag) (x : V) (H : Hp) (k : Bool) : Prop :=
  match x with
  | .non => k = false
  | .bl b => k = b
  | .int i => k = (i != 0)
  | .str y => y.length ≤ sizeLine ∧ k = ((y.length : Int) != 0)
  | .byt y => y.size ≤ sizeLine ∧ k = ((y.size : Int) != 0)
  | .ref p => (∃ xs, SqL K H p xs ∧ k = !xs.isEmpty) ∨ (∃ xs, SqT K H p xs ∧ k = !xs.isEmpty) ∨ ∃ kvs, H p = some (.dK kvs) ∧ k = !kvs.isEmpty
  | _ => False
theorem isEmpty_kv {κ : Type} {kvs : List (κ × V)} {vs : List (κ × Value)} (r : KV kvs vs) : (!vs.isEmpty) = !kvs.isEmpty := by
  cases r <;> rfl
theorem isEmpty_of {xs : List V} {its : List Value} (r : Vals xs its) : (!its.toArray.isEmpty) = !xs.isEmpty := by
  cases r <;> simp
theorem line63 : (sizeLine : Nat) < 2 ^ 63 := by rw [sizeLine_eq]; decide
theorem tru_ok : TruR X (fun x H Q => ∃ k, TruV X.K x H k ∧ Q k H) := by
  intro pins s σ H x v Q I rx h
  obtain ⟨k, e, q⟩ := h
  have hl := line63
  have hs : sizeLine = 16777216 := sizeLine_eq
  cases x with
  | non =>
    cases rx
    have e' : k = false := e
    subst e'
    exact truthy_none ⟨H, I, q⟩
  | bl b =>
    cases rx
    have e' : k = b := e
    subst e'
    exact wpAny_truthy_bool ⟨H, I, q⟩
  | int i =>
    obtain ⟨t, rfl⟩ := rx
    have e' : k = (i != 0) := e
    subst e'
    exact PySem.P.truthy_int ⟨H, I, q⟩
  | str y =>
    obtain ⟨t, rfl⟩ := rx
    obtain ⟨hy, e'⟩ : y.length ≤ sizeLine ∧ k = ((y.length : Int) != 0) := e
    subst e'
    exact PySem.P.truthy_str (by omega) ⟨H, I.tok _, q⟩
  | byt y =>
    obtain ⟨t, rfl⟩ := rx
    obtain ⟨hy, e'⟩ : y.size ≤ sizeLine ∧ k = ((y.size : Int) != 0) := e
    subst e'
    exact PySem.W.truthy_bytes (by omega) ⟨H, I.tok _, q⟩
  | ref p =>
    cases rx
    have e' : (∃ xs, SqL X.K H p xs ∧ k = !xs.isEmpty) ∨ (∃ xs, SqT X.K H p xs ∧ k = !xs.isEmpty) ∨ ∃ kvs, H p = some (.dK kvs) ∧ k = !kvs.isEmpty := e
    rcases e' with ⟨xs, hx, e'⟩ | ⟨xs, hx, e'⟩ | ⟨kvs, hx, e'⟩
    · subst e'
      obtain ⟨its, r, pl, hz⟩ := I.list hx
      have hlen := r.length
      exact wpAny_truthy_list pl.isList (by simp only [List.size_toArray]; omega) ⟨H, I.tok _, by rw [isEmpty_of r]; exact q⟩
    · subst e'
      obtain ⟨its, r, pl, hz⟩ := I.tuple hx
      have hlen := r.length
      exact truthy_tuple pl (by simp only [List.size_toArray]; omega) ⟨H, I.tok _, by rw [isEmpty_of r]; exact q⟩
    · subst e'
      obtain ⟨hz, hS, vs, r, m⟩ : kvs.length ≤ sizeLine ∧ (p == sysModules) = false ∧ ∃ vs, KV kvs vs ∧ s.heap.DictOf (mixKind X.prog X.w) p vs := I.hok p _ hx
      have hlen : kvs.length = vs.length := Paired.length r
      exact wpAny_truthy_dict hS m (by omega) ⟨H, I.tok _, by rw [isEmpty_kv r]; exact q⟩
  | _ => exact (show False from e).elim
theorem pt_truth (ha : PE X a ta) (he : ∀ whole, isTrue a X.env whole = (do let v ← whole; standAt a.pos; holding [v] (truthy v))) :
    PT X a (fun σ H Q => ta σ H fun x H' => ∃ k, TruV X.K x H' k ∧ Q k H') := by
  intro pins s σ H Q I h
  exact isTrue_plain (thn (ha pins s σ H _ I h) fun v s1 ⟨x, H1, I1, r1, q1⟩ => tru_ok pins s1 σ H1 x v Q I1 r1 q1) (he _)

theorem vals1 {x : V} {us : List Value} (r : Vals [x] us) : ∃ u, us = [u] ∧ RelV x u := by
  cases r with
  | cons r1 r2 => cases r2; exact ⟨_, rfl, r1⟩
theorem vals2 {x y : V} {us : List Value} (r : Vals [x, y] us) : ∃ u w', us = [u, w'] ∧ RelV x u ∧ RelV y w' := by
  cases r with
  | cons r1 r2 =>
    cases r2 with
    | cons r3 r4 => cases r4; exact ⟨_, _, rfl, r1, r3⟩
theorem call_int1 : CallR X (.type "int") (fun xs H Q => (∃ i, xs = [.int i] ∧ Q (.int i) H) ∨ ∃ k, xs = [.bl k] ∧ Q (.int (if k then 1 else 0)) H) := by
  intro pins s σ H xs us Q I r h
  rcases h with ⟨i, rfl, q⟩ | ⟨k, rfl, q⟩
  · obtain ⟨u, rfl, t, rfl⟩ := vals1 r
    exact call_int_int ⟨.int i, H, I, ⟨_, rfl⟩, q⟩
  · obtain ⟨u, rfl, r1⟩ := vals1 r
    cases r1
    exact call_int_bool ⟨.int (if k then 1 else 0), H, I.tok _, ⟨_, rfl⟩, q⟩
end
end L2

namespace L2
open PySem PySem.Spec PyProof.Rows

structure ObjM (h : Heap) (x dx C : Addr) (mA : Str → Option Value) : Prop where
  obj : h.get? x = some (PySem.W.instObj C dx)
  ns : h.Ns1 dx mA
  ne : dx ≠ x

theorem lookIn_ns {h : Heap} {dx : Addr} {mA : Str → Option Value} (n : h.Ns1 dx mA) : ∃ od, h.get? dx = some od ∧ ∀ name, PySem.W.lookIn name od = some (mA name) := by
  obtain ⟨o, es, ep, ho, hd, hk, _, hm⟩ := n
  refine ⟨o, ho, fun name => ?_⟩
  have e := hm name
  unfold nsFind findBy at e
  rw [← Array.find?_toList] at e
  unfold PySem.W.lookIn
  rw [hd]
  dsimp only
  split
  · rename_i y q
    rw [q] at e
    exact congrArg some e
  · rename_i q
    rw [q] at e
    have a : es.toList.any (·.refKey) = false := by
      rw [List.any_eq_false]
      intro y hy
      obtain ⟨z, t, hkey⟩ := hk y (Array.mem_toList_iff.mp hy)
      simp [DictEntry.refKey, hkey]
    have a' : ¬ es.toList.any (·.refKey) = true := by rw [a]; exact Bool.false_ne_true
    rw [if_neg a']
    exact congrArg some e

theorem ObjM.look {h : Heap} {x dx C : Addr} {mA : Str → Option Value} (I : ObjM h x dx C mA) : ∃ od, PySem.W.InstAt h x (PySem.W.instObj C dx) C (some od) ∧ ∀ name, PySem.W.lookIn name od = some (mA name) :=
  let ⟨od, ho, hl⟩ := lookIn_ns I.ns
  ⟨od, ⟨I.obj, rfl, rfl, ho⟩, hl⟩

section
variable {prog : Program} {w : World} {A : Around} {E : Value → Shared → Prop} {s : Shared} {K : PySem.W.Frag} {x dx C f : Addr} {mA : Str → Option Value} {name : Str} {v : Value}

theorem get_map {expr : Bool} {Q : Value → Shared → Prop} (X : K.In s.heap) (I : ObjM s.heap x dx C mA) (hg : PySem.W.plainGet K C name = true) (hh : PySem.W.hasDictIn K C = true)
    (ha : PySem.W.findIn K (.ref C) name = some none) (hv : mA name = some v) (hv' : PySem.W.handedIn v = true) (h : Q v { s with toks := s.toks + 1 }) :
    wpAny (model prog w) A (getAttr (.ref x) name expr) Q E s := by
  obtain ⟨od, J, hl⟩ := I.look
  exact PySem.W.get_value X J (PySem.W.plainGet_of hg).1 (PySem.W.findObj_own hh ha rfl (by rw [hl, hv])) hv' h

theorem get_meth {pl : Sem Bool} {Q : Value × List Value → Shared → Prop} (X : K.In s.heap) (I : ObjM s.heap x dx C mA) (hg : PySem.W.plainGet K C name = true)
    (hf : PySem.W.findIn K (.ref C) name = some (some (.ref f))) (ht : PySem.W.isFn K (.ref f) = true) (hv : mA name = none) (h : Q (.ref f, [.ref x]) s) :
    wpAny (model prog w) A (getMethod (.ref x) name pl) Q E s := by
  obtain ⟨od, J, hl⟩ := I.look
  exact PySem.W.method_fn X J (PySem.W.plainGet_of hg).1 (PySem.W.plainGet_of hg).2 hf (beq_iff_eq.mp ht) (by show (PySem.W.lookIn name od).map (·.isSome) = some false; rw [hl, hv]; rfl) h

theorem set_map {ns : List Str} {Q : Unit → Shared → Prop} (X : K.In s.heap) (I : ObjM s.heap x dx C mA)
    (hs : PySem.W.findIn K (.ref C) "__setattr__" = some (some (.builtin "object.__setattr__"))) (hp : PySem.W.plainOver K C = true) (ht : PySem.W.takerIn K C name = some none) (hh : PySem.W.hasDictIn K C = true)
    (hw : PySem.Within mA ns) (hsz : ns.length ≤ sizeLine)
    (h : ∀ h', ObjM h' x dx C (fun y => if y = name then some v else mA y) → Heap.SameBut dx s.heap h' → Q () { s with heap := h', toks := s.toks + 2 }) :
    wpAny (model prog w) A (setAttr (.ref x) name v) Q E s := by
  obtain ⟨od, J, hl⟩ := I.look
  refine PySem.W.set_plain X J hs (PySem.W.osa_open (s := { s with toks := s.toks + 1 }) (r := none) X J hp ht fun b => ?_)
  obtain ⟨cd, hc, hd'⟩ := PySem.W.any_some hh
  have hx : s.heap.get? x = some ⟨.ref C, some dx, .plain, #[]⟩ := I.obj
  refine wpAny_bind (wpAny_pure (wpAny_bind (wpAny_bind (wpAny_loadPart hx (wpAny_bind (PySem.W.Looks.here (s := { s with toks := s.toks + 1 }) (PySem.W.looks_clsIn X hc) ?_))))))
  rw [hd']
  refine wpAny_pure (a := some dx) (wpAny_bind (wpAny_pure (wpAny_bind ?_)))
  refine wpAny_nsSet1 (s := { s with toks := s.toks + 1 }) I.ns fun h' hn2 hs2 => ?_
  obtain ⟨oD, esD, epD, hoD, hdD, hcD⟩ := hn2.count (PySem.Within.cons name v hw)
  refine wpAny_bind (wpAny_lookBehind hoD (by rw [hdD]; exact pastItsLine_dict (Nat.le_trans hcD (by rw [List.length_cons]; omega))) ?_)
  exact wpAny_pure (h _ ⟨(hs2.2 _ (Ne.symm I.ne)).trans I.obj, hn2, I.ne⟩ hs2)

theorem make_map {R : Result → Shared → Prop} {vs : List Value} {kw : List (Str × Value)} (X : K.In s.heap) (hm : PySem.W.makesIn K C = true)
    (hi : PySem.W.findIn K (.ref C) "__init__" = some (some (.ref f))) (hf : PySem.W.typeIn K (.ref f) = some (.type "function"))
    (h : codeAny (model prog w) (A.under (.builtin "type.__call__" ⟨.ref C :: vs, kw⟩)) (.call (.ref f) ⟨.ref (s.heap.objs.size + 1) :: vs, kw⟩) (PySem.W.InitBack (s.heap.objs.size + 1) R)
      { s with heap := (s.heap.push PySem.W.emptyDict).push (PySem.W.instObj C s.heap.objs.size) }) :
    codeAny (model prog w) A (.call (.ref C) ⟨vs, kw⟩) R s := by
  obtain ⟨hh, g, d, t, os⟩ := s
  exact PySem.W.make_core (PySem.W.makes_of X hm) (PySem.W.looks_findIn X hi) (fun self => PySem.W.bind_fn X self hf) (.inl rfl) h
end

noncomputable def putF (f : Str) (v : V) : List (Str × V) → List (Str × V)
  | [] => [(f, v)]
  | (g, x) :: r => if g = f then (g, v) :: r else (g, x) :: putF f v r
theorem lookup_putF (f g : Str) (v : V) : ∀ fs : List (Str × V), (putF f v fs).lookup g = if g = f then some v else fs.lookup g
  | [] => by
    show List.lookup g [(f, v)] = _
    by_cases h : g = f
    · have hb : (g == f) = true := beq_iff_eq.mpr h
      simp only [List.lookup, hb, if_pos h]
    · have hb : (g == f) = false := beq_eq_false_iff_ne.mpr h
      simp only [List.lookup, hb, if_neg h]
  | (k, x) :: r => by
    have ih := lookup_putF f g v r
    rw [show putF f v ((k, x) :: r) = (if k = f then (k, v) :: r else (k, x) :: putF f v r) from rfl]
    by_cases hk : k = f
    · rw [if_pos hk]
      by_cases h : g = k
      · have hb : (g == k) = true := beq_iff_eq.mpr h
        simp only [List.lookup, hb, if_pos (h.trans hk)]
      · have hb : (g == k) = false := beq_eq_false_iff_ne.mpr h
        simp only [List.lookup, hb, if_neg (fun e : g = f => h (e.trans hk.symm))]
    · rw [if_neg hk]
      by_cases h : g = k
      · have hb : (g == k) = true := beq_iff_eq.mpr h
        simp only [List.lookup, hb, if_neg (fun e : g = f => hk (h.symm.trans e))]
      · have hb : (g == k) = false := beq_eq_false_iff_ne.mpr h
        simp only [List.lookup, hb]
        exact ih
theorem keys_putF (f : Str) (v : V) : ∀ fs : List (Str × V), f ∈ (putF f v fs).map (·.1) ∧ ∀ g, g ∈ fs.map (·.1) → g ∈ (putF f v fs).map (·.1)
  | [] => ⟨by simp [putF], fun g h => by simp at h⟩
  | (k, x) :: r => by
    obtain ⟨i1, i2⟩ := keys_putF f v r
    rw [show putF f v ((k, x) :: r) = (if k = f then (k, v) :: r else (k, x) :: putF f v r) from rfl]
    by_cases hk : k = f
    · rw [if_pos hk]
      subst hk
      exact ⟨by simp, fun g h => by simpa using h⟩
    · rw [if_neg hk]
      refine ⟨?_, fun g h => ?_⟩
      · rw [List.map_cons]
        exact List.mem_cons_of_mem _ i1
      · rw [List.map_cons] at h ⊢
        rcases List.mem_cons.mp h with e | e
        · exact List.mem_cons.mpr (.inl e)
        · exact List.mem_cons_of_mem _ (i2 g e)
theorem length_putF (f : Str) (v : V) : ∀ fs : List (Str × V), (putF f v fs).length ≤ fs.length + 1
  | [] => by simp [putF]
  | (k, x) :: r => by
    have ih := length_putF f v r
    rw [show putF f v ((k, x) :: r) = (if k = f then (k, v) :: r else (k, x) :: putF f v r) from rfl]
    by_cases hk : k = f
    · rw [if_pos hk, List.length_cons, List.length_cons]; omega
    · rw [if_neg hk, List.length_cons, List.length_cons]; omega

theorem RelO.some_of {v : V} {o : Option Value} (r : RelO (some v) o) : ∃ u, o = some u ∧ RelV v u := by
  cases o with
  | none => exact (show False from r).elim
  | some u => exact ⟨u, rfl, r⟩
theorem RelO.none_of {o : Option Value} (r : RelO none o) : o = none := by
  cases o with
  | none => rfl
  | some u => exact (show False from r).elim
theorem handed_of {v : V} {u : Value} (r : RelV v u) : PySem.W.handedIn u = true := by
  cases v with
  | non => cases (show u = Value.none from r); rfl
  | bl b => cases (show u = Value.bool b from r); rfl
  | int i => obtain ⟨t, e⟩ := (show ∃ t, u = Value.int i t from r); cases e; rfl
  | str x => obtain ⟨t, e⟩ := (show ∃ t, u = Value.str x t from r); cases e; rfl
  | byt b => obtain ⟨t, e⟩ := (show ∃ t, u = Value.bytes b t from r); cases e; rfl
  | flt b => obtain ⟨t, e⟩ := (show ∃ t, u = Value.float b t from r); cases e; rfl
  | ref a => cases (show u = Value.ref a from r); rfl
  | ty n => cases (show u = Value.type n from r); rfl

section
variable {P : Program} {w : World} {H H' : Hp} {h h' : Heap} {a C dx : Addr} {fs fs' : List (Str × V)}
theorem ins_get (hok : HOk P w H h) (e : H a = some (.ins C dx fs)) : ∃ mA, ObjM h a dx C mA ∧ (∀ f, RelO (fs.lookup f) (mA f)) ∧ PySem.Within mA (fs.map (·.1)) ∧ fs.length ≤ 1000 ∧ H dx = some (.own a) := by
  obtain ⟨d, z, ne, ob, mA, n, r, q⟩ := (show ObjOk P w H h a (.ins C dx fs) from hok a _ e)
  exact ⟨mA, ⟨ob, n, ne⟩, r, q, z, d⟩
end

structure Cls (K : PySem.W.Frag) (C : Addr) : Prop where
  pg : PySem.W.plainGet K C Str.empty = true
  hd : PySem.W.hasDictIn K C = true
  po : PySem.W.plainOver K C = true
  sa : PySem.W.findIn K (.ref C) "__setattr__" = some (some (.builtin "object.__setattr__"))
theorem Cls.get {K : PySem.W.Frag} {C : Addr} (c : Cls K C) (f : Str) : PySem.W.plainGet K C f = true := c.pg
noncomputable def NoAttr (K : PySem.W.Frag) (C : Addr) (f : Str) : Prop := PySem.W.findIn K (.ref C) f = some none
theorem NoAttr.taker {K : PySem.W.Frag} {C : Addr} {f : Str} (n : NoAttr K C f) : PySem.W.takerIn K C f = some none := by
  unfold PySem.W.takerIn
  rw [show PySem.W.findIn K (.ref C) f = some none from n]
  rfl
structure Meth (K : PySem.W.Frag) (C : Addr) (m : Str) (f : Addr) : Prop where
  at_ : PySem.W.findIn K (.ref C) m = some (some (.ref f))
  fn : PySem.W.isFn K (.ref f) = true
  kp : PySem.W.keepIn K (.ref f) = true

section
variable {X : Cx} {pins : List (Addr × Obj)} {σ : St} {H : Hp} {s : Shared} {a C dx : Addr} {fs : List (Str × V)} {f : Str} {v : V} {A : Around} {E : Value → Shared → Prop}

theorem getattr_ok {b : Bool} {Q : Value → Shared → Prop} (I : Inv X pins σ H s) (e : H a = some (.ins C dx fs)) (c : Cls X.K C) (n : NoAttr X.K C f) (l : fs.lookup f = some v)
    (h : ∀ u s', Inv X pins σ H s' → RelV v u → Q u s') : wpAny (model X.prog X.w) A (getAttr (.ref a) f b) Q E s := by
  obtain ⟨mA, O, r, _, _, _⟩ := ins_get I.hok e
  obtain ⟨u, hu, ru⟩ := RelO.some_of (v := v) (o := mA f) (by rw [← l]; exact r f)
  exact get_map I.kIn O (c.get f) c.hd n hu (handed_of ru) (h u _ (I.tok _) ru)

theorem getmeth_ok {m : Str} {g : Addr} {pl : Sem Bool} {Q : Value × List Value → Shared → Prop} (I : Inv X pins σ H s) (e : H a = some (.ins C dx fs)) (c : Cls X.K C) (k : Meth X.K C m g) (l : fs.lookup m = none)
    (h : Q (.ref g, [.ref a]) s) : wpAny (model X.prog X.w) A (getMethod (.ref a) m pl) Q E s := by
  obtain ⟨mA, O, r, _, _, _⟩ := ins_get I.hok e
  have hn : mA m = none := RelO.none_of (by rw [← l]; exact r m)
  exact get_meth I.kIn O (c.get m) k.at_ k.fn hn h

theorem setattr_ok {y : V} {u : Value} {Q : Unit → Shared → Prop} (I : Inv X pins σ H s) (e : H a = some (.ins C dx fs)) (c : Cls X.K C) (n : NoAttr X.K C f) (hl : fs.length < 1000) (ry : RelV y u)
    (h : ∀ s', Inv X pins σ (upd H a (.ins C dx (putF f y fs))) s' → Q () s') : wpAny (model X.prog X.w) A (setAttr (.ref a) f u) Q E s := by
  obtain ⟨mA, O, r, wi, _, ho⟩ := ins_get I.hok e
  have hz : (fs.map (·.1)).length ≤ sizeLine := by rw [List.length_map, sizeLine_eq]; omega
  refine set_map I.kIn O c.sa c.po n.taker c.hd wi hz fun h' O' sb => h _ ?_
  have hd : ∃ o, h'.get? dx = some o := let ⟨o, _, _, e', _⟩ := O'.ns; ⟨o, e'⟩
  refine I.write (x := a) (e := dx) (by rw [e]; exact True.intro) (.inr ho) (fun b q hb z => (sb.2 b hb).trans z) hd ?_
  refine ⟨by rw [upd_ne O.ne]; exact ho, ?_, O.ne, O'.obj, _, O'.ns, fun g => ?_, fun g hg => ?_⟩
  · have := length_putF f y fs; omega
  · show RelO ((putF f y fs).lookup g) (if g = f then some u else mA g)
    rw [lookup_putF]
    by_cases q : g = f
    · rw [if_pos q, if_pos q]; exact ry
    · rw [if_neg q, if_neg q]; exact r g
  · by_cases q : g = f
    · rw [q]; exact (keys_putF f y fs).1
    · refine (keys_putF f y fs).2 g (wi g fun z => hg ?_)
      show (if g = f then some u else mA g) = none
      rw [if_neg q]; exact z

theorem Inv.made (I : Inv X pins σ H s) : Inv X pins σ (upd (upd H s.heap.objs.size (.own (s.heap.objs.size + 1))) (s.heap.objs.size + 1) (.ins C s.heap.objs.size []))
    { s with heap := (s.heap.push PySem.W.emptyDict).push (PySem.W.instObj C s.heap.objs.size) } := by
  have e1 : (s.heap.push PySem.W.emptyDict).get? s.heap.objs.size = some PySem.W.emptyDict := Heap.get?_push_size s.heap rfl
  have e2 : ((s.heap.push PySem.W.emptyDict).push (PySem.W.instObj C s.heap.objs.size)).get? (s.heap.objs.size + 1) = some (PySem.W.instObj C s.heap.objs.size) := by
    have := Heap.get?_push_size (s.heap.push PySem.W.emptyDict) (o := PySem.W.instObj C s.heap.objs.size) rfl
    rwa [Heap.size_push] at this
  have e3 : (s.heap.push PySem.W.emptyDict).Ns s.heap.objs.size (fun _ => none) := ⟨PySem.W.emptyDict, #[], _, e1, rfl, (fun e he => absurd he (by simp)), fun _ => rfl⟩
  have I1 := I.laid (a := s.heap.objs.size) (o := .own (s.heap.objs.size + 1)) (h' := s.heap.push PySem.W.emptyDict) (t' := s.toks) (fun b u q => Heap.get?_push_of_some _ q) (Nat.le_refl _) ⟨_, e1⟩
  refine I1.laid (a := s.heap.objs.size + 1) (o := .ins C s.heap.objs.size []) (t' := s.toks) (fun b u q => Heap.get?_push_of_some _ q) (Nat.le_of_eq (Heap.size_push _ _)) ?_
  have ne : s.heap.objs.size ≠ s.heap.objs.size + 1 := Nat.ne_of_lt (Nat.lt_succ_self _)
  refine ⟨by rw [upd_ne ne, upd_same], Nat.zero_le _, ne, e2, fun _ => none, (Heap.Ns1.of_empty e3).at fun o q => Heap.get?_push_of_some _ q, fun _ => True.intro, fun y hy => absurd rfl hy⟩

theorem attr_of {prog : Program} {w : World} {env : Env} {e : Expr} {f : Str} {pos : Pos} {s : Shared} {Q : Value → Shared → Prop} (hb : attributeBase e f env (eval e env) = eval e env)
    (h : wpAny (model prog w) A (eval e env) (fun o s₁ => wpAny (model prog w) A (getAttr o f true) Q E s₁) E s) : wpAny (model prog w) A (eval (.Attribute e f pos) env) Q E s :=
  Attribute_any_ h (by rw [arm_eval_Attribute, hb])
end

noncomputable def tFld (K : PySem.W.Frag) (ta : TE) (f : Str) : TE := fun σ H Q => ta σ H fun x H1 => ∃ a C dx fs v, x = .ref a ∧ H1 a = some (.ins C dx fs) ∧ Cls K C ∧ NoAttr K C f ∧ fs.lookup f = some v ∧ Q v H1
noncomputable def sFld (K : PySem.W.Frag) (ta tv : TE) (f : Str) : TS := fun D σ H => tv σ H fun y H1 => ta σ H1 fun x H2 => ∃ a C dx fs, x = .ref a ∧ H2 a = some (.ins C dx fs) ∧ Cls K C ∧ NoAttr K C f ∧ fs.length < 1000 ∧
  D.nx σ (upd H2 a (.ins C dx (putF f y fs)))
section
variable {X : Cx} {o e value : Expr} {f : Str} {pos pos' tpos : Pos} {ta tv : TE}
theorem pe_fld (he : PE X e ta) (hb : attributeBase e f X.env (eval e X.env) = eval e X.env) : PE X (.Attribute e f pos) (tFld X.K ta f) := by
  intro pins s σ H Q I h
  refine attr_of hb (thn (he pins s σ H _ I h) fun u s1 ⟨x, H1, I1, rx, a, C, dx, fs, v, ex, ea, c, n, l, q⟩ => ?_)
  subst ex
  obtain rfl : u = Value.ref a := rx
  exact getattr_ok I1 ea c n l fun u' s2 I2 ru => ⟨v, H1, I2, ru, q⟩
theorem ps_fld (ha : PE X o ta) (hv : PE X value tv) (hs : swapsWith value (some (.Attribute o f pos')) pos.line X.env = pure false) : PS X (.Assign [.Attribute o f pos'] value pos) (sFld X.K ta tv f) := by
  intro pins s σ H D I h
  refine plainObj_wpAny_Assign_Attribute (thn (hv pins s σ H _ I h) fun u s1 ⟨y, H1, I1, ry, q⟩ => thn (ha pins s1 σ H1 _ I1 q) fun ov s2 ⟨x, H2, I2, rx, a, C, dx, fs, ex, ea, c, n, l, q2⟩ => ?_) hs
  subst ex
  obtain rfl : ov = Value.ref a := rx
  exact setattr_ok I2 ea c n l ry fun s3 I3 => ⟨σ, _, I3, q2⟩
theorem methcall_of {pl : Sem Bool} {m : Str} {apos : Pos} {args : List Expr} {pins : List (Addr × Obj)} {s : Shared} {σ : St} {H : Hp} {Q : Value → Shared → Prop} {te : TE} (he : PE X e te) (I : Inv X pins σ H s)
    (h : te σ H fun x H1 => ∃ a C dx fs g, x = .ref a ∧ H1 a = some (.ins C dx fs) ∧ Cls X.K C ∧ Meth X.K C m g ∧ fs.lookup m = none ∧
      ∀ s1, Inv X pins σ H1 s1 → wpAny (model X.prog X.w) X.A (callWith pos (.ref g) [.ref a] (backTo pos (starEach args X.env)) (backToKw pos (keywordEach [] X.env))) Q X.xe s1)
    (ht : eval (.Call (.Attribute e m apos) args [] pos) X.env = (do
      let ov ← eval e X.env
      standAt apos.atName
      let (f, first) ← holding [ov] (getMethod ov m pl)
      callWith pos f first (backTo pos (starEach args X.env)) (backToKw pos (keywordEach [] X.env)))) :
    wpAny (model X.prog X.w) X.A (eval (.Call (.Attribute e m apos) args [] pos) X.env) Q X.xe s := by
  refine PySem.W.methodCall_KW (pl := pl) (thn (he pins s σ H _ I h) fun u s1 ⟨x, H1, I1, rx, a, C, dx, fs, g, ex, ea, c, k, l, q⟩ => ?_) ht
  subst ex
  obtain rfl : u = Value.ref a := rx
  exact getmeth_ok I1 ea c k l (q s1 I1)
end

section
variable {X : Cx} {pins : List (Addr × Obj)} {σ : St} {H : Hp} {s : Shared} {A : Around} {E : Value → Shared → Prop} {Q : Value → Shared → Prop} {c : Value} {b : Bool}
end
end L2

namespace L2
open PySem PySem.Spec PyProof.Rows

structure Room (k : Nat) (A : Around) : Prop where
  hd : A.handled = none
  dp : A.depth + 3 * k + 5 < recursionLimit
  un : A.units + 16 * k + 200 < cLine
theorem Room.mono {j k : Nat} {A : Around} (r : Room k A) (h : j ≤ k) : Room j A := ⟨r.hd, by have := r.dp; omega, by have := r.un; omega⟩
theorem Room.deeper {k : Nat} {A : Around} (r : Room (k + 1) A) (env : Env) : Room k (A.deeper env) :=
  ⟨r.hd, by have := r.dp; show A.depth + 1 + 3 * k + 5 < _; omega, by have := r.un; show A.units + 3 + 16 * k + 200 < _; omega⟩
theorem Room.in1 {k : Nat} {A : Around} (r : Room (k + 1) A) : Room k A.in1 :=
  ⟨r.hd, by have := r.dp; show A.depth + 3 * k + 5 < _; omega, by have := r.un; show A.units + 1 + 16 * k + 200 < _; omega⟩
theorem make_depth {A : Around} {C : Addr} {us : List Value} {kw : List (Str × Value)} : (A.under (.builtin "type.__call__" ⟨.ref C :: us, kw⟩)).depth = A.depth + 1 := by
  first | rfl | simp [Around.under, Code.weight, Code.isCreation, Code.isGuard, Code.isCaller, Code.frames, Code.isFrame, guardIds]
theorem make_units {A : Around} {C : Addr} {us : List Value} {kw : List (Str × Value)} : (A.under (.builtin "type.__call__" ⟨.ref C :: us, kw⟩)).units = A.units + 1 := by
  first | rfl | simp [Around.under, Code.cUnits, Code.frames, Code.isFrame]
theorem Room.make {k : Nat} {A : Around} (r : Room (k + 1) A) (C : Addr) (us : List Value) (kw : List (Str × Value)) : Room k (A.under (.builtin "type.__call__" ⟨.ref C :: us, kw⟩)) :=
  ⟨r.hd, by have := r.dp; rw [make_depth]; omega, by have := r.un; rw [make_units]; omega⟩
theorem Room.depth {k : Nat} {A : Around} (r : Room k A) : A.depth < recursionLimit := by have := r.dp; omega
theorem Room.units {k : Nat} {A : Around} (r : Room k A) : A.units + 64 < cLine := by have := r.un; omega
noncomputable def tNil : TA := fun _ H Q => Q [] H
noncomputable def tCons (ta : TE) (tr : TA) : TA := fun σ H Q => ta σ H fun x H1 => tr σ H1 fun xs H2 => Q (x :: xs) H2
section
variable {X : Cx} {e : Expr} {es : List Expr} {te : TE} {t : TA} {pos : Pos}
theorem pa_nil : PA X [] tNil := fun _ _ _ _ H Q I h => Calls.spliced_nil ⟨[], H, I, .nil, h⟩
theorem pa_cons (ha : PE X e te) (hr : PA X es t) (hs : starEach (e :: es) X.env = (false, eval e X.env) :: starEach es X.env := by rfl) : PA X (e :: es) (tCons te t) := by
  intro pos pins s σ H Q I h
  rw [hs]
  show wpAny _ _ (spliced ((false, eval e X.env) :: backTo pos (starEach es X.env))) _ _ s
  refine Calls.spliced_cons (thn (ha pins s σ H _ I h) fun u s1 ⟨x, H1, I1, r1, q1⟩ => ?_)
  exact thn (hr pos pins s1 σ H1 _ I1 q1) fun us s2 ⟨xs, H2, I2, r2, q2⟩ => ⟨x :: xs, H2, I2, .cons r1 r2, q2⟩

noncomputable def tTup (t : TA) : TE := fun σ H Q => t σ H fun xs H1 => xs.length ≤ sizeLine ∧ ∀ p, H1 p = none → Q (.ref p) (upd H1 p (.tup xs))
noncomputable def tLst (t : TA) : TE := fun σ H Q => t σ H fun xs H1 => xs.length ≤ sizeLine ∧ ∀ p, H1 p = none → Q (.ref p) (upd H1 p (.lst xs))
theorem pe_tup {x1} (h : PA X es t) : PE X (.Tuple es x1 pos) (tTup t) := by
  intro pins s σ H Q I hq
  refine wpAny_Tuple_spliced (thn (h pos pins s σ H _ I hq) fun us s1 ⟨xs, H1, I1, r, z, q⟩ => ⟨by rw [← r.length]; exact z, ?_⟩)
  have hf : H1 s1.heap.objs.size = none := I1.hok.fresh (Nat.le_refl _)
  refine ⟨.ref s1.heap.objs.size, upd H1 s1.heap.objs.size (.tup xs), I1.laid (t' := s1.toks) (fun b u e => Heap.get?_push_of_some _ e) (Nat.le_refl _) ?_, rfl, q _ hf⟩
  exact ⟨z, us, r, ⟨_, Heap.get?_push_size _ rfl, rfl, _, rfl⟩⟩
theorem pe_lst (h : PA X es t) : PE X (.List es pos) (tLst t) := by
  intro pins s σ H Q I hq
  refine wpAny_List_spliced (thn (h pos pins s σ H _ I hq) fun us s1 ⟨xs, H1, I1, r, z, q⟩ => ⟨by rw [← r.length]; exact z, ?_⟩)
  have hf : H1 s1.heap.objs.size = none := I1.hok.fresh (Nat.le_refl _)
  refine ⟨.ref s1.heap.objs.size, upd H1 s1.heap.objs.size (.lst xs), I1.laid (t' := s1.toks) (fun b u e => Heap.get?_push_of_some _ e) (Nat.le_refl _) ?_, rfl, q _ hf⟩
  exact ⟨z, us, 0, r, Heap.get?_push_size _ rfl⟩
end

noncomputable abbrev Sp := List V → Hp → VK → XK → Prop
noncomputable abbrev CXT := List Env → Hp → Shared → XK → Value → Shared → Prop

structure Env0 (P : Program) (w : World) (K : PySem.W.Frag) (mg : Str → Option Value) (base : Heap) (A : Around) (outer : List Env) (s : Shared) (H : Hp) : Prop where
  frames : A.frames = some outer
  mod : Mod K mg base
  bs : ∀ b o, base.get? b = some o → s.heap.get? b = some o ∧ H b = none
  bsz : base.objs.size ≤ s.heap.objs.size
  funs : s.heap.FunFrames base outer
  frf : ∀ b ∈ frs outer, H b = none
  hok : HOk P w H s.heap
  bare : AllBare s.gens
noncomputable def CE (outer : List Env) (P : Program) (w : World) (H : Hp) (s : Shared) (Q : VK) (u : Value) (s' : Shared) : Prop :=
  ∃ v H', s'.os = s.os ∧ AllBare s'.gens ∧ Un (frs outer) [] H H' s.heap s'.heap ∧ HOk P w H' s'.heap ∧ RelV v u ∧ Q v H'
noncomputable def CR (CX : CXT) (outer : List Env) (P : Program) (w : World) (H : Hp) (s : Shared) (Q : VK) (E : XK) (r : Result) (s' : Shared) : Prop :=
  match r with
  | .ok (.ret u) => CE outer P w H s Q u s'
  | .ok _ => False
  | .error e => CX outer H s E e s'
structure FnOk (P : Program) (w : World) (K : PySem.W.Frag) (mg : Str → Option Value) (base : Heap) (CX : CXT) (k : Nat) (f : Addr) (fd : FuncData) (ps : List Str) (sp : Sp) : Prop where
  len : ∀ vs H Q E, sp vs H Q E → vs.length = ps.length
  run : ∀ (A : Around) (outer : List Env) (s : Shared) (H : Hp) (args : Args) (us : List Value) (vs : List V) (Q : VK) (E : XK), Room k A → Env0 P w K mg base A outer s H → BindsTo s fd args (ps.zip us) → Vals vs us → sp vs H Q E →
    codeAny (model P w) A (.call (.ref f) args) (CR CX outer P w H s Q E) s
theorem FnOk.mono {P : Program} {w : World} {K : PySem.W.Frag} {mg : Str → Option Value} {base : Heap} {CX : CXT} {j k : Nat} {f : Addr} {fd : FuncData} {ps : List Str} {sp : Sp} (F : FnOk P w K mg base CX j f fd ps sp) (h : j ≤ k) :
    FnOk P w K mg base CX k f fd ps sp := ⟨F.len, fun A outer s H args us vs Q E hr => F.run A outer s H args us vs Q E (hr.mono h)⟩
theorem FnOk.imp {P : Program} {w : World} {K : PySem.W.Frag} {mg : Str → Option Value} {base : Heap} {CX : CXT} {k : Nat} {f : Addr} {fd : FuncData} {ps : List Str} {sp sp' : Sp} (F : FnOk P w K mg base CX k f fd ps sp)
    (h : ∀ vs H Q E, sp' vs H Q E → sp vs H Q E) : FnOk P w K mg base CX k f fd ps sp' :=
  ⟨fun vs H Q E q => F.len vs H Q E (h _ _ _ _ q), fun A outer s H args us vs Q E hr he hb hv hs => F.run A outer s H args us vs Q E hr he hb hv (h _ _ _ _ hs)⟩

theorem Env0.make {P : Program} {w : World} {K : PySem.W.Frag} {mg : Str → Option Value} {base : Heap} {A : Around} {outer : List Env} {s : Shared} {H : Hp} (e : Env0 P w K mg base A outer s H) (C : Addr) (us : List Value) (kw : List (Str × Value)) :
    Env0 P w K mg base (A.under (.builtin "type.__call__" ⟨.ref C :: us, kw⟩)) outer s H := ⟨by first | exact e.frames | (simpa [Around.under, Code.envs, Code.isFrame, pushEnvs] using e.frames), e.mod, e.bs, e.bsz, e.funs, e.frf, e.hok, e.bare⟩
theorem Env0.in1 {P : Program} {w : World} {K : PySem.W.Frag} {mg : Str → Option Value} {base : Heap} {A : Around} {outer : List Env} {s : Shared} {H : Hp} (e : Env0 P w K mg base A outer s H) :
    Env0 P w K mg base A.in1 outer s H := ⟨e.frames, e.mod, e.bs, e.bsz, e.funs, e.frf, e.hok, e.bare⟩

section
variable {X : Cx} {pins : List (Addr × Obj)} {σ : St} {H : Hp} {s s' : Shared}
theorem Inv.env0 (I : Inv X pins σ H s) : Env0 X.prog X.w X.K X.mg X.base X.A X.stack s H :=
  ⟨I.ok.frames, I.ok.mod, I.bs, Nat.le_trans I.ok.bsz I.sz, I.stack, I.stkFree, I.hok, I.bare⟩
theorem Inv.after {Q : VK} {u : Value} (I : Inv X pins σ H s) (h : CE X.stack X.prog X.w H s Q u s') : EP X pins σ Q u s' := by
  obtain ⟨v, H', os, bare, un, hok, r, q⟩ := h
  obtain ⟨hh, g, d, t, os'⟩ := s'
  obtain rfl : os' = s.os := os
  exact ⟨v, H', I.call (h' := hh) (g' := g) (d' := d) (t' := t) (ch := []) un hok bare (fun b z => absurd z (by simp)), r, q⟩
end

noncomputable def tCall (sp : Sp) (dvs : List V) (E : XK) (t : TA) : TE := fun σ H Q => t σ H fun vs H1 => sp (vs ++ dvs) H1 Q E
noncomputable def tMeth (C : Addr) (m : Str) (sp : Sp) (dvs : List V) (E : XK) (ta : TE) (t : TA) : TE := fun σ H Q => ta σ H fun x H1 => ∃ a dx fs, x = .ref a ∧ H1 a = some (.ins C dx fs) ∧ fs.lookup m = none ∧
  t σ H1 fun vs H2 => sp (x :: (vs ++ dvs)) H2 Q E
noncomputable def tMake (C : Addr) (sp : Sp) (dvs : List V) (E : XK) (t : TA) : TE := fun σ H Q => t σ H fun vs H1 => ∀ x dx, H1 x = none → H1 dx = none → dx ≠ x →
  sp (.ref x :: (vs ++ dvs)) (upd (upd H1 dx (.own x)) x (.ins C dx [])) (fun v H2 => v = .non ∧ Q (.ref x) H2) E

noncomputable def Binds (K : PySem.W.Frag) (fd : FuncData) (ps : List Str) (ds : List Value) : Prop :=
  ∀ (s : Shared) (us : List Value), K.In s.heap → (us ++ ds).length = ps.length → BindsTo s fd ⟨us, []⟩ (ps.zip (us ++ ds))
theorem Binds.all {K : PySem.W.Frag} {fd : FuncData} {ps : List Str} (h : ∀ us : List Value, us.length = ps.length → bindArgs fd ⟨us, []⟩ = pure (ps.zip us)) : Binds K fd ps [] := fun s us _ hl => by
  rw [List.append_nil] at hl ⊢
  exact .of_eq (h us hl)

noncomputable def Passes (CX : CXT) (X : Cx) (E : XK) : Prop := ∀ (pins : List (Addr × Obj)) (σ : St) (H : Hp) (s : Shared) (e : Value) (s' : Shared), Inv X pins σ H s → CX X.stack H s E e s' → X.xe e s'

section
variable {X : Cx} {CX : CXT} {k : Nat} {f C : Addr} {fd : FuncData} {ps : List Str} {sp : Sp} {dvs : List V} {ds : List Value} {E : XK} {x m : Str} {p pos apos : Pos} {e o : Expr} {es : List Expr} {ta : TE} {t : TA}

theorem run_fn {pins : List (Addr × Obj)} {σ : St} {H : Hp} {s : Shared} {Q : VK} {us : List Value} {vs : List V} (F : FnOk X.prog X.w X.K X.mg X.base CX k f fd ps sp) (hr : Room k X.A) (hb : Binds X.K fd ps ds) (hd : Vals dvs ds) (hx : Passes CX X E)
    (I : Inv X pins σ H s) (r : Vals vs us) (h : sp (vs ++ dvs) H Q E) : wpAny (model X.prog X.w) X.A (call (.ref f) us) (EP X pins σ Q) X.xe s := by
  have r2 : Vals (vs ++ dvs) (us ++ ds) := r.append hd
  have hl : (us ++ ds).length = ps.length := by rw [← r2.length]; exact F.len _ _ _ _ h
  refine wpAny_call (codeAny_mono (F.run X.A X.stack s H ⟨us, []⟩ (us ++ ds) (vs ++ dvs) Q E hr I.env0 (hb s us I.kIn hl) r2 h) fun r s' hq => ?_)
  cases r with
  | error e => exact hx pins σ H s e s' I hq
  | ok fl =>
    cases fl with
    | ret u => exact I.after hq
    | next => exact False.elim hq
    | brk => exact False.elim hq
    | cont => exact False.elim hq

theorem pe_call (F : FnOk X.prog X.w X.K X.mg X.base CX k f fd ps sp) (hr : Room k X.A) (hg : Gl X x) (hm : X.mg x = some (.ref f)) (hk : PySem.W.keepIn X.K (.ref f) = true) (hb : Binds X.K fd ps ds) (hd : Vals dvs ds) (hx : Passes CX X E)
    (ha : PA X (e :: es) t) (hdb : (x == ("__debug__" : Str)) = false := by decide) (he : starEach (e :: es) X.env = (false, eval e X.env) :: starEach es X.env := by rfl) (hpl : (backTo pos (starEach es X.env)).any (·.1) = false := by rfl) :
    PE X (.Call (.Name x p) (e :: es) [] pos) (tCall sp dvs E t) := by
  intro pins s σ H Q I h
  refine wpAny_Call_Name_kw (ld_glob I hg hm ?_ hdb)
  refine PySem.W.callWith_K (h₀ := X.base) I.ok.mod.kin hk (thn (ha pos pins s σ H _ I h) fun us s1 ⟨vs, H1, I1, r, q⟩ => ⟨I1.kIn, ?_⟩) he hpl
  exact run_fn F hr hb hd hx I1 r q
theorem pe_call0 (F : FnOk X.prog X.w X.K X.mg X.base CX k f fd ps sp) (hr : Room k X.A) (hg : Gl X x) (hm : X.mg x = some (.ref f)) (hk : PySem.W.keepIn X.K (.ref f) = true) (hb : Binds X.K fd ps ds) (hd : Vals dvs ds) (hx : Passes CX X E)
    (hdb : (x == ("__debug__" : Str)) = false := by decide) : PE X (.Call (.Name x p) [] [] pos) (tCall sp dvs E tNil) := by
  intro pins s σ H Q I h
  refine wpAny_Call_Name_kw (ld_glob I hg hm ?_ hdb)
  exact PySem.W.callWith_K0 I.kIn hk (run_fn (us := []) F hr hb hd hx I .nil h)

theorem pe_meth {pl : Sem Bool} (he : PE X o ta) (c : Cls X.K C) (hm : Meth X.K C m f) (F : FnOk X.prog X.w X.K X.mg X.base CX k f fd ps sp) (hr : Room k X.A) (hb : Binds X.K fd ps ds) (hd : Vals dvs ds) (hx : Passes CX X E) (ha : PA X (e :: es) t)
    (hst : starEach (e :: es) X.env = (false, eval e X.env) :: starEach es X.env := by rfl) (hpl : (backTo pos (starEach es X.env)).any (·.1) = false := by rfl)
    (ht : eval (.Call (.Attribute o m apos) (e :: es) [] pos) X.env = (do
      let ov ← eval o X.env
      standAt apos.atName
      let (f, first) ← holding [ov] (getMethod ov m pl)
      callWith pos f first (backTo pos (starEach (e :: es) X.env)) (backToKw pos (keywordEach [] X.env))) := by rfl) :
    PE X (.Call (.Attribute o m apos) (e :: es) [] pos) (tMeth C m sp dvs E ta t) := by
  intro pins s σ H Q I h
  refine PySem.W.methodCall_KW (pl := pl) (thn (he pins s σ H _ I h) fun u s1 ⟨x, H1, I1, rx, a, dx, fs, ex, ea, l, q⟩ => ?_) ht
  subst ex
  obtain rfl : u = Value.ref a := rx
  refine getmeth_ok I1 ea c hm l ?_
  refine PySem.W.callWith_K (first := [.ref a]) (h₀ := X.base) I.ok.mod.kin hm.kp (thn (ha pos pins s1 σ H1 _ I1 q) fun us s2 ⟨vs, H2, I2, r, q2⟩ => ⟨I2.kIn, ?_⟩) hst hpl
  exact run_fn (us := .ref a :: us) (vs := .ref a :: vs) F hr hb hd hx I2 (.cons rfl r) q2
theorem pe_meth0 {pl : Sem Bool} (he : PE X o ta) (c : Cls X.K C) (hm : Meth X.K C m f) (F : FnOk X.prog X.w X.K X.mg X.base CX k f fd ps sp) (hr : Room k X.A) (hb : Binds X.K fd ps ds) (hd : Vals dvs ds) (hx : Passes CX X E)
    (ht : eval (.Call (.Attribute o m apos) [] [] pos) X.env = (do
      let ov ← eval o X.env
      standAt apos.atName
      let (f, first) ← holding [ov] (getMethod ov m pl)
      callWith pos f first (backTo pos (starEach [] X.env)) (backToKw pos (keywordEach [] X.env))) := by rfl) :
    PE X (.Call (.Attribute o m apos) [] [] pos) (tMeth C m sp dvs E ta tNil) := by
  intro pins s σ H Q I h
  refine PySem.W.methodCall_KW (pl := pl) (thn (he pins s σ H _ I h) fun u s1 ⟨x, H1, I1, rx, a, dx, fs, ex, ea, l, q⟩ => ?_) ht
  subst ex
  obtain rfl : u = Value.ref a := rx
  refine getmeth_ok I1 ea c hm l ?_
  exact PySem.W.callWith_K0 (first := [.ref a]) I1.kIn hm.kp (run_fn (us := [.ref a]) (vs := [.ref a]) F hr hb hd hx I1 (.cons rfl .nil) q)

structure Mk (K : PySem.W.Frag) (C f : Addr) : Prop where
  makes : PySem.W.makesIn K C = true
  init : PySem.W.findIn K (.ref C) "__init__" = some (some (.ref f))
  fn : PySem.W.isFn K (.ref f) = true
  kp : PySem.W.keepIn K (.ref C) = true

theorem run_make {pins : List (Addr × Obj)} {σ : St} {H : Hp} {s : Shared} {Q : VK} {us : List Value} {vs : List V} (M : Mk X.K C f) (F : FnOk X.prog X.w X.K X.mg X.base CX k f fd ps sp) (hr : Room (k + 1) X.A) (hb : Binds X.K fd ps ds) (hd : Vals dvs ds)
    (hx : Passes CX X E) (I : Inv X pins σ H s) (r : Vals vs us)
    (h : ∀ x dx, H x = none → H dx = none → dx ≠ x → sp (.ref x :: (vs ++ dvs)) (upd (upd H dx (.own x)) x (.ins C dx [])) (fun v H2 => v = .non ∧ Q (.ref x) H2) E) :
    wpAny (model X.prog X.w) X.A (call (.ref C) us) (EP X pins σ Q) X.xe s := by
  have hq := h (s.heap.objs.size + 1) s.heap.objs.size (I.hok.fresh (Nat.le_succ _)) (I.hok.fresh (Nat.le_refl _)) (Nat.ne_of_lt (Nat.lt_succ_self _))
  have I2 := Inv.made (C := C) I
  have r2 : Vals (V.ref (s.heap.objs.size + 1) :: (vs ++ dvs)) (Value.ref (s.heap.objs.size + 1) :: (us ++ ds)) := .cons rfl (r.append hd)
  have hl : (Value.ref (s.heap.objs.size + 1) :: us ++ ds).length = ps.length := by
    have e := r2.length
    rw [F.len _ _ _ _ hq] at e
    exact e.symm
  refine wpAny_call (make_map (f := f) I.kIn M.makes M.init (beq_iff_eq.mp M.fn) (codeAny_mono (F.run _ X.stack _ _ ⟨Value.ref (s.heap.objs.size + 1) :: us, []⟩ (Value.ref (s.heap.objs.size + 1) :: (us ++ ds)) _ _ E (hr.make C us [])
    (I2.env0.make C us []) (hb _ (Value.ref (s.heap.objs.size + 1) :: us) I2.kIn hl) r2 hq) fun r s' hq' => ?_))
  cases r with
  | error e => exact hx pins σ _ _ e s' I2 hq'
  | ok fl =>
    cases fl with
    | ret u =>
      obtain ⟨v, H', I3, rv, ev, q3⟩ := I2.after hq'
      subst ev
      exact ⟨rv, ⟨V.ref (s.heap.objs.size + 1), H', I3, rfl, q3⟩⟩
    | next => exact False.elim hq'
    | brk => exact False.elim hq'
    | cont => exact False.elim hq'
theorem pe_make0 (M : Mk X.K C f) (F : FnOk X.prog X.w X.K X.mg X.base CX k f fd ps sp) (hr : Room (k + 1) X.A) (hg : Gl X x) (hm : X.mg x = some (.ref C)) (hb : Binds X.K fd ps ds) (hd : Vals dvs ds) (hx : Passes CX X E)
    (hdb : (x == ("__debug__" : Str)) = false := by decide) : PE X (.Call (.Name x p) [] [] pos) (tMake C sp dvs E tNil) := by
  intro pins s σ H Q I h
  refine wpAny_Call_Name_kw (ld_glob I hg hm ?_ hdb)
  exact PySem.W.callWith_K0 I.kIn M.kp (run_make (us := []) M F hr hb hd hx I .nil h)
end

section
variable {X : Cx} {CX : CXT} {k : Nat} {f C : Addr} {fd : FuncData} {ps ks : List Str} {sp : Sp} {E : XK} {x m : Str} {p pos apos kpos : Pos} {e o : Expr} {es : List Expr} {kws : List Keyword} {te ta : TE} {t tk : TA} {nm : Option Str}
variable {g : List Value → List Value → List Value} {gV : List V → List V → List V}
end

structure FnScope (N P : List Str) (sc : Scope) : Prop where
  kind : sc.kind = .function
  co : sc.isCoroutine = false
  gen : sc.isGenerator = false
  nd : N.Nodup
  pre : N.take P.length = P
  par : ∀ x ∈ P, sc.names.lookup x = some .local ∨ sc.names.lookup x = some .cell
  nofree : ∀ y ∈ sc.names, y.2 ≠ .free

theorem bindL_out {kindOf : Str → Option NameKind} {x : Str} : ∀ {binds : List (Str × Value)} {m : Str → Option Value}, (∀ v, (x, v) ∉ binds) → bindL kindOf binds m x = m x
  | [], _, _ => rfl
  | (n, v) :: r, m, h => by
    unfold bindL
    rw [bindL_out fun w hw => h w (List.mem_cons_of_mem _ hw)]
    split
    · have : x ≠ n := by rintro rfl; exact h v List.mem_cons_self
      simp [this]
    · rfl
theorem bindC_out {kindOf : Str → Option NameKind} {x : Str} : ∀ {binds : List (Str × Value)} {m : Str → Option Value}, (∀ v, (x, v) ∉ binds) → bindC kindOf binds m x = m x
  | [], _, _ => rfl
  | (n, v) :: r, m, h => by
    unfold bindC
    rw [bindC_out fun w hw => h w (List.mem_cons_of_mem _ hw)]
    split
    · rfl
    · have : x ≠ n := by rintro rfl; exact h v List.mem_cons_self
      simp [this]
theorem bindL_get {kindOf : Str → Option NameKind} {x : Str} {v : Value} : ∀ {P : List Str} {vs : List Value} {i : Nat} {m : Str → Option Value}, P.Nodup → P[i]? = some x → vs[i]? = some v → kindOf x = some .local →
    bindL kindOf (P.zip vs) m x = some v
  | [], _, _, _, _, h, _, _ => by simp at h
  | _ :: _, [], _, _, _, _, h, _ => by simp at h
  | p :: P, w :: vs, 0, m, nd, h1, h2, hk => by
    simp at h1 h2; subst h1; subst h2
    show bindL kindOf ((p, w) :: P.zip vs) m p = _
    unfold bindL
    rw [bindL_out fun v hv => (List.nodup_cons.mp nd).1 (List.of_mem_zip hv).1, if_pos hk]
    simp
  | p :: P, w :: vs, i + 1, m, nd, h1, h2, hk => by
    show bindL kindOf ((p, w) :: P.zip vs) m x = _
    unfold bindL
    exact bindL_get (i := i) (List.nodup_cons.mp nd).2 (by simpa using h1) (by simpa using h2) hk
theorem bindC_get {kindOf : Str → Option NameKind} {x : Str} {v : Value} : ∀ {P : List Str} {vs : List Value} {i : Nat} {m : Str → Option Value}, P.Nodup → P[i]? = some x → vs[i]? = some v → kindOf x ≠ some .local →
    bindC kindOf (P.zip vs) m x = some v
  | [], _, _, _, _, h, _, _ => by simp at h
  | _ :: _, [], _, _, _, _, h, _ => by simp at h
  | p :: P, w :: vs, 0, m, nd, h1, h2, hk => by
    simp at h1 h2; subst h1; subst h2
    show bindC kindOf ((p, w) :: P.zip vs) m p = _
    unfold bindC
    rw [bindC_out fun v hv => (List.nodup_cons.mp nd).1 (List.of_mem_zip hv).1, if_neg hk]
    simp
  | p :: P, w :: vs, i + 1, m, nd, h1, h2, hk => by
    show bindC kindOf ((p, w) :: P.zip vs) m x = _
    unfold bindC
    exact bindC_get (i := i) (List.nodup_cons.mp nd).2 (by simpa using h1) (by simpa using h2) hk

noncomputable def start (N : List Str) (vs : List V) : St := vs.map some ++ List.replicate (N.length - vs.length) none

noncomputable def cxOf (CX : CXT) (P : Program) (w : World) (K : PySem.W.Frag) (mg : Str → Option Value) (base : Heap) (N : List Str) (qual : Str) (scope : Scope) (f : Addr) (cd : Value) (A : Around) (outer : List Env) (s : Shared) (H : Hp) (E : XK) : Cx where
  prog := P
  w := w
  K := K
  mg := mg
  base := base
  A := A.deeper (envOfC qual scope s.heap.objs.size f cd)
  N := N
  s₀ := s
  H₀ := H
  env := envOfC qual scope s.heap.objs.size f cd
  outer := outer
  stack := envOfC qual scope s.heap.objs.size f cd :: outer
  ex := []
  calm := true
  fn := fun _ => true
  pn := []
  xe := fun e s' => wpAny (model P w) (A.deeper (envOfC qual scope s.heap.objs.size f cd)) (leaving (envOfC qual scope s.heap.objs.size f cd) e) (fun _ s'' => CX outer H s E e s'') (fun e' s'' => CX outer H s E e' s'') s'

theorem cell_has {sc : Scope} {n : Nat} {x : Str} (h : sc.names.lookup x = some .cell) : ∃ c, (cellsFrom n sc.names []).lookup x = some c := by
  have q := PySem.W.cellsFrom_some sc.names n [] (.inl h)
  exact Option.isSome_iff_exists.mp q

theorem inv_start {CX : CXT} {P : Program} {w : World} {K : PySem.W.Frag} {mg : Str → Option Value} {base : Heap} {N ps : List Str} {qual : Str} {scope : Scope} {f : Addr} {cd : Value} {A : Around} {outer : List Env} {s s1 : Shared} {H : Hp} {E : XK} {us : List Value} {vs : List V}
    (S : FnScope N ps scope) (hd : A.handled = none) (e0 : Env0 P w K mg base A outer s H) (hl : vs.length = ps.length) (r : Vals vs us)
    (x : InCallC s s.heap.objs.size (bindL (envOfC qual scope s.heap.objs.size f cd).kindOf (ps.zip us) fun _ => none) (cellsFrom (s.heap.objs.size + 1) scope.names []) (bindC (envOfC qual scope s.heap.objs.size f cd).kindOf (ps.zip us) fun _ => none) s1) :
    Inv (cxOf CX P w K mg base N qual scope f cd A outer s H E) [] (start N vs) H s1 := by
  have hpl : ps.length ≤ N.length := by have := congrArg List.length S.pre; rw [List.length_take] at this; omega
  obtain ⟨h1, tk, rfl, hk⟩ := x.done
  have noA : ∀ b : Addr, b ∉ (cxOf CX P w K mg base N qual scope f cd A outer s H E).ex := fun b z => absurd (show b ∈ ([] : List Addr) from z) (by simp)
  refine ⟨⟨e0.mod, S.kind, rfl, rfl, Nat.le_refl _, fun y z c h1 h2 => ?_, fun y hy => ?_, fun y c _ h => ?_, fun _ => hd, Around.frames_deeper e0.frames, .inr ⟨rfl, rfl⟩, fun b z => absurd z (noA b), e0.bs, e0.bsz, fun b _ _ => noA b, fun b z => absurd z (noA b), e0.funs, e0.frf⟩,
    rfl, e0.bare, Un.kept hk, ⟨_, x.toInCall.ns, fun i y v h1 h2 h3 => ?_⟩, fun y c h => ⟨_, x.cell y c h⟩, e0.hok.fresh (Nat.le_refl _), fun y c h => ?_, fun p hp => absurd (show p ∈ ([] : List (Addr × Obj)) from hp) (by simp), e0.hok.kept hk, ?_⟩
  · exact name_of_addr x.apart (PySem.mem_of_lookup h1) (PySem.mem_of_lookup h2)
  · have hy : scope.names.lookup y = some .cell ∨ scope.names.lookup y = some .free := hy
    rcases hy with hy | hy
    · exact cell_has hy
    · exact absurd rfl (S.nofree _ (PySem.mem_of_lookup hy))
  · exact Nat.le_of_lt (x.above y c (PySem.mem_of_lookup h))
  · have hi : i < vs.length := by
      unfold start at h2
      by_cases hi : i < vs.length
      · exact hi
      · rw [List.getElem?_append_right (by simpa using hi)] at h2
        rw [List.getElem?_replicate] at h2
        split at h2 <;> cases h2
    have ha : vs[i]? = some v := by
      unfold start at h2
      rw [List.getElem?_append_left (by simpa using hi), List.getElem?_map] at h2
      cases e : vs[i]? with
      | none => rw [e] at h2; cases h2
      | some a => rw [e] at h2; cases h2; rfl
    obtain ⟨u, hu, rv⟩ := r.get ha
    have hp : ps[i]? = some y := by
      rw [← S.pre, List.getElem?_take_of_lt (by omega)]; exact h1
    have ndP : ps.Nodup := by rw [← S.pre]; exact S.nd.sublist (List.take_sublist _ _)
    refine ⟨u, rv, ?_⟩
    rcases S.par y (List.mem_of_getElem? hp) with k | k
    · exact .inl ⟨k, bindL_get ndP hp hu k⟩
    · obtain ⟨c, e⟩ := cell_has (n := s.heap.objs.size + 1) k
      refine .inr ⟨.inl k, c, e, ?_⟩
      have q := x.cell y c e
      rw [bindC_get ndP hp hu (by show scope.names.lookup y ≠ _; rw [k]; decide)] at q
      exact q
  · exact e0.hok.fresh (Nat.le_of_lt (x.above y c (PySem.mem_of_lookup h)))
  · unfold start
    show _ = N.length
    rw [List.length_append, List.length_map, List.length_replicate]
    omega

theorem fn_of {CX : CXT} {P : Program} {w : World} {K : PySem.W.Frag} {mg : Str → Option Value} {base : Heap} {k : Nat} {f : Addr} {name qual : Str} {params : Arguments} {body : List Stmt} {scope : Scope} {dV kV doc pm cdv ct oc : Value} {an od : Option Addr}
    {osl : Array (Option Value)} {N ps : List Str} {sp : Sp} (lk : K.lookup f = some ⟨oc, od, .func (PySem.W.fnOf name qual params body scope dV kV doc pm an cdv ct), osl⟩) (hcd : PySem.W.codeIn K cdv qual = true) (S : FnScope N ps scope)
    (len : ∀ vs H Q E, sp vs H Q E → vs.length = ps.length)
    (hbody : ∀ (A : Around) (outer : List Env) (s : Shared) (H : Hp) (vs : List V) (Q : VK) (E : XK), Room k (A.deeper (envOfC qual scope s.heap.objs.size f cdv)) → sp vs H Q E →
      ∃ t, PSs (cxOf CX P w K mg base N qual scope f cdv A outer s H E) body t ∧ t { nx := fun _ H' => Q .non H', rt := Q } (start N vs) H) :
    FnOk P w K mg base CX (k + 1) f (PySem.W.fnOf name qual params body scope dV kV doc pm an cdv ct) ps sp := by
  refine ⟨len, fun A outer s H args us vs Q E hr e0 hb r hsp => ?_⟩
  have hl := len _ _ _ _ hsp
  have KX : K.In s.heap := e0.mod.kin.keeps fun b o e => (e0.bs b o e).1
  have lim : s.heap.NoLimit := e0.mod.nolimit.keeps fun b o e => (e0.bs b o e).1
  have hkind : ∀ y ∈ ps.zip us, scope.names.lookup y.1 = some .local ∨ (scope.names.lookup y.1 = some .cell ∧ ((cellsFrom (s.heap.objs.size + 1) scope.names []).lookup y.1).isSome = true) := fun ⟨n, v⟩ hy => by
    rcases S.par n (List.of_mem_zip hy).1 with q | q
    · exact .inl q
    · exact .inr ⟨q, PySem.W.cellsFrom_some _ _ _ (.inl q)⟩
  refine codeAny_call_function hr.depth (KX _ _ lk) rfl S.co S.gen rfl (PySem.W.codeRec_of KX hcd) (hb _ _ _ _ ?_)
  refine wpAny_newFunctionEnv_cells S.kind hkind fun env he s1 x => ?_
  subst he
  refine ⟨lim.keeps x.toInCall.keep, codeAny_func ?_⟩
  obtain ⟨t, ht, hq⟩ := hbody A outer s H vs Q E (hr.deeper _) hsp
  have I : Inv (cxOf CX P w K mg base N qual scope f cdv A outer s H E) [] (start N vs) H s1 := inv_start S hr.hd e0 hl r x
  refine wpAny_mono (ht [] s1 (start N vs) H _ I hq) (fun fl s' hs => ?_) fun e s' hs => hs
  have fin : ∀ {σ' : St} {H' : Hp} {v : V} {u : Value}, Inv (cxOf CX P w K mg base N qual scope f cdv A outer s H E) [] σ' H' s' → RelV v u → Q v H' → CE outer P w H s Q u s' :=
    fun {σ' H' v u} J rv q => ⟨v, H', J.os, J.bare, J.base, J.hok, rv, q⟩
  cases fl with
  | ret u =>
    obtain ⟨v, σ', H', J, rv, q⟩ := hs
    exact fin J rv q
  | next =>
    obtain ⟨σ', H', J, q⟩ := hs
    exact fin (v := V.non) (u := Value.none) J rfl q
  | brk =>
    obtain ⟨_, _, _, q⟩ := hs
    exact False.elim q
  | cont =>
    obtain ⟨_, _, _, q⟩ := hs
    exact False.elim q
end L2

namespace L2
open PySem PySem.Spec PyProof.Rows
section
variable {X : Cx} {x : Str} {p pos : Pos} {e : Expr} {es : List Expr} {t : TA} {id T : String} {r : List V → Hp → VK → Prop}

noncomputable def tCB (r : List V → Hp → VK → Prop) (t : TA) : TE := fun σ H Q => t σ H fun vs H1 => r vs H1 Q
theorem pe_callB (hc : CallR X (.builtin id) r) (hg : Gl X x) (hm : X.mg x = none) (hv : bootBuiltins x = some (.builtin id)) (ha : PA X (e :: es) t) (hn : x ≠ "__name__" := by decide) (hdb : (x == ("__debug__" : Str)) = false := by decide)
    (he : starEach (e :: es) X.env = (false, eval e X.env) :: starEach es X.env := by rfl) (hpl : (backTo pos (starEach es X.env)).any (·.1) = false := by rfl) : PE X (.Call (.Name x p) (e :: es) [] pos) (tCB r t) := by
  intro pins s σ H Q I h
  refine wpAny_Call_Name_kw (ld_blt I hg hm hv ?_ hn hdb)
  exact PyProof.Rows.callWith_builtin1 (thn (ha pos pins s σ H _ I h) fun us s1 ⟨vs, H1, I1, r1, q1⟩ => hc pins s1 σ H1 vs us Q I1 r1 q1) he hpl
theorem pe_callTy (hc : CallR X (.type T) r) (hg : Gl X x) (hm : X.mg x = none) (hv : bootBuiltins x = some (.type T)) (ha : PA X (e :: es) t) (hn : x ≠ "__name__" := by decide) (hdb : (x == ("__debug__" : Str)) = false := by decide)
    (he : starEach (e :: es) X.env = (false, eval e X.env) :: starEach es X.env := by rfl) (hpl : (backTo pos (starEach es X.env)).any (·.1) = false := by rfl) : PE X (.Call (.Name x p) (e :: es) [] pos) (tCB r t) := by
  intro pins s σ H Q I h
  refine wpAny_Call_Name_kw (ld_blt I hg hm hv ?_ hn hdb)
  exact PyProof.Rows.callWith_type1 (thn (ha pos pins s σ H _ I h) fun us s1 ⟨vs, H1, I1, r1, q1⟩ => hc pins s1 σ H1 vs us Q I1 r1 q1) he hpl
end
end L2

namespace HT
open PySem PyProof.Rows

section
open PySem.SeqAt
open PySem.AutoSeq1 (wpAny_loadPart')
open PySem.MeetsSeq PySem.MeetsSeq2 PySem.MeetsSeq3

end

section
variable {prog : Program} {w : World} {A : Around} {E : Value → Shared → Prop} {s : Shared}

noncomputable def sIx (n d : Nat) : Option Int → Nat
  | none => d
  | some v => if v < 0 then (v + (n : Int)).toNat else min v.toNat n
end
end HT

namespace L2
open PySem PySem.Spec PyProof.Rows

noncomputable abbrev TO := St → Hp → (Option Int → Hp → Prop) → Prop
noncomputable def PO (X : Cx) (e : Option Expr) (t : TO) : Prop :=
  ∀ (pins : List (Addr × Obj)) (s : Shared) (σ : St) (H : Hp) (Q : Option Int → Hp → Prop), Inv X pins σ H s → t σ H Q →
    wpAny (model X.prog X.w) X.A (evalPart e X.env) (fun u s' => ∃ o H', Inv X pins σ H' s' ∧ IsPart u o ∧ Q o H') X.xe s
noncomputable def tNoPart : TO := fun _ H Q => Q none H
noncomputable def tPart (t : TE) : TO := fun σ H Q => t σ H fun x H1 => ∃ i, x = .int i ∧ Q (some i) H1

section
variable {X : Cx} {e : Expr} {te : TE} {lo hi : Option Expr} {tl th : TO} {pos p2 : Pos}

theorem po_none : PO X none tNoPart := by
  intro pins s σ H Q I h
  rw [evalPart_none]
  exact wpAny_pure ⟨none, H, I, .none, h⟩
theorem po_some (h : PE X e te) : PO X (some e) (tPart te) := by
  intro pins s σ H Q I hw
  rw [evalPart_some]
  refine thn (h pins s σ H _ I hw) fun u s1 ⟨x, H1, I1, r1, q1⟩ => ?_
  obtain ⟨i, rfl, q⟩ := q1
  obtain ⟨t, rfl⟩ := r1
  exact ⟨some i, H1, I1, .int i t, q⟩

noncomputable def SlR (X : Cx) (r : V → Option Int → Option Int → Hp → VK → Prop) : Prop :=
  ∀ (pins : List (Addr × Obj)) (s : Shared) (σ : St) (H : Hp) (x : V) (v vl vu : Value) (lo hi : Option Int) (sl : Addr) (Q : VK), Inv X pins σ H s → RelV x v → s.heap.IsSliceOf sl vl vu .none → IsPart vl lo → IsPart vu hi → r x lo hi H Q →
    ∃ T id, typeLookup (.type T) "__getitem__" = pure (some (.builtin id)) ∧ s.TypeIs v T ∧ wpAny (model X.prog X.w) X.A (getItem v (.ref sl)) (EP X pins σ Q) X.xe s
theorem SlR.or {r r' : V → Option Int → Option Int → Hp → VK → Prop} (h : SlR X r) (h' : SlR X r') : SlR X (fun x lo hi H Q => r x lo hi H Q ∨ r' x lo hi H Q) := by
  intro pins s σ H x v vl vu lo hi sl Q I rx hs pl pu q
  rcases q with q | q
  · exact h pins s σ H x v vl vu lo hi sl Q I rx hs pl pu q
  · exact h' pins s σ H x v vl vu lo hi sl Q I rx hs pl pu q
noncomputable def tSl (r : V → Option Int → Option Int → Hp → VK → Prop) (te : TE) (tl th : TO) : TE := fun σ H Q => te σ H fun x H1 => tl σ H1 fun l H2 => th σ H2 fun u H3 => r x l u H3 Q
theorem pe_slice {r : V → Option Int → Option Int → Hp → VK → Prop} (hr : SlR X r) (he : PE X e te) (hl : PO X lo tl) (hu : PO X hi th) : PE X (.Subscript e (.Slice lo hi none p2) pos) (tSl r te tl th) := by
  intro pins s σ H Q I h
  refine Subscript_ (thn (he pins s σ H _ I h) fun v s1 ⟨x, H1, I1, r1, q1⟩ => ?_)
  refine wpAny_Slice (thn (hl pins s1 σ H1 _ I1 q1) fun vl s2 ⟨l, H2, I2, pl, q2⟩ => thn (hu pins s2 σ H2 _ I2 q2) fun vu s3 ⟨u, H3, I3, pu, q3⟩ => ?_)
  rw [evalPart_none]
  refine wpAny_pure ?_
  have I4 : Inv X pins σ H3 { s3 with heap := s3.heap.push { cls := .type "slice", data := .fields #[vl, vu, .none] } } := I3.kept (t' := s3.toks) fun b ob q => Heap.get?_push_of_some _ q
  obtain ⟨T, id, hT, ht, hg⟩ := hr pins { s3 with heap := s3.heap.push { cls := .type "slice", data := .fields #[vl, vu, .none] } } σ H3 x v vl vu l u s3.heap.objs.size Q I4 r1 (Heap.IsSliceOf.new ..) pl pu q3
  show wpAny (model X.prog X.w) X.A (subscriptTail e (.Slice lo hi none p2) v (.ref s3.heap.objs.size)) (EP X pins σ Q) X.xe { s3 with heap := s3.heap.push { cls := .type "slice", data := .fields #[vl, vu, .none] } }
  exact tail_any (ops := [.ref s3.heap.objs.size, v]) ht hT hg (by with_unfolding_all rfl)

noncomputable def cutV (xs : List V) (lo hi : Option Int) : List V := (xs.drop (HT.sIx xs.length 0 lo)).take (HT.sIx xs.length xs.length hi - HT.sIx xs.length 0 lo)
theorem cutV_length (xs : List V) (lo hi : Option Int) : (cutV xs lo hi).length ≤ xs.length := by
  unfold cutV
  rw [List.length_take, List.length_drop]
  omega
end
end L2

namespace L2
open PySem PySem.Spec PyProof.Rows

noncomputable def ixN (n : Nat) (i : Int) : Option Nat := if 0 ≤ i then (if i < n then some i.toNat else none) else if -(n : Int) ≤ i then some (i + n).toNat else none
noncomputable def atI {α : Type} (xs : List α) (i : Int) : Option α := (ixN xs.length i).bind fun j => xs[j]?
theorem ixN_seq {n : Nat} {i : Int} {j : Nat} (h : ixN n i = some j) : seqIndex? i n = some j ∧ j < n ∧ -(n : Int) ≤ i ∧ i < n := by
  unfold ixN at h
  by_cases h0 : 0 ≤ i
  · rw [if_pos h0] at h
    by_cases h1 : i < n
    · rw [if_pos h1] at h
      have e : i.toNat = j := Option.some.inj h
      exact ⟨by rw [seqIndex_of h0 h1, e], by omega, by omega, h1⟩
    · rw [if_neg h1] at h; cases h
  · rw [if_neg h0] at h
    by_cases h1 : -(n : Int) ≤ i
    · rw [if_pos h1] at h
      have e : (i + n).toNat = j := Option.some.inj h
      exact ⟨by rw [seqIndex_neg (by omega) h1, e], by omega, h1, by omega⟩
    · rw [if_neg h1] at h; cases h
theorem atI_get {α : Type} {xs : List α} {i : Int} {v : α} (h : atI xs i = some v) : ∃ j, seqIndex? i xs.length = some j ∧ xs[j]? = some v ∧ j < xs.length ∧ -(xs.length : Int) ≤ i ∧ i < xs.length := by
  unfold atI at h
  cases e : ixN xs.length i with
  | none => rw [e] at h; cases h
  | some j =>
    rw [e] at h
    obtain ⟨h1, h2, h3, h4⟩ := ixN_seq e
    exact ⟨j, h1, h, h2, h3, h4⟩
theorem atI_nat {α : Type} {xs : List α} {j : Nat} {v : α} (h : xs[j]? = some v) : atI xs (j : Int) = some v := by
  have hj : j < xs.length := (List.getElem?_eq_some_iff.mp h).1
  have e : ixN xs.length (j : Int) = some j := by
    unfold ixN
    rw [if_pos (by omega), if_pos (by omega)]; simp
  unfold atI; rw [e]; exact h
theorem atI_last {α : Type} (xs : List α) (v : α) : atI (xs ++ [v]) (-1) = some v := by
  have hl : (xs ++ [v]).length = xs.length + 1 := by simp
  have e : ixN (xs ++ [v]).length (-1) = some xs.length := by
    unfold ixN
    rw [hl, if_neg (by decide), if_pos (by omega)]
    congr 1
    omega
  unfold atI
  rw [e]
  show (xs ++ [v])[xs.length]? = some v
  simp

noncomputable def PlainIx (b : Expr) : Prop := ∀ o i, subscripted b false o i = operate [o, i] (getItem o i)
noncomputable def IxR (X : Cx) (r : R2) : Prop :=
  ∀ (value slice : Expr) (pins : List (Addr × Obj)) (s : Shared) (σ : St) (H : Hp) (x y : V) (v u : Value) (Q : VK), Inv X pins σ H s → RelV x v → RelV y u → r x y H Q →
    subscripted slice false v u = operate [v, u] (getItem v u) → wpAny (model X.prog X.w) X.A (subscriptTail value slice v u) (EP X pins σ Q) X.xe s
noncomputable def MtR (X : Cx) (id : String) (r : V → List V → Hp → VK → Prop) : Prop :=
  ∀ (pins : List (Addr × Obj)) (s : Shared) (σ : St) (H : Hp) (x : V) (xs : List V) (v : Value) (us : List Value) (Q : VK), Inv X pins σ H s → RelV x v → Vals xs us → r x xs H Q →
    wpAny (model X.prog X.w) X.A (call (.builtin id) (v :: us)) (EP X pins σ Q) X.xe s
section
variable {X : Cx} {a b : Expr} {ta tb : TE} {pos : Pos}
theorem IxR.or {r r' : R2} (h : IxR X r) (h' : IxR X r') : IxR X (fun x y H Q => r x y H Q ∨ r' x y H Q) := by
  intro value slice pins s σ H x y v u Q I rx ry q hs
  rcases q with q | q
  · exact h value slice pins s σ H x y v u Q I rx ry q hs
  · exact h' value slice pins s σ H x y v u Q I rx ry q hs
theorem MtR.or {id : String} {r r' : V → List V → Hp → VK → Prop} (h : MtR X id r) (h' : MtR X id r') : MtR X id (fun x xs H Q => r x xs H Q ∨ r' x xs H Q) := by
  intro pins s σ H x xs v us Q I rx rs q
  rcases q with q | q
  · exact h pins s σ H x xs v us Q I rx rs q
  · exact h' pins s σ H x xs v us Q I rx rs q
theorem pe_ix {r : R2} (hr : IxR X r) (ha : PE X a ta) (hb : PE X b tb) (hs : PlainIx b) : PE X (.Subscript a b pos) (tOp r ta tb) := by
  intro pins s σ H Q I h
  exact Subscript_ (binT ha hb I h fun v u s2 x y H2 I2 rx ry q => hr a b pins s2 σ H2 x y v u Q I2 rx ry q (hs _ _))

noncomputable def rIxL (K : PySem.W.Frag) : R2 := fun x y H Q => ∃ p xs i v, x = .ref p ∧ y = .int i ∧ SqL K H p xs ∧ atI xs i = some v ∧ Q v H
noncomputable def rIxT (K : PySem.W.Frag) : R2 := fun x y H Q => ∃ p xs i v, x = .ref p ∧ y = .int i ∧ SqT K H p xs ∧ atI xs i = some v ∧ Q v H
noncomputable def rIxS : R2 := fun x y H Q => ∃ z i c, x = .str z ∧ y = .int i ∧ z.length ≤ sizeLine ∧ atI z.cps.toList i = some c ∧ Q (.str ⟨#[c]⟩) H
theorem ix_list : IxR X (rIxL X.K) := by
  intro value slice pins s σ H x y v u Q I rx ry h hs
  obtain ⟨p, xs, i, z, rfl, rfl, hq, he, q⟩ := h
  cases rx
  obtain ⟨t, rfl⟩ := ry
  obtain ⟨its, r, pl, hz⟩ := I.list hq
  obtain ⟨j, h1, h2, h3, h4, h5⟩ := atI_get he
  obtain ⟨w, ew, rw'⟩ := r.get h2
  have hl := r.length
  have hn := line63
  have fin : EP X pins σ Q w s := ⟨z, H, I, rw', q⟩
  by_cases h0 : 0 ≤ i
  · have hj : i.toNat = j := by
      rw [seqIndex_of h0 h5] at h1
      exact Option.some.inj h1
    exact item_listR pl.isList h0 (by omega) (by rw [hj]; simpa using ew) fin hs
  · have hj : (i + (its.toArray.size : Int)).toNat = j := by
      rw [seqIndex_neg (by omega) h4] at h1
      rw [List.size_toArray, ← hl]
      exact Option.some.inj h1
    exact subscriptTail_builtinR (x := w) pl.isList.typeIs slot_list_getitem.lookup
      (wpAny_getItem_list_neg (Q := fun r s' => r = w ∧ EP X pins σ Q r s') pl.isList (by omega) (by rw [List.size_toArray] <;> omega) (by omega) (by rw [hj]; simpa using ew) ⟨rfl, fin⟩) hs
theorem ix_tup : IxR X (rIxT X.K) := by
  intro value slice pins s σ H x y v u Q I rx ry h hs
  obtain ⟨p, xs, i, z, rfl, rfl, hq, he, q⟩ := h
  cases rx
  obtain ⟨t, rfl⟩ := ry
  obtain ⟨its, r, pl, hz⟩ := I.tuple hq
  obtain ⟨j, h1, h2, h3, h4, h5⟩ := atI_get he
  obtain ⟨w, ew, rw'⟩ := r.get h2
  have hl := r.length
  have hn := line63
  have fin : EP X pins σ Q w s := ⟨z, H, I, rw', q⟩
  exact subscriptTail_builtinR (x := w) pl.typeIs slot_tuple_getitem.lookup
    (getItem_tuple (j := j) (Q := fun r s' => r = w ∧ EP X pins σ Q r s') pl (by omega) (by omega) (by rw [List.size_toArray, ← hl]; exact h1) (by simpa using ew) ⟨rfl, fin⟩) hs
theorem ix_str : IxR X rIxS := by
  intro value slice pins s σ H x y v u Q I rx ry h hs
  obtain ⟨z, i, c, rfl, rfl, hz, he, q⟩ := h
  obtain ⟨t, rfl⟩ := rx
  obtain ⟨t', rfl⟩ := ry
  obtain ⟨j, h1, h2, h3, h4, h5⟩ := atI_get he
  have hl : z.cps.toList.length = z.length := by simp [Str.length]
  rw [hl] at h1 h4 h5
  have hn := line63
  exact tail_any (typeIs_str s z t) slot_str_getitem.lookup (getItem_str (c := c) (by
    have e1 : decide (i < -(2 ^ 63 : Int)) = false := decide_eq_false (by omega)
    have e2 : decide (i ≥ 2 ^ 63) = false := decide_eq_false (by omega)
    rw [e1, e2, Bool.or_false]) (by rw [h1]; simpa using h2) ⟨.str ⟨#[c]⟩, H, I.tok _, ⟨_, rfl⟩, q⟩) hs
theorem mapSeq_set (its : List Value) (n j : Nat) (u : Value) : Obj.mapSeq (·.setIfInBounds j u) { cls := .type "list", data := .seq its.toArray n } = { cls := .type "list", data := .seq (its.set j u).toArray n } := by
  simp [Obj.mapSeq]
theorem Inv.lst {pins : List (Addr × Obj)} {σ : St} {H : Hp} {s : Shared} {p : Addr} {xs : List V} (I : Inv X pins σ H s) (h : H p = some (.lst xs)) :
    ∃ (its : List Value) (n : Nat), Vals xs its ∧ s.heap.get? p = some { cls := .type "list", data := .seq its.toArray n } ∧ xs.length ≤ sizeLine := by
  obtain ⟨z, its, n, r, e⟩ := I.hok p _ h
  exact ⟨its, n, r, e, z⟩
theorem Inv.lstUpd {pins : List (Addr × Obj)} {σ : St} {H : Hp} {s : Shared} {p : Addr} {xs ys : List V} {its its' : List Value} {n n' : Nat} {f : Obj → Obj} (I : Inv X pins σ H s) (h : H p = some (.lst xs))
    (ho : s.heap.get? p = some { cls := .type "list", data := .seq its.toArray n }) (hf : f { cls := .type "list", data := .seq its.toArray n } = { cls := .type "list", data := .seq its'.toArray n' }) (r : Vals ys its') (hz : ys.length ≤ sizeLine) (t : Nat) :
    Inv X pins σ (upd H p (.lst ys)) { s with heap := s.heap.update p f, toks := t } := by
  have e : (s.heap.update p f).get? p = some { cls := .type "list", data := .seq its'.toArray n' } := by
    rw [Heap.get?_update_self f ho (by rw [hf] <;> rfl), hf]
  refine I.write (x := p) (e := p) (by rw [h]; trivial) (.inl rfl) (fun b u hb q => (Heap.get?_update_other _ _ (Ne.symm hb)).trans q) ⟨_, e⟩ ?_
  exact ⟨hz, its', n', r, e⟩
noncomputable def rSetL : V → V → V → Hp → (Hp → Prop) → Prop := fun o i v H Q => ∃ p xs k j, o = .ref p ∧ i = .int k ∧ H p = some (.lst xs) ∧ ixN xs.length k = some j ∧ Q (upd H p (.lst (xs.set j v)))
theorem set_list : PSet X rSetL := by
  intro pins s σ H o i v ov iv u Q I ro ri rv h
  obtain ⟨p, xs, k, j, rfl, rfl, hp, hj, q⟩ := h
  cases ro
  obtain ⟨t, rfl⟩ := ri
  obtain ⟨its, n, r, ho, hz⟩ := I.lst hp
  obtain ⟨h1, h2, h3, h4⟩ := ixN_seq hj
  have hl := r.length
  have hn := line63
  have I' : Inv X pins σ (upd H p (.lst (xs.set j v))) { s with heap := s.heap.update p (Obj.mapSeq (·.setIfInBounds j u)) } :=
    I.lstUpd hp ho (mapSeq_set its n j u) (r.set rv j) (by rw [List.length_set]; exact hz) s.toks
  by_cases h0 : 0 ≤ k
  · have hk : k.toNat = j := by
      rw [seqIndex_of h0 h4] at h1
      exact Option.some.inj h1
    exact PySem.W.ki_setAt ho h0 (by omega) (by rw [List.size_toArray, ← hl]; exact h4) (by rw [hk]; exact ⟨_, I', q⟩)
  · have hk : (k + (its.toArray.size : Int)).toNat = j := by
      rw [seqIndex_neg (by omega) h3] at h1
      rw [List.size_toArray, ← hl]
      exact Option.some.inj h1
    exact PySem.W.ki_setBack ho (by omega) (by rw [List.size_toArray, ← hl]; exact h3) (by omega) (by rw [hk]; exact ⟨_, I', q⟩)

theorem slice_bounds (lo hi : Option Int) (n : Nat) : (sliceBounds lo hi none n).1 = ((HT.sIx n 0 lo : Nat) : Int) ∧ (sliceBounds lo hi none n).2.1 = ((HT.sIx n n hi : Nat) : Int) ∧ (sliceBounds lo hi none n).2.2 = 1 := by
  refine ⟨?_, ?_, rfl⟩
  · cases lo with
    | none => simp [sliceBounds, HT.sIx]
    | some i =>
      simp only [sliceBounds, HT.sIx, Option.getD_none, show (1 : Int) > 0 by decide, if_true]
      by_cases h : i < 0
      · simp only [h, if_true] <;> omega
      · simp only [h, if_false] <;> omega
  · cases hi with
    | none => simp [sliceBounds, HT.sIx]
    | some i =>
      simp only [sliceBounds, HT.sIx, Option.getD_none, show (1 : Int) > 0 by decide, if_true]
      by_cases h : i < 0
      · simp only [h, if_true] <;> omega
      · simp only [h, if_false] <;> omega
theorem slicePick_cut (its : List Value) (lo hi : Option Int) : slicePick its.toArray lo hi none = ((its.drop (HT.sIx its.length 0 lo)).take (HT.sIx its.length its.length hi - HT.sIx its.length 0 lo)).toArray := by
  obtain ⟨h1, h2, h3⟩ := slice_bounds lo hi its.toArray.size
  unfold slicePick
  rw [h1, h2, h3]
  simp only [sliceRange_one, pick_run, List.size_toArray] <;> rfl
noncomputable def rSlL (K : PySem.W.Frag) : V → Option Int → Option Int → Hp → VK → Prop := fun x lo hi H Q => ∃ a xs, x = .ref a ∧ SqL K H a xs ∧ ∀ p, H p = none → Q (.ref p) (upd H p (.lst (cutV xs lo hi)))
theorem sl_list : SlR X (rSlL X.K) := by
  intro pins s σ H x v vl vu lo hi sl Q I rx hs pl pu h
  obtain ⟨a, xs, rfl, hx, q⟩ := h
  cases rx
  obtain ⟨its, r, ht, hz⟩ := I.list hx
  have hlen := r.length
  refine ⟨"list", _, slot_list_getitem.lookup, ht.isList.typeIs, ?_⟩
  refine wpAny_getItem_list_slice ht.isList hs pl pu .none (by simp) ?_ (by rw [List.size_toArray] <;> omega)
  rw [slicePick_cut, ← hlen]
  refine ⟨.ref s.heap.objs.size, _, I.laid (t' := s.toks) (o := .lst (cutV xs lo hi)) (fun b ob q => Heap.get?_push_of_some _ q) (Nat.le_refl _) ?_, rfl, q _ (I.hok.fresh (Nat.le_refl _))⟩
  exact ⟨Nat.le_trans (cutV_length xs lo hi) hz, _, 0, (r.drop (HT.sIx xs.length 0 lo)).take (HT.sIx xs.length xs.length hi - HT.sIx xs.length 0 lo), Heap.get?_push_size _ rfl⟩

noncomputable def flatV : V → Bool
  | .non => true
  | .bl _ => true
  | .int _ => true
  | .str _ => true
  | _ => false
noncomputable def eqV : V → V → Bool
  | .non, .non => true
  | .bl a, .bl b => a == b
  | .bl a, .int b => (if a then 1 else 0) == b
  | .int a, .bl b => a == (if b then 1 else 0)
  | .int a, .int b => a == b
  | .str a, .str b => a == b
  | _, _ => false
theorem eqAt_V {A : Around} {s : Shared} {y x : V} {u v : Value} (ry : RelV y u) (rx : RelV x v) (fy : flatV y = true) (fx : flatV x = true) : SeqAt.EqAt A s u v (eqV y x) := by
  cases y with
  | non =>
    cases ry
    cases x with
    | non => cases rx; exact SeqAt.EqAt.same _
    | bl b => cases rx; exact SeqAt.EqAt.none_bool b
    | int b => obtain ⟨t, rfl⟩ := rx; exact SeqAt.EqAt.none_int b t
    | str b => obtain ⟨t, rfl⟩ := rx; exact SeqAt.EqAt.none_str b t
    | _ => exact absurd (show false = true from fx) Bool.false_ne_true
  | bl a =>
    cases ry
    cases x with
    | non => cases rx; exact SeqAt.EqAt.bool_none a
    | bl b => cases rx; exact SeqAt.EqAt.bool_bool a b
    | int b => obtain ⟨t, rfl⟩ := rx; exact SeqAt.EqAt.bool_int a b t
    | str b => obtain ⟨t, rfl⟩ := rx; exact SeqAt.EqAt.bool_str a b t
    | _ => exact absurd (show false = true from fx) Bool.false_ne_true
  | int a =>
    obtain ⟨t', rfl⟩ := ry
    cases x with
    | non => cases rx; exact SeqAt.EqAt.int_none a t'
    | bl b => cases rx; exact SeqAt.EqAt.int_bool a t' b
    | int b => obtain ⟨t, rfl⟩ := rx; exact SeqAt.EqAt.int_int a t' b t
    | str b => obtain ⟨t, rfl⟩ := rx; exact SeqAt.EqAt.int_str a t' b t
    | _ => exact absurd (show false = true from fx) Bool.false_ne_true
  | str a =>
    obtain ⟨t', rfl⟩ := ry
    cases x with
    | non => cases rx; exact SeqAt.EqAt.str_none a t'
    | bl b => cases rx; exact SeqAt.EqAt.str_bool a t' b
    | int b => obtain ⟨t, rfl⟩ := rx; exact SeqAt.EqAt.str_int a t' b t
    | str b => obtain ⟨t, rfl⟩ := rx; exact SeqAt.EqAt.str_str a t' b t
    | _ => exact absurd (show false = true from fx) Bool.false_ne_true
  | _ => exact absurd (show false = true from fy) Bool.false_ne_true
theorem call_len_seq : CallR X (.builtin "len") (fun xs H Q => ∃ p ys, xs = [.ref p] ∧ (SqL X.K H p ys ∨ SqT X.K H p ys) ∧ Q (.int ys.length) H) := by
  intro pins s σ H xs us Q I r h
  obtain ⟨p, ys, rfl, hq, q⟩ := h
  obtain ⟨u, rfl, rx⟩ := vals1 r
  cases rx
  have hn := line63
  rcases hq with hq | hq
  · obtain ⟨its, r', pl, hz⟩ := I.list hq
    have hlen := r'.length
    exact Calls.call_len_list pl.isList (by simp only [List.size_toArray] <;> omega) ⟨.int ys.length, H, I.tok _, ⟨s.toks + 1, by rw [List.size_toArray, hlen]⟩, q⟩
  · obtain ⟨its, r', pl, hz⟩ := I.tuple hq
    have hlen := r'.length
    exact len_tuple pl (by simp only [List.size_toArray] <;> omega) ⟨.int ys.length, H, I.tok _, ⟨s.toks + 1, by rw [List.size_toArray, hlen]⟩, q⟩
theorem call_len_str : CallR X (.builtin "len") (fun xs H Q => ∃ z, xs = [.str z] ∧ z.length ≤ sizeLine ∧ Q (.int z.length) H) := by
  intro pins s σ H xs us Q I r h
  obtain ⟨z, rfl, hz, q⟩ := h
  obtain ⟨u, rfl, t, rfl⟩ := vals1 r
  have hn := line63
  exact len_str (by omega) ⟨.int z.length, H, I.tok _, ⟨_, rfl⟩, q⟩
theorem CallR.or {f : Value} {r r' : List V → Hp → VK → Prop} (h : CallR X f r) (h' : CallR X f r') : CallR X f (fun xs H Q => r xs H Q ∨ r' xs H Q) := by
  intro pins s σ H xs us Q I rs q
  rcases q with q | q
  · exact h pins s σ H xs us Q I rs q
  · exact h' pins s σ H xs us Q I rs q
noncomputable def tyV (K : PySem.W.Frag) (T : String) (x : V) (H : Hp) : Prop := match x with
  | .str _ => T = "str"
  | .int _ => T = "int"
  | .ref p => (T = "list" ∧ ∃ xs, SqL K H p xs) ∨ (T = "tuple" ∧ ∃ o, K.lookup p = some o ∧ o.cls = .type "tuple" ∧ o.dict = none) ∨
      (T = "dict" ∧ ((∃ kvs, H p = some (.dK kvs)) ∨ ∃ kvs, H p = some (.dT kvs))) ∨ (T = "set" ∧ ∃ S n, H p = some (.set S n))
  | _ => False
theorem tyV_is {pins : List (Addr × Obj)} {σ : St} {H : Hp} {s : Shared} {T : String} {x : V} {v : Value} (I : Inv X pins σ H s) (r : RelV x v) (ty : tyV X.K T x H) :
    s.TypeIs v T ∧ ∀ a, v = .ref a → ∃ ob, s.heap.get? a = some ob ∧ ob.dict = none := by
  cases x with
  | str z =>
    obtain ⟨t, rfl⟩ := r
    cases (show T = "str" from ty)
    exact ⟨typeIs_str s z t, fun _ e => nomatch e⟩
  | int i =>
    obtain ⟨t, rfl⟩ := r
    cases (show T = "int" from ty)
    exact ⟨typeIs_int s i t, fun _ e => nomatch e⟩
  | ref p =>
    cases r
    rcases ty with ⟨rfl, xs, hq⟩ | ⟨rfl, o, hk, hc, hd⟩ | ⟨rfl, hk⟩ | ⟨rfl, S, n, hk⟩
    · obtain ⟨its, _, pl, _⟩ := I.list hq
      refine ⟨pl.isList.typeIs, fun a e => ?_⟩
      cases e
      obtain ⟨o, n, e, c, hd, _⟩ := pl
      exact ⟨o, e, hd⟩
    · refine ⟨⟨o, I.kIn p o hk, hc⟩, fun a e => ?_⟩
      cases e
      exact ⟨o, I.kIn _ o hk, hd⟩
    · have z : ∃ o, s.heap.get? p = some o ∧ o.ExactDict := by
        rcases hk with ⟨kvs, hk⟩ | ⟨kvs, hk⟩
        · obtain ⟨_, _, _, _, o, _, _, e, ex, _⟩ := I.hok p _ hk
          exact ⟨o, e, ex⟩
        · obtain ⟨_, _, _, _, o, _, _, e, ex, _⟩ := I.hok p _ hk
          exact ⟨o, e, ex⟩
      obtain ⟨o, e, ex⟩ := z
      refine ⟨⟨o, e, ex.1⟩, fun a e2 => ?_⟩
      cases e2
      exact ⟨o, e, ex.2.1⟩
    · obtain ⟨o, _, _, _, e, ex, _⟩ := I.hok p _ hk
      refine ⟨⟨o, e, ex.1⟩, fun a e2 => ?_⟩
      cases e2
      exact ⟨o, e, ex.2.1⟩
  | _ => exact False.elim ty
noncomputable def tBM0 (K : PySem.W.Frag) (T : String) (r : V → List V → Hp → VK → Prop) (to : TE) : TE := fun σ H Q => to σ H fun x H1 => tyV K T x H1 ∧ r x [] H1 Q
noncomputable def tBM (K : PySem.W.Frag) (T : String) (r : V → List V → Hp → VK → Prop) (to : TE) (t : TA) : TE := fun σ H Q => to σ H fun x H1 => tyV K T x H1 ∧ t σ H1 fun xs H2 => r x xs H2 Q
variable {o e : Expr} {es : List Expr} {to : TE} {t : TA} {name : Str} {apos cpos : Pos} {T id : String} {r : V → List V → Hp → VK → Prop}
theorem pe_bm0 (pa : PlainAttrs T) (slot : Slot T name id) (hty : typeOf (.builtin id) = pure (.type "method_descriptor")) (hm : MtR X id r) (ho : PE X o to)
    (hbase : attributeBase o name X.env (eval o X.env) = eval o X.env := by rfl) (hline : (apos.endLine == cpos.line) = true := by rfl) : PE X (.Call (.Attribute o name apos) [] [] cpos) (tBM0 X.K T r to) := by
  intro pins s σ H Q I h
  refine wpAny_Call_method0_late hbase hline (thn (ho pins s σ H _ I h) fun v s1 ⟨x, H1, I1, r1, ty, q1⟩ => ?_)
  obtain ⟨h1, h2⟩ := tyV_is I1 r1 ty
  exact ⟨T, id, pa, slot, hty, h1, h2, Calls.callWith_builtin rfl (PySem.evalArgs_none (hm pins s1 σ H1 x [] v [] Q I1 r1 .nil q1))⟩
theorem pe_bm (pa : PlainAttrs T) (slot : Slot T name id) (hty : typeOf (.builtin id) = pure (.type "method_descriptor")) (hm : MtR X id r) (ho : PE X o to) (ha : PA X (e :: es) t)
    (hbase : attributeBase o name X.env (eval o X.env) = eval o X.env := by rfl)
    (hfew : ((backTo cpos (starEach (e :: es) X.env)).all (fun x => !x.1) && (backToKw cpos (keywordEach [] X.env)).all (fun x => x.1.isSome)
      && decide ((e :: es).length + ([] : List Keyword).length + (if ([] : List Keyword).isEmpty then 0 else 1) < 30)) = true := by rfl)
    (hline : (apos.endLine == cpos.line) = true := by rfl) (hs : starEach (e :: es) X.env = (false, eval e X.env) :: starEach es X.env := by rfl) (hplain : (backTo cpos (starEach es X.env)).any (·.1) = false := by rfl) :
    PE X (.Call (.Attribute o name apos) (e :: es) [] cpos) (tBM X.K T r to t) := by
  intro pins s σ H Q I h
  refine wpAny_Call_method_late hbase hfew hline rfl (thn (ho pins s σ H _ I h) fun v s1 ⟨x, H1, I1, r1, ty, q1⟩ => ?_)
  obtain ⟨h1, h2⟩ := tyV_is I1 r1 ty
  refine ⟨T, id, pa, slot, hty, h1, h2, ?_⟩
  have hA := ha cpos pins s1 σ H1 _ I1 q1
  rw [hs] at hA ⊢
  refine Calls.callWith_builtin (by show (false || (backTo cpos (starEach es X.env)).any (·.1)) = false; rw [hplain] <;> rfl) (Calls.evalArgs_plain ?_)
  exact thn hA fun us s2 ⟨vs, H2, I2, r2, q2⟩ => hm pins s2 σ H2 x vs v us Q I2 r1 r2 q2
end
end L2

namespace L2
open PySem PySem.Spec PyProof.Rows

noncomputable def MtM (X : Cx) (id : String) (r : V → List V → Hp → VK → Prop) : Prop :=
  ∀ (pins : List (Addr × Obj)) (s : Shared) (σ : St) (H : Hp) (x : V) (xs : List V) (v : Value) (us : List Value) (Q : VK), Inv X pins σ H s → RelV x v → Vals xs us → r x xs H Q →
    wpAny (model X.prog X.w) X.A (call (.builtin id) (v :: us)) (EP X pins σ Q) X.xe s

theorem Vals.one : ∀ {x : V} {us : List Value}, Vals [x] us → ∃ u, us = [u] ∧ RelV x u
  | _, _, .cons r .nil => ⟨_, rfl, r⟩
theorem Vals.two : ∀ {x y : V} {us : List Value}, Vals [x, y] us → ∃ u v, us = [u, v] ∧ RelV x u ∧ RelV y v
  | _, _, _, .cons r (.cons q .nil) => ⟨_, _, rfl, r, q⟩
theorem Vals.zero : ∀ {us : List Value}, Vals [] us → us = []
  | _, .nil => rfl
theorem Vals.reverse {xs : List V} {us : List Value} (h : Vals xs us) : Vals xs.reverse us.reverse := by
  induction h with
  | nil => exact .nil
  | cons r t ih => rw [List.reverse_cons, List.reverse_cons]; exact Vals.append ih (.cons r .nil)
section
variable {X : Cx} {pins : List (Addr × Obj)} {σ : St} {H : Hp} {s : Shared} {l b : Addr} {xs ys zs : List V}

theorem Inv.lset {its its' : List Value} {n : Nat} {f : Array Value → Array Value} {t' : Nat} (I : Inv X pins σ H s) (hH : H l = some (.lst xs))
    (e : s.heap.get? l = some { cls := .type "list", data := .seq its.toArray n }) (hf : f its.toArray = its'.toArray) (hv : Vals ys its') (hz : ys.length ≤ sizeLine) :
    Inv X pins σ (upd H l (.lst ys)) { s with heap := s.heap.update l (Obj.mapSeq f), toks := t' } := by
  have q := PySem.IsL.update e f
  rw [hf] at q
  refine I.write (x := l) (e := l) (by rw [hH]; exact trivial) (.inl rfl) (fun b' u hb hu => (Heap.get?_update_other s.heap (Obj.mapSeq f) (Ne.symm hb)).trans hu) ⟨_, q⟩ ?_
  exact ⟨hz, its', _, hv, q⟩
theorem Inv.lnew {its : List Value} {t' : Nat} (I : Inv X pins σ H s) (hv : Vals ys its) (hz : ys.length ≤ sizeLine) :
    Inv X pins σ (upd H s.heap.objs.size (.lst ys)) { s with heap := s.heap.push { cls := .type "list", data := .seq its.toArray }, toks := t' } :=
  I.laid (fun _ _ q => Heap.get?_push_of_some _ q) (Nat.le_refl _) ⟨hz, its, 0, hv, Heap.get?_push_size _ rfl⟩
theorem Inv.fresh (I : Inv X pins σ H s) : H s.heap.objs.size = none := I.hok.fresh (Nat.le_refl _)
theorem Inv.lstM (I : Inv X pins σ H s) (hH : H l = some (.lst xs)) : xs.length ≤ sizeLine ∧ ∃ (its : List Value) (n : Nat), Vals xs its ∧ xs.length = its.length ∧ s.heap.get? l = some { cls := .type "list", data := .seq its.toArray n } := by
  obtain ⟨z, its, n, r, e⟩ := I.hok l _ hH
  exact ⟨z, its, n, r, r.length, e⟩

theorem notLongL {n : Nat} (h : n ≤ sizeLine) : Builtin.List.listTooLong n = false := by
  unfold Builtin.List.listTooLong
  exact decide_eq_false (by omega)
end

section
variable {X : Cx}

noncomputable def rAppend : V → List V → Hp → VK → Prop := fun x vs H Q => ∃ l xs y, x = .ref l ∧ vs = [y] ∧ H l = some (.lst xs) ∧ xs.length < sizeLine ∧ Q .non (upd H l (.lst (xs ++ [y])))
theorem mt_append : MtM X "list.append" rAppend := by
  intro pins s σ H x vs v us Q I rx rv h
  obtain ⟨l, xs, y, rfl, rfl, hH, hz, q⟩ := h
  cases rx
  obtain ⟨u, rfl, ru⟩ := rv.one
  obtain ⟨z, its, n, r, hl, e⟩ := I.lstM hH
  refine call_meets F.slot_list_append ⟨_, e, rfl⟩ F.entry_list_append (F.args_list_append_2 _ _) (PySem.list_append l its.toArray n u (by rw [List.size_toArray]; omega)) ⟨e, ?_⟩
  refine ⟨.non, _, I.lset (its' := its ++ [u]) hH e (by simp) (r.append (.cons ru .nil)) ?_, rfl, q⟩
  rw [List.length_append, List.length_singleton]
  omega

noncomputable def rExtend : V → List V → Hp → VK → Prop := fun x vs H Q => ∃ l b xs zs, x = .ref l ∧ vs = [.ref b] ∧ H l = some (.lst xs) ∧ H b = some (.lst zs) ∧ xs.length + zs.length ≤ sizeLine ∧ Q .non (upd H l (.lst (xs ++ zs)))
theorem mt_extend : MtM X "list.extend" rExtend := by
  intro pins s σ H x vs v us Q I rx rv h
  obtain ⟨l, b, xs, zs, rfl, rfl, hH, hB, hz, q⟩ := h
  cases rx
  obtain ⟨u, rfl, ru⟩ := rv.one
  cases ru
  obtain ⟨z, its, n, r, hl, e⟩ := I.lstM hH
  obtain ⟨z2, its2, n2, r2, hl2, e2⟩ := I.lstM hB
  have hsz : its.toArray.size + its2.toArray.size ≤ sizeLine := by rw [List.size_toArray, List.size_toArray]; omega
  have hlong : ¬ (!its.toArray.isEmpty && Builtin.List.listTooLong (its.toArray.size + its2.toArray.size)) = true := by
    rw [notLongL hsz, Bool.and_false]
    exact Bool.false_ne_true
  refine call_meets F.slot_list_extend ⟨_, e, rfl⟩ F.entry_list_extend (F.args_list_extend_2 _ _)
    (AutoSeq1.list_extend_list_list_0 l its.toArray n b its2.toArray n2 hlong (by rw [List.size_toArray]; omega) (by omega)) ⟨e, e2, ?_⟩
  refine ⟨.non, _, I.lset (its' := its ++ its2) hH e (by simp) (r.append r2) ?_, rfl, q⟩
  rw [List.length_append]
  omega

noncomputable def rCat : R2 := fun x y H Q => ∃ l b xs zs, x = .ref l ∧ y = .ref b ∧ H l = some (.lst xs) ∧ H b = some (.lst zs) ∧ xs.length + zs.length ≤ sizeLine ∧ ∀ p, H p = none → Q (.ref p) (upd H p (.lst (xs ++ zs)))
theorem op_cat : OpR X (binaryOp .Add) rCat := by
  intro pins s σ H x y v u Q I rx ry h
  obtain ⟨l, b, xs, zs, rfl, rfl, hH, hB, hz, q⟩ := h
  cases rx
  cases ry
  obtain ⟨z, its, n, r, hl, e⟩ := I.lstM hH
  obtain ⟨z2, its2, n2, r2, hl2, e2⟩ := I.lstM hB
  refine PySem.P.add_list e e2 ?_ (by rw [List.size_toArray, List.size_toArray]; omega)
  have ea : its.toArray ++ its2.toArray = (its ++ its2).toArray := by simp
  rw [ea]
  exact ⟨.ref _, _, I.lnew (t' := s.toks) (r.append r2) (by rw [List.length_append]; omega), rfl, q _ I.fresh⟩
end

section
variable {prog : Program} {w : World} {A : Around} {E : Value → Shared → Prop} {s : Shared}
set_option maxRecDepth 100000 in
end

section
variable {X : Cx}
end
end L2

namespace Att
open PySem PySem.W PySem.Calls PyProof.Rows

theorem ints_of_wellAll {P : Params} {h : Heap} : ∀ (ns : List Int) (vs : List Value), WellAll P h vs (ns.map WData.int) → IntsAre vs ns := by
  intro ns
  induction ns with
  | nil =>
    intro vs w
    rw [List.map_nil] at w
    cases w
    exact .nil
  | cons n ns ih =>
    intro vs w
    rw [List.map_cons] at w
    cases w with
    | cons a b =>
      cases a
      exact .cons _ _ (ih _ b)

theorem script_of {l : OpenLaw} {n : Nat} (hn : l.most = some n) {P : Params} {h : Heap} {args : List WData} {vals : List Value}
    (hpre : l.row.toRowW.claim.pre args = true) (hwl : WellAll P h vals args) :
    ∃ a vs ns, vals = [Value.ref a] ∧ args = [WData.list (ns.map WData.int)] ∧ h.get? a = some { cls := .type "list", data := .seq vs.toArray } ∧ IntsAre vs ns ∧ ns.length ≤ n := by
  have hsh : WShape.hasAll [] args [.list .int] = true := (pre_splitW hpre).1
  have hc : l.pre.holds [] { args := args } = true := (pre_splitW hpre).2
  obtain ⟨d, r, rfl, h1, h2⟩ := hasAllW_cons hsh
  obtain rfl := hasAllW_nil h2
  obtain ⟨xs, rfl, h3⟩ := hasW_list h1
  obtain ⟨ns, rfl⟩ := items_int h3
  have hlen : ns.length ≤ n := by
    unfold OpenLaw.pre at hc
    have h4 : (WTm.not (.lt (.lit (.int (n : Int))) (.len (.arg 0)))).holds [] { args := [.list (ns.map .int)] } = true := by
      have h4 := (holds_andW hc).1
      rw [hn] at h4
      exact h4
    have h5 := condW_of h4 (w_not (w_lt w_lit (w_len_list (w_arg rfl))))
    rw [List.length_map] at h5
    refine Nat.le_of_not_lt fun q => ?_
    have q' : (n : Int) < ((ns.length : Nat) : Int) := by omega
    first
      | (rw [decide_eq_true q'] at h5; exact absurd h5 (by decide))
      | (simp at h5; omega)
  cases hwl with
  | cons w1 w2 =>
    cases w2
    cases w1 with
    | list ho hall => exact ⟨_, _, ns, rfl, rfl, ho, ints_of_wellAll ns _ hall, hlen⟩

theorem post_true (l : OpenLaw) (args : List WData) : l.row.toRowW.claim.post args (.bool true) args = true :=
  postW_of (r := l.row.toRowW) (X := (true == true))
    (show WShape.has [] (.bool true) .bool = true by first | rfl | decide | simp [WShape.has, WShape.arms, WShape.armsAll])
    (show (WTm.eq .res (.lit (.bool true))).value [] { args := args, res := some (.bool true), after := args } = some (.bool (true == true)) from w_eq_bool (w_res rfl) w_lit) rfl

theorem attach_call {l : OpenLaw} {n : Nat} {q : Program} {loose : List Str} {XP : (Str → Option Value) → Heap → Prop} {YP : World → Heap → Prop} {d : DefRec}
    (hn : l.most = some n) (hdf : d.params.defaults = [])
    (call : ∀ (w : World) (s₀ s₁ : Shared) (mg mb : Str → Option Value) (fa : Addr) (o : Obj) (pm cd doc : Value) (a : Addr) (vs : List Value) (ns : List Int),
      Ground q loose [] XP w s₀ mg mb s₁.heap → YP w s₁.heap →
      s₁.heap.get? fa = some o → o.data = .func (docDef d.name d.params d.body d.scope pm cd doc) → s₁.heap.CodeRec cd d.name → mg d.name = some (.ref fa) →
      s₁.heap.get? a = some { cls := .type "list", data := .seq vs.toArray } → IntsAre vs ns → ns.length ≤ n → s₁.gens = #[] →
      codeAny (model l.prog w) callerA (.call (.ref fa) ⟨[.ref a], []⟩) (fun r s' => r = .ok (.ret (.bool true)) ∧ OldK s₁.heap s'.heap ∧ s'.os = s₁.os ∧ AllBare s'.gens) s₁) :
    WalkO q loose XP YP l.row.toRowW d [] (fun f vs => PySem.call f vs) := by
  intro w s₀ s₁ mg mb G Y fa o pm cd doc dV kV ho hd hcd hD hmg hg args vals as hpre hlay hrd hwl hlo
  obtain rfl : dV = .none := Dflts.none hD hdf
  obtain rfl : kV = .none := Dflts.noKw hD
  obtain ⟨a, vs, ns, rfl, rfl, hobj, hints, hlen⟩ := script_of hn hpre hwl
  refine enter_call (codeAny_mono (call w s₀ s₁ mg mb fa o pm cd doc a vs ns G Y ho (fd_plain hd) hcd hmg hobj hints hlen hg) fun r s' hq => ?_)
  obtain ⟨rfl, h2, h3, h4⟩ := hq
  exact ⟨.inl ⟨.bool true, .bool true, [], rfl, fun _ => rfl, .bool true, post_true l _, fun _ => ⟨List.Pairwise.nil, fun _ hm => (nomatch hm)⟩⟩, h2, h3, h4⟩

section
variable {prog : Program} {w : World} {A : Around} {E : Value → Shared → Prop} {s : Shared} {K : Frag}

end
end Att

namespace L2
open PySem PySem.Spec PyProof.Rows

theorem vals_ints : ∀ {vs : List Value} {ns : List Int}, IntsAre vs ns → Vals (ns.map V.int) vs
  | _, _, .nil => .nil
  | _, _, .cons n t h => .cons ⟨t, rfl⟩ (vals_ints h)

noncomputable def Only (H : Hp) : Prop := ∀ b, H b = none ∨ ∃ o xs, H b = some (.frz o (.lst xs))

theorem law_call {P : Program} {w : World} {K : PySem.W.Frag} {mg mb : Str → Option Value} {CX : CXT} {k : Nat} {fa a : Addr} {fd : FuncData} {x : Str} {sp : Sp} {s₁ : Shared} {vs : List Value} {ns : List Int}
    (KX : K.In s₁.heap) (hns : s₁.heap.Ns mainGlobals mg) (hb : s₁.heap.Ns builtinsNs mb) (hbb : ∀ x : Str, x ≠ "__name__" → mb x = bootBuiltins x) (hlim : s₁.heap.NoLimit) (hg : s₁.gens = #[])
    (ha : s₁.heap.get? a = some { cls := .type "list", data := .seq vs.toArray }) (hi : IntsAre vs ns) (hl : ns.length ≤ sizeLine) (hr : Room k callerA)
    (F : ∀ base : Heap, K.In base → base.Ns mainGlobals mg → FnOk P w K mg base CX k fa fd [x] sp) (hbind : ∀ (s : Shared) (u : Value), BindsTo s fd ⟨[u], []⟩ [(x, u)])
    (hsp : ∀ H : Hp, Only H → SqL K H a (ns.map V.int) → sp [.ref a] H (fun v _ => v = .bl true) fun _ _ _ => False)
    (hCX : ∀ H e s', CX [] H s₁ (fun _ _ _ => False) e s' → False) :
    codeAny (model P w) callerA (.call (.ref fa) ⟨[.ref a], []⟩) (fun r s' => r = .ok (.ret (.bool true)) ∧ OldK s₁.heap s'.heap ∧ s'.os = s₁.os ∧ AllBare s'.gens) s₁ := by
  have rv := vals_ints hi
  have lenV := hi.length
  -- from an abstract heap in which nothing but the script may be tracked
  have core : ∀ H : Hp, Only H → SqL K H a (ns.map V.int) → HOk P w H s₁.heap → (∀ b, H b ≠ none → b = a) → (H a ≠ none → K.lookup a = none) →
      codeAny (model P w) callerA (.call (.ref fa) ⟨[.ref a], []⟩) (fun r s' => r = .ok (.ret (.bool true)) ∧ OldK s₁.heap s'.heap ∧ s'.os = s₁.os ∧ AllBare s'.gens) s₁ := by
    intro H hO hS hok hA hK
    have base_of : ∀ {b : Addr} {o : Obj}, s₁.heap.get? b = some o → H b = none → (hidT s₁.heap H).get? b = some o := fun e n => hidT_get e n
    have noA : ∀ {b : Addr} {o : Obj} {es : Array DictEntry} {ep : Nat}, s₁.heap.get? b = some o → o.data = .dict es ep → H b = none := fun {b o es ep} e d => by
      cases q : H b with
      | none => rfl
      | some u =>
        have e' : b = a := hA b (by rw [q]; simp)
        subst e'
        rw [ha] at e; cases e
        have d' : Data.seq vs.toArray _ = Data.dict es ep := d
        cases d'
    have nsK : ∀ {b : Addr} {m : Str → Option Value}, s₁.heap.Ns b m → (hidT s₁.heap H).Ns b m := fun {b m} ⟨o, es, ep, e, d, r⟩ => ⟨o, es, ep, base_of e (noA e d), d, r⟩
    have hKb : K.In (hidT s₁.heap H) := fun b o e => base_of (KX b o e) (by
      cases q : H b with
      | none => rfl
      | some u =>
        have e' : b = a := hA b (by rw [q]; simp)
        subst e'
        rw [hK (by rw [q]; simp)] at e; cases e)
    have hM : Mod K mg (hidT s₁.heap H) := ⟨hKb, nsK hns, ⟨mb, nsK hb, hbb⟩, let ⟨mc, h1, h2⟩ := hlim; ⟨mc, nsK h1, h2⟩⟩
    have e0 : Env0 P w K mg (hidT s₁.heap H) callerA [] s₁ H := ⟨rfl, hM, fun b o e => of_hidT e, Nat.le_of_eq (hidT_size _ _), trivial, fun b hb => absurd (show b ∈ ([] : List Addr) from hb) (by simp), hok, .of_eq hg⟩
    refine codeAny_mono ((F _ hKb (nsK hns)).run callerA [] s₁ H ⟨[.ref a], []⟩ [.ref a] [.ref a] _ _ hr e0 (hbind s₁ (.ref a)) (.cons rfl .nil) (hsp H hO hS)) fun r s' h => ?_
    cases r with
    | error e => exact (hCX H e s' h).elim
    | ok fl =>
      cases fl with
      | next => exact False.elim h
      | brk => exact False.elim h
      | cont => exact False.elim h
      | ret u =>
        obtain ⟨v, H', os, bare, un, hok', r', q⟩ := h
        have q' : v = .bl true := q
        subst q'
        obtain rfl : u = Value.bool true := r'
        refine ⟨rfl, OldK.of_keep fun b o e => ?_, os, bare⟩
        cases q : H b with
        | none => exact un.keep b o e q (by intro z; exact absurd (show b ∈ ([] : List Addr) from z) (by simp)) (by simp)
        | some u =>
          rcases hO b with z | ⟨ob, xs, z⟩
          · rw [q] at z; cases z
          · have z2 := un.frzs b ob _ z
            obtain ⟨e1, _⟩ := hok b _ z
            obtain ⟨e2, _⟩ := hok' b _ z2
            rw [e] at e1; cases e1
            exact e2
  cases hk : K.lookup a with
  | some o =>
    -- the script is one of the module's own objects
    have e := KX a o hk
    rw [ha] at e
    cases e
    refine core (fun _ => none) (fun _ => .inl rfl) (.inr ⟨_, vs.toArray, _, hk, rfl, rfl, rfl, by rw [List.size_toArray, lenV]; exact hl, by simpa using rv⟩) (fun b u z => by have z' : (none : Option HO) = some u := z; cases z') (fun b z => absurd rfl z) fun z => absurd rfl z
  | none =>
    refine core (fun b => if b = a then some (.frz { cls := .type "list", data := .seq vs.toArray } (.lst (ns.map V.int))) else none) (fun b => ?_) (.inl (.inr ⟨{ cls := .type "list", data := .seq vs.toArray }, if_pos rfl⟩)) (fun b u z => ?_) (fun b z => ?_) fun _ => hk
    · by_cases hb : b = a
      · exact .inr ⟨_, _, if_pos hb⟩
      · exact .inl (if_neg hb)
    · by_cases hb : b = a
      · have z' := (if_pos hb).symm.trans z
        cases z'
        subst hb
        exact ⟨ha, by rw [List.length_map]; exact hl, vs, _, rv, ha⟩
      · have z' := (if_neg hb).symm.trans z
        cases z'
    · by_cases hb : b = a
      · exact hb
      · exact absurd (if_neg hb) z
end L2

namespace L2
open PySem PySem.Spec PyProof.Rows

theorem walk_of {l : PySem.W.OpenLaw} {n k : Nat} {q : Program} {loose : List Str} {XP : (Str → Option Value) → Heap → Prop} {YP : World → Heap → Prop} {d : DefRec} {K : Params → PySem.W.Frag} {CX : World → CXT} {sp : World → Sp} {x : Str}
    (hn : l.most = some n) (hn2 : n ≤ sizeLine) (hdf : d.params.defaults = []) (hr : Room k callerA)
    (hY : ∀ (w : World) (h : Heap), YP w h → (K w.params).In h)
    (F : ∀ (w : World) (mg : Str → Option Value) (fa : Addr) (h : Heap), (K w.params).In h → h.Ns mainGlobals mg → mg d.name = some (.ref fa) →
      ∃ fd : FuncData, (∀ (s : Shared) (u : Value), BindsTo s fd ⟨[u], []⟩ [(x, u)]) ∧
        ∀ base : Heap, (K w.params).In base → base.Ns mainGlobals mg → FnOk l.prog w (K w.params) mg base (CX w) k fa fd [x] (sp w))
    (hsp : ∀ (w : World) (H : Hp) (a : Addr) (ns : List Int), ns.length ≤ n → Only H → SqL (K w.params) H a (ns.map V.int) → sp w [.ref a] H (fun v _ => v = .bl true) fun _ _ _ => False)
    (hCX : ∀ (w : World) (H : Hp) (s : Shared) (e : Value) (s' : Shared), CX w [] H s (fun _ _ _ => False) e s' → False) :
    PySem.W.WalkO q loose XP YP l.row.toRowW d [] (fun f vs => PySem.call f vs) := by
  refine Att.attach_call hn hdf fun w s₀ s₁ mg mb fa o pm cd doc a vs ns G Y ho hd hcd hmg hobj hints hlen hg => ?_
  have KX := hY w _ Y
  obtain ⟨fd, hb, hF⟩ := F w mg fa _ KX G.T.g hmg
  exact law_call KX G.T.g G.T.b G.T.builtins G.T.nolimit hg hobj hints (Nat.le_trans hlen hn2) hr hF hb (fun H hO hS => hsp w H a ns hlen hO hS) fun H e s' => hCX w H s₁ e s'
end L2



namespace L2
open PySem PySem.Spec PyProof.Rows

noncomputable def defArgs (s : Stmt) : Arguments := match s with
  | .FunctionDef _ a _ _ _ _ _ _ _ _ => a
  | _ => { posonlyargs := [], args := [], vararg := none, kwonlyargs := [], kw_defaults := [], kwarg := none, defaults := [] }
noncomputable def defBody (s : Stmt) : List Stmt := match s with
  | .FunctionDef _ _ b _ _ _ _ _ _ _ => b
  | _ => []
noncomputable def defScope (s : Stmt) : Scope := match s with
  | .FunctionDef _ _ _ _ _ _ sc _ _ _ => sc
  | _ => { kind := .function, names := [], isGenerator := false, isCoroutine := false }

noncomputable abbrev CX0 : CXT := fun _ _ _ _ _ _ => False
noncomputable abbrev E0 : XK := fun _ _ _ => False
theorem pass0 {X : Cx} : Passes CX0 X E0 := fun _ _ _ _ _ _ _ h => h.elim

structure Fun (K : PySem.W.Frag) (x qual : Str) (st : Stmt) (f : Addr) (fd : FuncData) : Prop where
  ex : ∃ (oc : Value) (od : Option Addr) (kV doc pm : Value) (an : Option Addr) (cdv ct : Value) (osl : Array (Option Value)),
    fd = PySem.W.fnOf x qual (defArgs st) (defBody st) (defScope st) .none kV doc pm an cdv ct ∧ K.lookup f = some ⟨oc, od, .func fd, osl⟩ ∧ PySem.W.codeIn K cdv qual = true
  kp : PySem.W.keepIn K (.ref f) = true
section
variable {P : Program} {w : World} {K : PySem.W.Frag} {mg : Str → Option Value} {base : Heap}
theorem Fun.ok {x qual : Str} {st : Stmt} {f : Addr} {fd : FuncData} {N ps : List Str} {k : Nat} {sp : Sp} (F : Fun K x qual st f fd) (S : FnScope N ps (defScope st)) (len : ∀ vs H Q E, sp vs H Q E → vs.length = ps.length)
    (hbody : ∀ (cdv : Value) (A : Around) (outer : List Env) (s : Shared) (H : Hp) (vs : List V) (Q : VK) (E : XK), Room k (A.deeper (envOfC qual (defScope st) s.heap.objs.size f cdv)) → sp vs H Q E →
      ∃ t, PSs (cxOf CX0 P w K mg base N qual (defScope st) f cdv A outer s H E).nox (defBody st) t ∧ t { nx := fun _ H' => Q .non H', rt := Q } (start N vs) H) : FnOk P w K mg base CX0 (k + 1) f fd ps sp := by
  obtain ⟨oc, od, kV, doc, pm, an, cdv, ct, osl, rfl, lk, hcd⟩ := F.ex
  refine fn_of lk hcd S len fun A outer s H vs Q E hr hsp => ?_
  obtain ⟨t, h, q⟩ := hbody cdv A outer s H vs Q E hr hsp
  exact ⟨t, h.nox, q⟩
theorem Fun.binds {x qual : Str} {st : Stmt} {f : Addr} {fd : FuncData} {ps : List Str} (F : Fun K x qual st f fd)
    (h : ∀ (kV doc pm : Value) (an : Option Addr) (cdv ct : Value) (us : List Value), us.length = ps.length → bindArgs (PySem.W.fnOf x qual (defArgs st) (defBody st) (defScope st) .none kV doc pm an cdv ct) ⟨us, []⟩ = pure (ps.zip us)) : Binds K fd ps [] := by
  obtain ⟨oc, od, kV, doc, pm, an, cdv, ct, osl, rfl, lk, hcd⟩ := F.ex
  exact .all (h kV doc pm an cdv ct)
theorem fun_mk {x qual : Str} {st : Stmt} {f : Addr} {oc : Value} {od an : Option Addr} {osl : Array (Option Value)} {kV doc pm cdv ct : Value} (l : K.lookup f = some ⟨oc, od, .func (PySem.W.fnOf x qual (defArgs st) (defBody st) (defScope st) .none kV doc pm an cdv ct), osl⟩)
    (c : PySem.W.codeIn K cdv qual = true) (k : PySem.W.keepIn K (.ref f) = true) : Fun K x qual st f (PySem.W.fnOf x qual (defArgs st) (defBody st) (defScope st) .none kV doc pm an cdv ct) := ⟨⟨oc, od, kV, doc, pm, an, cdv, ct, osl, rfl, l, c⟩, k⟩
end
section
variable {X : Cx}
theorem pv (i : Nat) {x : Str} {pos : Pos} (hN : X.N[i]? = some x := by rfl) (hv : Vis X.env.scope x := by first | exact Or.inl rfl | exact Or.inr (Or.inl rfl) | exact Or.inr (Or.inr rfl)) (hd : (x == ("__debug__" : Str)) = false := by decide)
    (hcd : (x == ("__classdict__" : Str)) = false := by decide) : PE X (.Name x pos) (tVar i) := pe_var hN hv hd hcd
end

theorem iteF {A B : Prop} (h : B) : if false = true then A else B := by
  rw [if_neg Bool.false_ne_true]
  exact h
theorem iteT {A B : Prop} (h : A) : if true = true then A else B := by
  rw [if_pos rfl]
  exact h
noncomputable def Same (H H' : Hp) : Prop := ∀ b o, H b = some o → H' b = some o
theorem Same.refl (H : Hp) : Same H H := fun _ _ h => h
theorem Same.trans {H H1 H2 : Hp} (a : Same H H1) (b : Same H1 H2) : Same H H2 := fun c o h => b c o (a c o h)
theorem Same.free {H H' : Hp} (e : Same H H') {l : Addr} (h : H' l = Option.none) : H l = Option.none := by
  cases q : H l with
  | none => rfl
  | some o =>
    rw [e l o q] at h
    cases h
theorem Same.seq {K : PySem.W.Frag} {H H' : Hp} {a : Addr} {xs : List V} (e : Same H H') (h : SqL K H a xs) : SqL K H' a xs := by
  rcases h with (h | ⟨o, h⟩) | h
  · exact .inl (.inl (e _ _ h))
  · exact .inl (.inr ⟨o, e _ _ h⟩)
  · exact .inr h

end L2

namespace L2
open PySem PySem.Spec PyProof.Rows

section
variable {prog : Program} {w : World} {A : Around} {R : Result → Shared → Prop} {s : Shared}
theorem compLoop_any {elt target iter : Expr} {ifs : List Expr} {scope : Scope} {pos : Pos} {it acc : Value} {env : Env} (I : Nat → Shared → Prop)
    (turn : ∀ n s, I n s → wpAny (model prog w) A (pyNext it) (fun r s₁ => match r with
      | none => R (.ok .next) s₁
      | some v => wpAny (model prog w) A (letOwnedTupleGo target it v) (fun _ s₁' => wpAny (model prog w) A (assign target env v) (fun _ s₂ =>
          wpAny (model prog w) A (forIn ifs true fun c r => if r = true then do let ok ← isTrue c env (eval c env); pure (ForInStep.yield ok) else pure (ForInStep.yield r)) (fun ok s₃ =>
            if ok = true then wpAny (model prog w) A (eval elt env) (fun x s₄ =>
              wpAny (model prog w) A (call (.builtin "list.append") [acc, x]) (fun _ s₅ => ∃ m, m < n ∧ I m s₅) (fun _ _ => False) s₄) (fun _ _ => False) s₃
            else ∃ m, m < n ∧ I m s₃) (fun _ _ => False) s₂) (fun _ _ => False) s₁') (fun _ _ => False) s₁) (fun _ _ => False) s)
    (n : Nat) (h : I n s) :
    codeAny (model prog w) A (.compLoop (.ListComp elt [⟨target, iter, ifs, 0⟩] scope pos) 0 it acc env) R s := by
  refine codeAny_loop rfl I (fun n s hI => ?_) n h
  show wpAny _ A ((compTurn (.ListComp elt [⟨target, iter, ifs, 0⟩] scope pos) 0 it acc env).onRaise (fun x => do noteFrame x env; theTreesLotGoes x)) _ _ s
  refine wpAny_noted ?_
  rw [compTurn_list]
  refine wpAny_bind (wpAny_standAt (wpAny_bind (wpAny_mono (turn n s hI) (fun r s₁ h₁ => ?_) fun _ _ h' => h'.elim)))
  cases r with
  | none => exact wpAny_pure h₁
  | some v =>
    refine wpAny_bind (wpAny_mono h₁ (fun _ s₁' h₁' => ?_) fun _ _ h' => h'.elim)
    refine wpAny_bind (wpAny_mono h₁' (fun _ s₂ h₂ => wpAny_bind (wpAny_mono h₂ (fun ok s₃ h₃ => ?_) fun _ _ h' => h'.elim)) fun _ _ h' => h'.elim)
    cases ok with
    | false => exact wpAny_pure ⟨rfl, h₃⟩
    | true =>
      exact wpAny_bind (wpAny_bind (wpAny_mono h₃ (fun x s₄ h₄ => wpAny_bind (wpAny_mono h₄ (fun _ s₅ h₅ => wpAny_pure (wpAny_pure ⟨rfl, h₅⟩)) fun _ _ h' => h'.elim)) fun _ _ h' => h'.elim))
end

noncomputable def clOf (cells : List (Str × Addr)) : List (Str × NameKind) → List (Str × Addr) → List (Str × Addr)
  | [], acc => acc
  | (n, k) :: r, acc => if k == .free then (match cells.lookup n with | some c => clOf cells r ((n, c) :: acc) | none => clOf cells r acc) else clOf cells r acc
theorem closureFor_fold (env : Env) : ∀ (names : List (Str × NameKind)) (acc : List (Str × Addr)), (∀ x ∈ names, x.2 = .free → ∃ c, env.cells.lookup x.1 = some c) →
    (forIn names acc (fun (x : Str × NameKind) (cs : List (Str × Addr)) => (match x with | (name, kind) => if kind == .free then (do let c ← cellOf env name; pure (ForInStep.yield ((name, c) :: cs))) else pure (ForInStep.yield cs) : Sem (ForInStep (List (Str × Addr)))))) = pure (clOf env.cells names acc)
  | [], acc, _ => rfl
  | (n, k) :: r, acc, h => by
    have hr : ∀ x ∈ r, x.2 = .free → ∃ c, env.cells.lookup x.1 = some c := fun x hx => h x (List.mem_cons_of_mem _ hx)
    simp only [List.forIn_cons]
    by_cases hk : (k == NameKind.free) = true
    · obtain ⟨c, hc⟩ := h (n, k) List.mem_cons_self (by simpa using hk)
      have hc' : env.cells.lookup n = some c := hc
      simp only [hk, if_true, cellOf, hc', pure_bind, clOf]
      exact closureFor_fold env r _ hr
    · simp only [hk, Bool.false_eq_true, if_false, pure_bind, clOf]
      exact closureFor_fold env r _ hr
theorem closureFor_is {scope : Scope} {env : Env} (h : ∀ x ∈ scope.names, x.2 = .free → ∃ c, env.cells.lookup x.1 = some c) : closureFor scope env = pure (clOf env.cells scope.names []) := by
  have e := closureFor_fold env scope.names [] h
  unfold closureFor
  simp only [bind_pure]
  refine Eq.trans ?_ e
  congr 1
theorem clOf_mem (cells : List (Str × Addr)) : ∀ (names : List (Str × NameKind)) (acc : List (Str × Addr)), (∀ p ∈ acc, cells.lookup p.1 = some p.2) → ∀ p ∈ clOf cells names acc, cells.lookup p.1 = some p.2
  | [], acc, h, p, hp => h p hp
  | (n, k) :: r, acc, h, p, hp => by
    unfold clOf at hp
    split at hp
    · split at hp
      · rename_i c hc
        refine clOf_mem cells r _ (fun q hq => ?_) p hp
        rcases List.mem_cons.mp hq with e | e
        · subst e; exact hc
        · exact h q e
      · exact clOf_mem cells r _ h p hp
    · exact clOf_mem cells r _ h p hp
theorem clOf_keeps (cells : List (Str × Addr)) : ∀ (names : List (Str × NameKind)) (acc : List (Str × Addr)) (p), p ∈ acc → p ∈ clOf cells names acc
  | [], acc, p, h => h
  | (n, k) :: r, acc, p, h => by
    unfold clOf
    split
    · split
      · exact clOf_keeps cells r _ p (List.mem_cons_of_mem _ h)
      · exact clOf_keeps cells r _ p h
    · exact clOf_keeps cells r _ p h
theorem clOf_has (cells : List (Str × Addr)) : ∀ (names : List (Str × NameKind)) (acc : List (Str × Addr)) (x : Str) (c : Addr), (x, NameKind.free) ∈ names → cells.lookup x = some c → (x, c) ∈ clOf cells names acc
  | [], acc, x, c, h, _ => by simp at h
  | (n, k) :: r, acc, x, c, h, e => by
    unfold clOf
    rcases List.mem_cons.mp h with q | q
    · cases q
      simp only [beq_self_eq_true, if_true, e]
      exact clOf_keeps cells r _ _ List.mem_cons_self
    · split
      · split
        · exact clOf_has cells r _ x c q e
        · exact clOf_has cells r _ x c q e
      · exact clOf_has cells r _ x c q e
theorem lookup_of_mem {α : Type} {l : List (Str × α)} {x : Str} {c : α} (h : (x, c) ∈ l) : ∃ c', l.lookup x = some c' := by
  induction l with
  | nil => simp at h
  | cons p r ih =>
    obtain ⟨y, d⟩ := p
    by_cases e : (x == y) = true
    · exact ⟨d, by simp [List.lookup_cons, e]⟩
    · have e' : (x == y) = false := by simpa using e
      rcases List.mem_cons.mp h with q | q
      · cases q; simp at e
      · obtain ⟨c', hc⟩ := ih q
        exact ⟨c', by simp [List.lookup_cons, e', hc]⟩
theorem clOf_lookup {cells : List (Str × Addr)} {names : List (Str × NameKind)} {x : Str} {c : Addr} (h : (clOf cells names []).lookup x = some c) : cells.lookup x = some c := 
  clOf_mem cells names [] (fun _ h => by simp at h) (x, c) (PySem.mem_of_lookup h)
theorem clOf_some {cells : List (Str × Addr)} {names : List (Str × NameKind)} {x : Str} {c : Addr} (h : (x, NameKind.free) ∈ names) (e : cells.lookup x = some c) : (clOf cells names []).lookup x = some c := by
  obtain ⟨c', hc⟩ := lookup_of_mem (clOf_has cells names [] x c h e)
  rw [hc, ← clOf_lookup hc, e]

theorem ObjOk.upd_none {P : Program} {w : World} {H : Hp} {h : Heap} {a b : Addr} {o u : HO} (n : H b = none) (x : ObjOk P w H h a o) : ObjOk P w (upd H b u) h a o :=
  x.stay (fun _ _ _ q => q) (fun c q => by rw [upd_ne (ne_of_none q n)]; exact q) fun c xs q => by rw [upd_ne (ne_of_none q n)]; exact q
theorem Inv.adopt {X : Cx} {pins : List (Addr × Obj)} {σ : St} {H : Hp} {s : Shared} {d : Addr} {o : HO} (I : Inv X pins σ H s) (n : H d = none) (h1 : X.s₀.heap.objs.size ≤ d) (h2 : d ≠ X.env.locals)
    (h3 : ∀ x c, X.env.cells.lookup x = some c → c ≠ d) (h4 : ∀ p ∈ X.pn ++ pins, p.1 ≠ d) (new : ObjOk X.prog X.w (upd H d o) s.heap d o) : Inv X pins σ (upd H d o) s := by
  have hH : HOk X.prog X.w (upd H d o) s.heap := fun b u e => by
    by_cases hb : b = d
    · subst hb
      rw [upd_same] at e
      cases e
      exact new
    · rw [upd_ne hb] at e
      exact (I.hok b u e).upd_none n
  have q := I.step (h' := s.heap) (H' := upd H d o) (g' := s.gens) (d' := s.drawn) (t' := s.toks) (ch := [d]) (fun b hb => by
      have e : b = d := by simpa using hb
      subst e
      exact ⟨.inr h1, h2, h3, h4⟩) (fun b o _ _ _ e _ => e) (fun b o _ _ _ e _ => ⟨o.slots, e⟩) (fun b u hb e z => by
      have hb' : b ≠ d := fun e => hb (by simp [e])
      rw [upd_ne hb']; exact z) (fun b o _ e => ⟨o, e⟩)
    (fun b xs e => by rw [upd_ne (ne_of_none e n)]; exact e) (fun b u xs e => by rw [upd_ne (ne_of_none e n)]; exact e) (fun b ps e => ⟨#[], by rw [upd_ne (ne_of_none e n), e]; simp⟩) (fun m hm => hm) hH I.bare
  exact q
end L2

namespace L2
open PySem PySem.Spec PyProof.Rows

theorem relabel_lookup (scope : Scope) (env : Env) (x : Str) : (relabel scope env).names.lookup x = (scope.names.lookup x).map fun k => if (k == .free && env.scope.kind == .function && env.kindOf x == some .cell) = true then .cell else k := by
  show (scope.names.map fun (n, k) => if (k == NameKind.free && env.scope.kind == .function && env.kindOf n == some .cell) then (n, NameKind.cell) else (n, k)).lookup x = _
  generalize scope.names = l
  induction l with
  | nil => rfl
  | cons p r ih =>
    obtain ⟨n, k⟩ := p
    show List.lookup x ((if (k == NameKind.free && env.scope.kind == .function && env.kindOf n == some .cell) = true then (n, NameKind.cell) else (n, k)) :: _) = _
    cases hx : x == n with
    | true =>
      have e : x = n := by simpa using hx
      subst e
      simp only [List.lookup_cons, beq_self_eq_true, Option.map_some]
      split <;> simp
    | false =>
      simp only [List.lookup_cons, hx]
      split <;> (simp only [List.lookup_cons, hx]; exact ih)

noncomputable def compCx (X : Cx) (N' : List Str) (scope : Scope) (s₃ : Shared) (H₃ : Hp) (ex : List Addr) (pins : List (Addr × Obj)) : Cx :=
  { X with N := N', s₀ := s₃, H₀ := H₃, env := compEnvC scope (clOf X.env.cells scope.names []) s₃.heap.objs.size X.env, outer := X.stack, ex := ex, fn := fun _ => false, pn := X.pn ++ pins, xe := fun _ _ => False }
noncomputable def inSt (k : Nat) (keep : List Nat) (σ : St) : St := List.replicate k none ++ keep.map fun i => (σ[i]?).join
structure CompOk (X : Cx) (N' : List Str) (k : Nat) (keep : List Nat) (scope : Scope) : Prop where
  kind : scope.kind = .function
  cell : ∀ y ∈ scope.names, y.2 ≠ .cell
  names : ∀ y ∈ scope.names, y.2 = .local → scope.names.lookup y.1 = some .local
  free : ∀ y ∈ scope.names, y.2 = .free → X.env.scope.names.lookup y.1 = some .cell ∨ X.env.scope.names.lookup y.1 = some .free
  len : N'.length = k + keep.length
  kept : ∀ j i, keep[j]? = some i → ∃ x, N'[k + j]? = some x ∧ X.N[i]? = some x ∧ scope.names.lookup x = some .free
theorem mem_of_lk {l : List (Str × NameKind)} {x : Str} {k : NameKind} (h : l.lookup x = some k) : (x, k) ∈ l := PySem.mem_of_lookup h
section
variable {X : Cx} {N' : List Str} {k : Nat} {keep : List Nat} {scope : Scope} {pins : List (Addr × Obj)} {σ : St} {H H₃ : Hp} {s s₃ : Shared} {ex : List Addr}
theorem CompOk.clo (c : CompOk X N' k keep scope) (ok : X.Ok) : ∀ y ∈ scope.names, y.2 = .free → ∃ c, X.env.cells.lookup y.1 = some c := fun y hy hf => ok.has y.1 (c.free y hy hf)
theorem CompOk.inner (c : CompOk X N' k keep scope) {x : Str} (h : (relabel scope X.env).names.lookup x = some .cell ∨ (relabel scope X.env).names.lookup x = some .free) : scope.names.lookup x = some .free := by
  rw [relabel_lookup] at h
  cases e : scope.names.lookup x with
  | none => rw [e] at h; simp at h
  | some q =>
    rw [e] at h
    have hc := c.cell _ (mem_of_lk e)
    simp only [Option.map_some, Option.some.injEq] at h
    by_cases hq : (q == NameKind.free && X.env.scope.kind == .function && X.env.kindOf x == some .cell) = true
    · have : q = .free := by
        simp only [Bool.and_eq_true] at hq
        simpa using hq.1.1
      rw [this]
    · rw [if_neg hq] at h
      rcases h with h | h
      · exact absurd h hc
      · rw [h]
theorem Inv.enter (c : CompOk X N' k keep scope) (I : Inv X pins σ H s₃) {h' : Heap} {t' : Nat} {m : Str → Option Value} (hns : h'.Ns s₃.heap.objs.size m) (hk : ∀ b o, s₃.heap.get? b = some o → h'.get? b = some o)
    (hex : ∀ b ∈ ex, b < s₃.heap.objs.size ∧ b ≠ X.env.locals ∧ b ∉ X.fs ∧ (b ∈ X.ex ∨ X.s₀.heap.objs.size ≤ b) ∧ ∀ x c, X.env.cells.lookup x = some c → c ≠ b) :
    Inv (compCx X N' scope s₃ H ex pins) [] (inSt k keep σ) H { s₃ with heap := h', toks := t' } := by
  have hcl : ∀ x c', (clOf X.env.cells scope.names []).lookup x = some c' → X.env.cells.lookup x = some c' := fun x c' h => clOf_lookup h
  have nstk : ∀ b ∈ ex, b ∉ frs X.stack := fun b hb z => by
    obtain ⟨h0, h1, h2, _⟩ := hex b hb
    rcases List.mem_cons.mp (I.stkSub b z) with e | e
    · exact h1 e
    · exact h2 e
  have cltb : ∀ x c', X.env.cells.lookup x = some c' → c' < s₃.heap.objs.size := fun x c' e => by
    obtain ⟨v, q⟩ := I.cell x c' e
    exact q.lt
  refine ⟨⟨I.ok.mod, c.kind, I.ok.glob, I.ok.blt, Nat.le_refl _, ?inj, ?has, ?cab, I.ok.hd, I.ok.frames, .inl rfl, ?exf, I.bs, Nat.le_trans I.ok.bsz I.sz, ?noex, nstk, I.stack, I.stkFree⟩, rfl, I.bare, Un.kept hk, ?loc, ?cell, ?free, ?freeC, ?pin, I.hok.kept hk, ?len⟩
  case inj => exact fun x y a h1 h2 => I.ok.inj x y a (hcl x a h1) (hcl y a h2)
  case has =>
    intro x hx
    have e : scope.names.lookup x = some .free := c.inner hx
    obtain ⟨a, ha⟩ := c.clo I.ok (x, .free) (mem_of_lk e) rfl
    exact ⟨a, clOf_some (mem_of_lk e) ha⟩
  case cab => exact fun x a hf => absurd hf (by show ¬ (false = true); simp)
  case exf => exact fun b hb => ⟨Nat.ne_of_lt (hex b hb).1, fun x a e => (hex b hb).2.2.2.2 x a (hcl x a e)⟩
  case noex =>
    intro b o e hb
    rcases (hex b hb).2.2.2.1 with z | z
    · exact I.ok.noex b o e z
    · exact absurd (Nat.lt_of_lt_of_le (Heap.lt_size e) (Nat.le_trans I.ok.bsz z)) (Nat.lt_irrefl _)
  case loc =>
    refine ⟨m, hns, fun i x v e1 e2 e3 => ?_⟩
    have e1 : N'[i]? = some x := e1
    unfold inSt at e2
    by_cases hi : i < k
    · rw [List.getElem?_append_left (by simpa using hi), List.getElem?_replicate, if_pos hi] at e2
      cases e2
    · rw [List.getElem?_append_right (by simpa using hi), List.length_replicate, List.getElem?_map] at e2
      cases ej : keep[i - k]? with
      | none => rw [ej] at e2; cases e2
      | some j =>
        rw [ej] at e2
        have e2' : (σ[j]?).join = some v := Option.some.inj e2
        have e2' : σ[j]? = some (some v) := by
          cases q : σ[j]? with
          | none => rw [q] at e2'; cases e2'
          | some y => rw [q] at e2'; exact congrArg some e2'
        obtain ⟨x', p1, p2, p3⟩ := c.kept _ _ ej
        have ex' : k + (i - k) = i := by omega
        rw [ex', e1] at p1
        cases p1
        have fr := c.free _ (mem_of_lk p3) rfl
        obtain ⟨m0, hn0, hl0⟩ := I.loc
        obtain ⟨u, ru, lk⟩ := hl0 j x v p2 e2' (.inr fr)
        refine ⟨u, ru, ?_⟩
        rcases lk with ⟨l1, _⟩ | ⟨_, a, ha, hcell⟩
        · exfalso
          have l1 : X.env.scope.names.lookup x = some .local := l1
          rcases fr with z | z
          · rw [z] at l1; cases l1
          · rw [z] at l1; cases l1
        · refine .inr ⟨e3.elim (fun z => ?_) id, a, clOf_some (mem_of_lk p3) ha, ?_⟩
          · exfalso
            have z : (relabel scope X.env).names.lookup x = some .local := z
            rw [relabel_lookup, p3] at z
            simp only [Option.map_some, Option.some.injEq] at z
            split at z <;> cases z
          · obtain ⟨o, ho, hd⟩ := hcell
            exact ⟨o, hk _ _ ho, hd⟩
  case cell =>
    intro x a h
    obtain ⟨v, o, ho, hd⟩ := I.cell x a (hcl x a h)
    exact ⟨v, o, hk _ _ ho, hd⟩
  case free => exact I.hok.fresh (Nat.le_refl _)
  case freeC => exact fun x a h => I.freeC x a (hcl x a h)
  case pin =>
    intro p hp
    have hp : p ∈ X.pn ++ pins := by simpa [compCx] using hp
    obtain ⟨e, n, ne, nf, d⟩ := I.pin p hp
    refine ⟨hk _ _ e, n, Nat.ne_of_lt (Heap.lt_size e), fun z => ?_, d⟩
    rcases List.mem_cons.mp (I.stkSub p.1 z) with q | q
    · exact ne q
    · exact nf q
  case len =>
    show (inSt k keep σ).length = N'.length
    rw [c.len]
    unfold inSt
    simp
theorem Inv.leave (I : Inv X pins σ H₃ s₃) {σ' : St} {pins' : List (Addr × Obj)} (J : Inv (compCx X N' scope s₃ H₃ ex pins) pins' σ' H s)
    (hex : ∀ b ∈ ex, b < s₃.heap.objs.size ∧ b ≠ X.env.locals ∧ b ∉ X.fs ∧ (b ∈ X.ex ∨ X.s₀.heap.objs.size ≤ b) ∧ ∀ x c, X.env.cells.lookup x = some c → c ≠ b) (hpin : ∀ b ∈ ex, ∀ p ∈ X.pn ++ pins, p.1 ≠ b) :
    Inv X pins σ H s := by
  have u : Un (frs X.stack) ex H₃ H s₃.heap s.heap := J.base
  have ho : s.os = s₃.os := J.os
  exact I.call' ho u J.hok J.bare fun b hb => ⟨(hex b hb).2.2.2.1, (hex b hb).2.1, (hex b hb).2.2.2.2, hpin b hb⟩
end

noncomputable def PTs (X : Cx) (ifs : List Expr) (t : TT) : Prop :=
  ∀ (pins : List (Addr × Obj)) (s : Shared) (σ : St) (H : Hp) (Q : Bool → Hp → Prop), Inv X pins σ H s → t σ H Q →
    wpAny (model X.prog X.w) X.A (forIn ifs true fun c r => if r = true then do let ok ← isTrue c X.env (eval c X.env); pure (ForInStep.yield ok) else pure (ForInStep.yield r)) (TP X pins σ Q) X.xe s
theorem pts_nil {X : Cx} : PTs X [] (fun _ H Q => Q true H) := fun pins s σ H Q I h => wpAny_tests_nil ⟨H, I, h⟩
theorem pts_one {X : Cx} {c : Expr} {t : TT} (h : PT X c t) : PTs X [c] t := fun pins s σ H Q I q => wpAny_tests_one (h pins s σ H Q I q)

noncomputable def CompW (J : It) (g : TG) (tc : TT) (te : TE) (Q : List V → Hp → Prop) (σ' : St) (H1 : Hp) : Prop :=
  ∃ W : Nat → Nat → List V → St → Hp → Prop, (∃ m, W 0 m [] σ' H1) ∧ ∀ i m xs σ H, W i m xs σ H → xs.length ≤ sizeLine ∧
    ((J.stop i H ∧ Q xs H) ∨ (J.go i H ∧ ∀ x H', J.yld i H x H' → g x σ H' fun σ2 H2 => tc σ2 H2 fun b H3 =>
      if b = true then te σ2 H3 fun y H4 => ∃ m', m' < m ∧ W (i + 1) m' (xs ++ [y]) σ2 H4 else ∃ m', m' < m ∧ W (i + 1) m' xs σ2 H3))
noncomputable def Own (X : Cx) (pins : List (Addr × Obj)) (H : Hp) (b : Addr) : Prop :=
  H b = none ∧ X.s₀.heap.objs.size ≤ b ∧ b ≠ X.env.locals ∧ (∀ x c, X.env.cells.lookup x = some c → c ≠ b) ∧ ∀ p ∈ X.pn ++ pins, p.1 ≠ b
theorem Inv.own {X : Cx} {pins : List (Addr × Obj)} {σ : St} {H H' : Hp} {s : Shared} {b : Addr} (I : Inv X pins σ H s) (hb : s.heap.objs.size ≤ b) (hn : H' b = none) : Own X pins H' b := by
  obtain ⟨f0, f1, f2, f3, f4, f5⟩ := I.fpOk hb hn
  exact ⟨f0, Nat.le_trans I.sz hb, f1, f4, f5⟩
section
variable {X : Cx} {N' : List Str} {k : Nat} {keep : List Nat} {scope : Scope} {pins : List (Addr × Obj)} {σ : St} {H : Hp} {s : Shared}
theorem comp_block {elt tg iter : Expr} {ifs : List Expr} {pos : Pos} {J : It} {fp : List Addr} {it : Addr} {tn : Nat → Heap → Prop} {g : TG} {tc : TT} {te : TE} {Q : List V → Hp → Prop} {RR : Value → Addr → Result → Shared → Prop} {E : Value → Shared → Prop}
    (c : CompOk X N' k keep scope) (calm : X.calm = true) (I : Inv X pins σ H s) (T : Turn X.prog X.w X.K tg J fp it tn) (st : tn 0 s.heap) (hf : ∀ b ∈ fp, FpOk X pins H b)
    (hg : ∀ s₃ ex, PG (compCx X N' scope s₃ H ex pins) tg g) (hc : ∀ s₃ ex, PTs (compCx X N' scope s₃ H ex pins) ifs tc) (he : ∀ s₃ ex, PE (compCx X N' scope s₃ H ex pins) elt te)
    (hW : CompW J g tc te Q (inSt k keep σ) H)
    (hRR : ∀ D C s' H' xs m, Inv X pins σ H' s' → Own X pins H' D → Own X pins H' C → D ≠ C → ObjOk X.prog X.w (upd H' D (.lst xs)) s'.heap D (.lst xs) → s'.heap.Ns C m → Q xs H' → RR (.ref D) C (.ok .next) s') :
    wpAny (model X.prog X.w) X.A (newList []) (fun acc s₃ => wpAny (model X.prog X.w) X.A (newFunctionEnv scope X.env.globals (clOf X.env.cells scope.names []) [] X.env.qual none .none (some X.env)) (fun cenv s₄ =>
      codeAny (model X.prog X.w) X.A (.compStart (.ListComp elt [⟨tg, iter, ifs, 0⟩] scope pos) 0 (.ref it) acc { cenv with scope := relabel scope X.env }) (RR acc cenv.locals) s₄) E s₃) E s := by
  refine wpAny_newObj_type (wpAny_newFunctionEnv c.cell (by intro y hy; simp at hy) (fun h₁ hns₁ hsb₁ => ?_) c.kind)
  dsimp only at hns₁ hsb₁ ⊢
  generalize hH2 : s.heap.push { cls := .type "list", dict := none, data := .seq ([] : List Value).toArray } = H2 at hns₁ hsb₁ ⊢
  have I3 : Inv X pins σ H { s with heap := H2 } := I.kept (t' := s.toks) fun b o e => hH2 ▸ Heap.get?_push_of_some _ e
  have hC : H2.objs.size = s.heap.objs.size + 1 := by rw [← hH2, Heap.size_push]
  have hlt : s.heap.objs.size < H2.objs.size := by rw [hC]; exact Nat.lt_succ_self _
  have hne : s.heap.objs.size ≠ H2.objs.size := Nat.ne_of_lt hlt
  have fpo : ∀ b ∈ fp, ∃ o, s.heap.get? b = some o ∧ ∀ v, o.data ≠ .cell v := T.obj _ _ st
  have fplt : ∀ b ∈ fp, b < s.heap.objs.size := fun b hb => by
    obtain ⟨o, e, _⟩ := fpo b hb
    exact Heap.lt_size e
  have nD : H s.heap.objs.size = none := I.hok.fresh (Nat.le_refl _)
  have nC : H H2.objs.size = none := I.hok.fresh (by omega)
  have oD : Own X pins H s.heap.objs.size := I.own (Nat.le_refl _) nD
  have oC : Own X pins H H2.objs.size := I.own (by omega) nC
  have hkp : ∀ b o, H2.get? b = some o → h₁.get? b = some o := fun b o e => hsb₁.extBut b o (Nat.ne_of_lt (Heap.lt_size e)) (Heap.get?_push_of_some _ e)
  have hex : ∀ b ∈ s.heap.objs.size :: fp, b < ({ s with heap := H2 } : Shared).heap.objs.size ∧ b ≠ X.env.locals ∧ b ∉ X.fs ∧ (b ∈ X.ex ∨ X.s₀.heap.objs.size ≤ b) ∧ ∀ x c, X.env.cells.lookup x = some c → c ≠ b := fun b hb => by
    rcases List.mem_cons.mp hb with e | e
    · subst e
      exact ⟨hlt, oD.2.2.1, I.nofs (Nat.le_refl _), .inr oD.2.1, oD.2.2.2.1⟩
    · obtain ⟨f0, f1, f2, f3, f4, f5⟩ := hf b e
      exact ⟨Nat.lt_trans (fplt b e) hlt, f1, f2, f3, f4⟩
  have hpin : ∀ b ∈ s.heap.objs.size :: fp, ∀ p ∈ X.pn ++ pins, p.1 ≠ b := fun b hb p hp => by
    rcases List.mem_cons.mp hb with e | e
    · subst e; exact oD.2.2.2.2 p hp
    · exact (hf b e).2.2.2.2.2 p hp
  have Dstk : s.heap.objs.size ∉ frs X.stack := fun z => by
    rcases List.mem_cons.mp (I.stkSub _ z) with q | q
    · exact oD.2.2.1 q
    · exact I.nofs (Nat.le_refl _) q
  -- what an address of the iterator is in the block
  generalize hY : compCx X N' scope { s with heap := H2 } H (s.heap.objs.size :: fp) pins = Y
  have ePrg : Y.prog = X.prog := by subst hY; rfl
  have eW : Y.w = X.w := by subst hY; rfl
  have eK : Y.K = X.K := by subst hY; rfl
  have eA : Y.A = X.A := by subst hY; rfl
  have eCalm : Y.calm = true := by subst hY; exact calm
  have eEnv : Y.env = compEnvC scope (clOf X.env.cells scope.names []) H2.objs.size X.env := by subst hY; rfl
  have eXe : Y.xe = fun _ _ => False := by subst hY; rfl
  have J0 : Inv Y [] (inSt k keep σ) H { s with heap := h₁, toks := s.toks + ([] : List (Str × Value)).length } := by
    subst hY
    exact I3.enter (t' := s.toks + ([] : List (Str × Value)).length) c hns₁ hkp hex
  have fpY : ∀ {H' : Hp} {q : List (Addr × Obj)}, (∀ b ∈ fp, H' b = none) → (∀ p ∈ q, p.1 = s.heap.objs.size) → ∀ b ∈ fp, FpOk Y q H' b := fun {H' q} hn hq b hb => by
    obtain ⟨f0, f1, f2, f3, f4, f5⟩ := hf b hb
    have lt := fplt b hb
    subst hY
    refine ⟨hn b hb, Nat.ne_of_lt (Nat.lt_trans lt hlt), fun z => ?_, .inl (List.mem_cons_of_mem _ hb), fun x a e => f4 x a (clOf_lookup e), fun p hp => ?_⟩
    · rcases List.mem_cons.mp (I.stkSub b z) with q | q
      · exact f1 q
      · exact f2 q
    · rcases List.mem_append.mp (show p ∈ (X.pn ++ pins) ++ q from hp) with z | z
      · exact f5 p z
      · rw [hq p z]; exact Nat.ne_of_gt lt
  obtain ⟨W, ⟨m0, w0⟩, turn⟩ := hW
  let Iv : Nat → Shared → Prop := fun n s' => ∃ i xs σ' H' its nn, Inv Y [] σ' H' s' ∧ tn i s'.heap ∧ (∀ b ∈ fp, H' b = none) ∧ H' s.heap.objs.size = none ∧ Vals xs its ∧ s'.heap.get? s.heap.objs.size = some { cls := .type "list", data := .seq its.toArray nn } ∧ W i n xs σ' H'
  have hdD : ∀ {h' : Heap}, (∀ b o, s.heap.get? b = some o → h'.get? b = some o) → True := fun _ => trivial
  have start : Iv m0 { s with heap := h₁, toks := s.toks + ([] : List (Str × Value)).length } := by
    refine ⟨0, [], _, H, [], 0, J0, T.keep _ _ _ st fun b hb o e => hkp b o (hH2 ▸ Heap.get?_push_of_some _ e), fun b hb => (hf b hb).1, nD, .nil, ?_, w0⟩
    exact hkp _ _ (hH2 ▸ Heap.get?_push_size _ rfl)
  have loop : ∀ s₃ : Shared, s₃ = { s with heap := h₁, toks := s.toks + ([] : List (Str × Value)).length } →
      codeAny (model X.prog X.w) X.A (.compLoop (.ListComp elt [⟨tg, iter, ifs, 0⟩] scope pos) 0 (.ref it) (.ref s.heap.objs.size) (compEnvC scope (clOf X.env.cells scope.names []) H2.objs.size X.env))
        (RR (.ref s.heap.objs.size) H2.objs.size) s₃ := by
    rintro s₃ rfl
    refine compLoop_any Iv (fun n s' hI => ?_) m0 start
    obtain ⟨i, xs, σ', H', its, nn, J', tn', fr', dn', rv, hl, w'⟩ := hI
    obtain ⟨hsz, alt⟩ := turn i n xs σ' H' w'
    rcases alt with ⟨stop, q⟩ | ⟨go, step⟩
    · have z := T.done Y ePrg eW eK eCalm i [] s' σ' H' (fun _ _ => False) J' (fpY fr' (fun _ h => by simp at h)) tn' stop
      rw [eA] at z
      -- the list's record is kept: pin it through the last look
      have J'' : Inv Y [(s.heap.objs.size, { cls := .type "list", data := .seq its.toArray nn })] σ' H' s' := J'.pins_of fun p hp => by
        have e : p = (s.heap.objs.size, { cls := .type "list", data := .seq its.toArray nn }) := by simpa using hp
        subst e
        refine ⟨hl, dn', ?_, ?_, fun v h => nomatch h⟩
        · rw [eEnv]; exact hne
        · subst hY; exact Dstk
      have z := T.done Y ePrg eW eK eCalm i _ s' σ' H' (fun _ _ => False) J'' (fpY fr' (fun p hp => by have e : p = _ := (List.mem_singleton.mp hp); rw [e])) tn' stop
      rw [eA] at z
      refine wpAny_mono z (fun r s4 ⟨hr, J4⟩ => ?_) fun _ _ f => f
      subst hr
      have hl4 := (J4.pin _ (List.mem_append_right _ (List.mem_singleton.mpr rfl))).1
      have J5 : Inv (compCx X N' scope { s with heap := H2 } H (s.heap.objs.size :: fp) pins) [(s.heap.objs.size, { cls := .type "list", data := .seq its.toArray nn })] σ' H' s4 := by rw [hY]; exact J4
      have I4 : Inv X pins σ H' s4 := I3.leave J5 hex hpin
      obtain ⟨mC, hnC, _⟩ := J4.loc
      have cfree := J4.free
      rw [eEnv] at hnC cfree
      refine hRR _ _ s4 H' xs mC I4 ⟨dn', oD.2⟩ ⟨cfree, oC.2⟩ hne ⟨hsz, its, nn, rv, hl4⟩ hnC q
    · have J'' : Inv Y [(s.heap.objs.size, { cls := .type "list", data := .seq its.toArray nn })] σ' H' s' := J'.pins_of fun p hp => by
        have e : p = (s.heap.objs.size, { cls := .type "list", data := .seq its.toArray nn }) := by simpa using hp
        subst e
        refine ⟨hl, dn', ?_, ?_, fun v h => nomatch h⟩
        · rw [eEnv]; exact hne
        · subst hY; exact Dstk
      have z := T.item Y ePrg eW eK eCalm i _ s' σ' H' (fun _ _ => False) J'' (fpY fr' (fun p hp => by have e : p = _ := (List.mem_singleton.mp hp); rw [e])) tn' go
      rw [eA] at z
      refine wpAny_mono z (fun r s4 ⟨u, hr, h4⟩ => ?_) fun _ _ f => f
      subst hr
      refine wpAny_mono h4 (fun _ s5 ⟨x, H5, J5, r5, y5, tn5, fr5⟩ => ?_) fun _ _ f => f
      have J5' := J5.pinned (fpY fr5 (fun p hp => by have e : p = _ := (List.mem_singleton.mp hp); rw [e])) (T.obj _ _ tn5)
      have hg' : PG Y tg g := hY ▸ hg _ _
      have hc' : PTs Y ifs tc := hY ▸ hc _ _
      have he' : PE Y elt te := hY ▸ he _ _
      have g6 := hg' _ s5 σ' H5 x u _ J5' r5 (step x H5 y5)
      rw [eXe, eA, ePrg, eW, eEnv] at g6
      refine wpAny_mono g6 (fun _ s6 ⟨σ6, H6, J6, q6⟩ => ?_) fun _ _ f => f
      have c7 := hc' _ s6 σ6 H6 _ J6 q6
      rw [eXe, eA, ePrg, eW, eEnv] at c7
      refine wpAny_mono c7 (fun ok s7 ⟨H7, J7, q7⟩ => ?_) fun _ _ f => f
      have fin : ∀ {s8 : Shared} {σ8 : St} {H8 : Hp} {xs' : List V} {its' : List Value} {n' m' : Nat}, Inv Y [] σ8 H8 s8 → tn (i + 1) s8.heap → (∀ b ∈ fp, H8 b = none) → H8 s.heap.objs.size = none → Vals xs' its' →
          s8.heap.get? s.heap.objs.size = some { cls := .type "list", data := .seq its'.toArray n' } → W (i + 1) m' xs' σ8 H8 → m' < n → ∃ m, m < n ∧ Iv m s8 := fun a1 a2 a3 a4 a5 a6 a7 a8 => ⟨_, a8, _, _, _, _, _, _, a1, a2, a3, a4, a5, a6, a7⟩
      have kp : ∀ {s8 : Shared} {σ8 : St} {H8 : Hp}, Inv Y ([(s.heap.objs.size, { cls := .type "list", data := .seq its.toArray nn })] ++ pinsAt fp s5.heap) σ8 H8 s8 →
          tn (i + 1) s8.heap ∧ (∀ b ∈ fp, H8 b = none) ∧ H8 s.heap.objs.size = none ∧ s8.heap.get? s.heap.objs.size = some { cls := .type "list", data := .seq its.toArray nn } := fun {s8 σ8 H8} J8 => by
        have p1 := J8.pin _ (List.mem_append_right _ (List.mem_append_left _ (List.mem_singleton.mpr rfl)))
        refine ⟨T.keep _ _ _ tn5 fun b hb o e => (J8.pin (b, o) (List.mem_append_right _ (List.mem_append_right _ (mem_pinsAt hb e)))).1, fun b hb => ?_, p1.2.1, p1.1⟩
        obtain ⟨o, e, d⟩ := T.obj _ _ tn5 b hb
        exact (J8.pin (b, o) (List.mem_append_right _ (List.mem_append_right _ (mem_pinsAt hb e)))).2.1
      cases ok with
      | false =>
        simp only [Bool.false_eq_true, if_false] at q7 ⊢
        obtain ⟨m', hm, w7⟩ := q7
        obtain ⟨k1, k2, k3, k4⟩ := kp J7
        exact fin (J7.pins_of fun p hp => by simp at hp) k1 k2 k3 rv k4 w7 hm
      | true =>
        simp only [if_true] at q7 ⊢
        have e8 := he' _ s7 σ6 H7 _ J7 q7
        rw [eXe, eA, ePrg, eW, eEnv] at e8
        refine wpAny_mono e8 (fun y s8 ⟨v8, H8, J8, r8, m', hm, w8⟩ => ?_) fun _ _ f => f
        obtain ⟨k1, k2, k3, k4⟩ := kp J8
        have hl8 : s8.heap.PlainList s.heap.objs.size its.toArray := ⟨nn, k4⟩
        refine wpAny_list_append_plain (hsz := by have := rv.length; simp only [List.size_toArray]; omega) hl8 fun h9 hl9 hs9 => ?_
        obtain ⟨n9, e9⟩ := hl9
        have J9 : Inv Y [] σ6 H8 { s8 with heap := h9 } := by
          have J8' : Inv Y [] σ6 H8 s8 := J8.pins_of fun p hp => by simp at hp
          refine J8'.turned (t' := s8.toks) (it := s.heap.objs.size) (fun b o hb e => hs9.extBut b o hb e) k3 ?_ ?_ ?_ ?_
          · rw [eEnv]; exact hne
          · subst hY; exact .inl List.mem_cons_self
          · subst hY; exact fun x a e => oD.2.2.2.1 x a (clOf_lookup e)
          · subst hY
            intro p hp
            exact oD.2.2.2.2 p (by simpa [compCx] using hp)
        refine fin (n' := n9) (its' := its ++ [y]) J9 (T.keep _ _ _ k1 fun b hb o e => hs9.extBut b o (Nat.ne_of_lt (fplt b hb)) e) k2 k3 (rv.append (.cons r8 .nil)) ?_ w8 hm
        show h9.get? _ = _
        rw [e9, List.push_toArray]
  exact codeAny_compStart_list (loop _ rfl) (T.self _ 0 _ _ _ (T.keep _ _ _ st fun b hb o e => hkp b o (hH2 ▸ Heap.get?_push_of_some _ e)) (loop _ rfl))
end
end L2

namespace L2
open PySem PySem.Spec PyProof.Rows
noncomputable def tComp (k : Nat) (keep : List Nat) (wi : TI) (g : TG) (tc : TT) (te : TE) : TE := fun σ H Q => wi σ H fun J H1 =>
  CompW J g tc te (fun xs H' => ∀ p, H' p = none → Q (.ref p) (upd H' p (.lst xs))) (inSt k keep σ) H1
section
variable {X : Cx} {N' : List Str} {k : Nat} {keep : List Nat} {scope : Scope} {elt tg iter : Expr} {ifs : List Expr} {pos : Pos} {wi : TI} {g : TG} {tc : TT} {te : TE}
theorem pe_comp (c : CompOk X N' k keep scope) (calm : X.calm = true) (hi : PI X tg iter wi)
    (hg : ∀ s₃ H ex pins, PG (compCx X N' scope s₃ H ex pins) tg g) (hc : ∀ s₃ H ex pins, PTs (compCx X N' scope s₃ H ex pins) ifs tc) (he : ∀ s₃ H ex pins, PE (compCx X N' scope s₃ H ex pins) elt te)
    (hs : ∀ x, foldedSetIterable iter X.env x = pure x) : PE X (.ListComp elt [⟨tg, iter, ifs, 0⟩] scope pos) (tComp k keep wi g tc te) := by
  intro pins s σ H Q I h
  rw [eval_ListComp]
  refine wpAny_comprehension_free (use := none) rfl hs (closureFor_is (c.clo I.ok)) c.kind c.names ?_
  refine thn (hi pins s σ H _ I h) fun v s1 h1 => thn h1 fun itv s2 h2 => ?_
  obtain ⟨it, fp, tn, J, H2, e, I2, T, st2, f2, hW⟩ := h2
  subst e
  refine comp_block c calm I2 T st2 f2 (fun s₃ ex => hg s₃ H2 ex pins) (fun s₃ ex => hc s₃ H2 ex pins) (fun s₃ ex => he s₃ H2 ex pins) hW (RR := fun acc C => compPost (model X.prog X.w) X.A X.xe none (EP X pins σ Q) acc C) ?_
  intro D C s' H' xs m I' oD oC hDC new hn q
  refine ⟨m, hn, fun h' hs' => ?_⟩
  have I3 : Inv X pins σ (upd H' D (.lst xs)) s' := I'.adopt oD.1 oD.2.1 oD.2.2.1 oD.2.2.2.1 oD.2.2.2.2 new
  have I4 : Inv X pins σ (upd H' D (.lst xs)) { s' with heap := h' } := I3.turned (t' := s'.toks) (it := C) (fun b o hb e => hs'.extBut b o hb e) (by rw [upd_ne hDC.symm]; exact oC.1) oC.2.2.1 (.inr oC.2.1) oC.2.2.2.1 oC.2.2.2.2
  exact ⟨.ref D, _, I4, rfl, q D oD.1⟩
end
end L2

namespace LR
open PySem PySem.Spec PyProof.Rows PySem.F
section
variable {prog : Program} {w : World} {A : Around} {E : Value → Shared → Prop} {s : Shared}
noncomputable def revObj (l : Addr) (i : Int) : Obj := { cls := .type "reversed", data := .fields #[.ref l, rawInt i] }
noncomputable def IsRev (h : Heap) (a l : Addr) (i : Int) : Prop := ∃ o, h.get? a = some o ∧ o.cls = .type "reversed" ∧ o.data = .fields #[.ref l, rawInt i]
theorem IsRev.typeIs {a l : Addr} {i : Int} (x : IsRev s.heap a l i) : s.TypeIs (.ref a) "reversed" := let ⟨o, ho, hc, _⟩ := x; ⟨o, ho, hc⟩
theorem IsRev.at {h h' : Heap} {a l : Addr} {i : Int} (x : IsRev h a l i) (e : ∀ o, h.get? a = some o → h'.get? a = some o) : IsRev h' a l i := let ⟨o, ho, r⟩ := x; ⟨o, e _ ho, r⟩
theorem tupTy {l : Addr} {items : Array Value} (hl : IsTup s.heap l items) : s.TypeIs (.ref l) "tuple" := let ⟨o, ho, hc, _⟩ := hl; ⟨o, ho, hc⟩
end
end LR
namespace L2
open PySem PySem.Spec PyProof.Rows
theorem boot_lst : bootBuiltins "list" = some (.type "list") := by rfl
theorem boot_rev : bootBuiltins "reversed" = some (.type "reversed") := by rfl
end L2
namespace HT
open PySem PySem.Spec PyProof.Rows
section
variable {prog : Program} {w : World} {A : Around} {E : Value → Shared → Prop} {s : Shared}
end
end HT
namespace L2
open PySem PySem.Spec PyProof.Rows
variable {X : Cx}
end L2

namespace L2
open PySem PySem.Spec PyProof.Rows

section
variable {κ : Type} [DecidableEq κ]
noncomputable def valV (kvs : List (κ × V)) (k : κ) : Option V := (kvs.find? fun kv => decide (kv.1 = k)).map (·.2)
noncomputable def putK (kvs : List (κ × V)) (k : κ) (v : V) : List (κ × V) :=
  if (kvs.any fun kv => decide (kv.1 = k)) = true then kvs.map (fun kv => if kv.1 = k then (kv.1, v) else kv) else kvs ++ [(k, v)]
noncomputable def dropK (kvs : List (κ × V)) (k : κ) : List (κ × V) := kvs.filter fun kv => decide (kv.1 ≠ k)

theorem valV_pos {p : κ × V} {r : List (κ × V)} {k : κ} (e : p.1 = k) : valV (p :: r) k = some p.2 := by simp [valV, List.find?_cons, e]
theorem valV_neg {p : κ × V} {r : List (κ × V)} {k : κ} (e : ¬ p.1 = k) : valV (p :: r) k = valV r k := by simp [valV, List.find?_cons, e]
theorem valV_any (k : κ) : ∀ kvs : List (κ × V), (kvs.any fun kv => decide (kv.1 = k)) = (valV kvs k).isSome
  | [] => rfl
  | p :: r => by
    rw [List.any_cons]
    by_cases e : p.1 = k
    · simp only [valV_pos e, decide_eq_true e, Bool.true_or, Option.isSome_some]
    · rw [valV_neg e, decide_eq_false e, Bool.false_or]; exact valV_any k r
theorem length_putK (kvs : List (κ × V)) (k : κ) (v : V) : (putK kvs k v).length ≤ kvs.length + 1 := by
  unfold putK
  split
  · rw [List.length_map]; omega
  · rw [List.length_append, List.length_cons, List.length_nil]; omega
theorem RelO.isSome_eq {o : Option V} {u : Option Value} (r : RelO o u) : o.isSome = u.isSome := by
  cases o with
  | none => cases u with
    | none => rfl
    | some _ => exact (show False from r).elim
  | some _ => cases u with
    | none => exact (show False from r).elim
    | some _ => rfl
theorem RelO.getD {o : Option V} {u : Option Value} {d : V} {d' : Value} (r : RelO o u) (rd : RelV d d') : RelV (o.getD d) (u.getD d') := by
  cases o with
  | none => cases u with
    | none => exact rd
    | some _ => exact (show False from r).elim
  | some _ => cases u with
    | none => exact (show False from r).elim
    | some _ => exact r

theorem KV.val {kvs : List (κ × V)} {vs : List (κ × Value)} (r : KV kvs vs) (k : κ) : RelO (valV kvs k) (valueAt vs k) := by
  unfold KV at r
  induction r with
  | nil => exact True.intro
  | @cons p q ps qs h t ih =>
    obtain ⟨h1, h2⟩ := h
    by_cases e : p.1 = k
    · have e' : q.1 = k := h1.symm.trans e
      have b : valueAt (q :: qs) k = some q.2 := by simp [valueAt, List.find?_cons, e']
      rw [valV_pos e, b]; exact h2
    · have e' : ¬ q.1 = k := fun z => e (h1.trans z)
      have b : valueAt (q :: qs) k = valueAt qs k := by simp [valueAt, List.find?_cons, e']
      rw [valV_neg e, b]; exact ih
theorem KV.any {kvs : List (κ × V)} {vs : List (κ × Value)} (r : KV kvs vs) (k : κ) : (kvs.any fun kv => decide (kv.1 = k)) = vs.any fun kv => decide (kv.1 = k) := by
  unfold KV at r
  induction r with
  | nil => rfl
  | cons h t ih => rw [List.any_cons, List.any_cons, ih, h.1]
theorem KV.repl {kvs : List (κ × V)} {vs : List (κ × Value)} (r : KV kvs vs) (k : κ) {y : V} {u : Value} (ry : RelV y u) :
    KV (kvs.map fun kv => if kv.1 = k then (kv.1, y) else kv) (vs.map fun kv => if kv.1 = k then (kv.1, u) else kv) := by
  unfold KV at r ⊢
  induction r with
  | nil => exact .nil
  | @cons p q ps qs h t ih =>
    rw [List.map_cons, List.map_cons]
    refine .cons ?_ ih
    obtain ⟨h1, h2⟩ := h
    by_cases e : p.1 = k
    · rw [if_pos e, if_pos (h1.symm.trans e)]; exact ⟨h1, ry⟩
    · rw [if_neg e, if_neg (fun z => e (h1.trans z))]; exact ⟨h1, h2⟩
theorem KV.put {kvs : List (κ × V)} {vs : List (κ × Value)} (r : KV kvs vs) (k : κ) {y : V} {u : Value} (ry : RelV y u) : KV (putK kvs k y) (stored vs k u) := by
  unfold putK stored
  rw [r.any k]
  by_cases e : (vs.any fun kv => decide (kv.1 = k)) = true
  · rw [if_pos e, if_pos e]; exact r.repl k ry
  · rw [if_neg e, if_neg e]; exact Paired.snoc r ⟨rfl, ry⟩
theorem KV.drop {kvs : List (κ × V)} {vs : List (κ × Value)} (r : KV kvs vs) (k : κ) : KV (dropK kvs k) (without vs k) := by
  unfold KV at r ⊢
  unfold dropK without
  induction r with
  | nil => exact .nil
  | @cons p q ps qs h t ih =>
    obtain ⟨h1, h2⟩ := h
    rw [List.filter_cons, List.filter_cons]
    by_cases e : p.1 = k
    · have a : ¬ decide (p.1 ≠ k) = true := by simp [e]
      have b : ¬ decide (q.1 ≠ k) = true := by simp [h1.symm.trans e]
      rw [if_neg a, if_neg b]; exact ih
    · have e' : ¬ q.1 = k := fun z => e (h1.trans z)
      have a : decide (p.1 ≠ k) = true := by simp [e]
      have b : decide (q.1 ≠ k) = true := by simp [e']
      rw [if_pos a, if_pos b]; exact .cons ⟨h1, h2⟩ ih
theorem KV.keys {kvs : List (κ × V)} {vs : List (κ × Value)} (r : KV kvs vs) : kvs.map (·.1) = vs.map (·.1) := by
  unfold KV at r
  induction r with
  | nil => rfl
  | cons h t ih => rw [List.map_cons, List.map_cons, ih, h.1]
theorem KV.length {kvs : List (κ × V)} {vs : List (κ × Value)} (r : KV kvs vs) : kvs.length = vs.length := Paired.length r
end


theorem kV_is {P : Program} {w : World} {k : Key} {u : Value} (r : RelV (kV k) u) : (mixKind P w).is k u = true := by
  cases k with
  | inl i => obtain ⟨t, e⟩ := (show ∃ t, u = Value.int i t from r); subst e; exact mixKind_int P w i t
  | inr x => obtain ⟨t, e⟩ := (show ∃ t, u = Value.str x t from r); subst e; exact mixKind_str P w x t
theorem items_are {P : Program} {w : World} : ∀ {ks : List Key} {us : List Value}, Vals (ks.map kV) us → ItemsAre (mixKind P w) ks us
  | [], _, r => by rw [List.map_nil] at r; cases r; exact .nil
  | k :: ks, _, r => by
    rw [List.map_cons] at r
    cases r with
    | cons h t => exact .cons (kV_is h) (items_are t)

noncomputable abbrev KT (H : Hp) : List (List Key × V) → List (List Key × Addr × Value) → Prop := Paired fun p q => p.1 = q.1 ∧ H q.2.1 = some (.tup (p.1.map kV)) ∧ RelV p.2 q.2.2
theorem KT.val {H : Hp} {kvs : List (List Key × V)} {xs : List (List Key × Addr × Value)} (r : KT H kvs xs) (k : List Key) : RelO (valV kvs k) ((atKey xs k).map (·.2)) := by
  induction r with
  | nil => exact True.intro
  | @cons p q ps qs h t ih =>
    obtain ⟨h1, _, h2⟩ := h
    by_cases e : p.1 = k
    · have e' : q.1 = k := h1.symm.trans e
      have b : atKey (q :: qs) k = some q.2 := by simp [atKey, List.find?_cons, e']
      rw [valV_pos e, b]; exact h2
    · have e' : ¬ q.1 = k := fun z => e (h1.trans z)
      have b : atKey (q :: qs) k = atKey qs k := by simp [atKey, List.find?_cons, e']
      rw [valV_neg e, b]; exact ih
theorem KT.repl {H : Hp} {kvs : List (List Key × V)} {xs : List (List Key × Addr × Value)} (r : KT H kvs xs) (k : List Key) {y : V} {u : Value} (ry : RelV y u) :
    KT H (kvs.map fun kv => if kv.1 = k then (kv.1, y) else kv) (xs.map (putAt k u)) := by
  induction r with
  | nil => exact .nil
  | @cons p q ps qs h t ih =>
    rw [List.map_cons, List.map_cons]
    refine .cons ?_ ih
    obtain ⟨h1, h2, h3⟩ := h
    unfold putAt
    by_cases e : p.1 = k
    · rw [if_pos e, if_pos (h1.symm.trans e)]; exact ⟨h1, h2, ry⟩
    · rw [if_neg e, if_neg (fun z => e (h1.trans z))]; exact ⟨h1, h2, h3⟩
theorem KT.put {H : Hp} {kvs : List (List Key × V)} {xs : List (List Key × Addr × Value)} (r : KT H kvs xs) (k : List Key) {b : Addr} {y : V} {u : Value} (hb : H b = some (.tup (k.map kV))) (ry : RelV y u) :
    KT H (putK kvs k y) (storedH xs k b u) := by
  have e : (kvs.any fun kv => decide (kv.1 = k)) = (atKey xs k).isSome := by
    rw [valV_any, (r.val k).isSome_eq, Option.isSome_map]
  unfold putK storedH
  rw [e]
  by_cases q : (atKey xs k).isSome = true
  · rw [if_pos q, if_pos q]; exact r.repl k ry
  · rw [if_neg q, if_neg q]; exact Paired.snoc r ⟨rfl, hb, ry⟩
theorem KT.keeps {H H' : Hp} {kvs : List (List Key × V)} {xs : List (List Key × Addr × Value)} (r : KT H kvs xs) (ht : ∀ b ys, H b = some (.tup ys) → H' b = some (.tup ys)) : KT H' kvs xs :=
  Paired.mapP r fun _ _ z => ⟨z.1, ht _ _ z.2.1, z.2.2⟩

section
variable {P : Program} {w : World} {H : Hp} {h : Heap} {a : Addr}
theorem rd_of {u : HO} (ok : HOk P w H h) (e : Rd H a u) : ObjOk P w H h a u := e.ok ok
theorem dk_rd {kvs : List (Key × V)} (ok : HOk P w H h) (e : Rd H a (.dK kvs)) : kvs.length ≤ sizeLine ∧ (a == sysModules) = false ∧ ∃ vs, KV kvs vs ∧ h.DictOf (mixKind P w) a vs :=
  show ObjOk P w H h a (.dK kvs) from rd_of ok e
theorem dk_of {kvs : List (Key × V)} (ok : HOk P w H h) (e : H a = some (.dK kvs)) : kvs.length ≤ sizeLine ∧ (a == sysModules) = false ∧ ∃ vs, KV kvs vs ∧ h.DictOf (mixKind P w) a vs := dk_rd ok (.inl e)
theorem key_of {ks : List Key} (ok : HOk P w H h) (e : H a = some (.tup (ks.map kV))) : (tupleKind (mixKind P w)).is h ks a := by
  obtain ⟨_, its, r, o, h1, h2, n, h3⟩ := (show ObjOk P w H h a (.tup (ks.map kV)) from ok a _ e)
  exact ⟨o, its.toArray, n, h1, h2, h3, by simpa using items_are r⟩
theorem dt_rd {kvs : List (List Key × V)} (ok : HOk P w H h) (e : Rd H a (.dT kvs)) : kvs.length ≤ sizeLine ∧ (a == sysModules) = false ∧
    ∃ xs, KT H kvs xs ∧ h.DictOfH (tupleKind (mixKind P w)) a xs := by
  obtain ⟨z, y, xs, r, o, es, ep, h1, h2, h3, h4, h5⟩ := (show ObjOk P w H h a (.dT kvs) from rd_of ok e)
  refine ⟨z, y, xs, r, o, es, ep, h1, h2, h3, h4, fun x hx => ?_, h5⟩
  have all : ∀ {l : List (List Key × V)} {m : List (List Key × Addr × Value)}, KT H l m → ∀ x ∈ m, (tupleKind (mixKind P w)).is h x.1 x.2.1 := by
    intro l m q
    induction q with
    | nil => intro x hx; exact nomatch hx
    | @cons p q ps qs hq t ih =>
      intro x hx
      rcases List.mem_cons.mp hx with e | hx
      · subst e
        exact key_of ok (by rw [← hq.1]; exact hq.2.1)
      · exact ih x hx
  exact all r x hx
theorem dt_of {kvs : List (List Key × V)} (ok : HOk P w H h) (e : H a = some (.dT kvs)) : kvs.length ≤ sizeLine ∧ (a == sysModules) = false ∧
    ∃ xs, KT H kvs xs ∧ h.DictOfH (tupleKind (mixKind P w)) a xs := dt_rd ok (.inl e)
end

noncomputable def DGet (H : Hp) (a : Addr) (y : V) (r : Option V) : Prop :=
  (∃ kvs k, Rd H a (.dK kvs) ∧ y = kV k ∧ r = valV kvs k) ∨ ∃ kvs k b, Rd H a (.dT kvs) ∧ y = .ref b ∧ H b = some (.tup (k.map kV)) ∧ r = valV kvs k
noncomputable def DPut (H : Hp) (a : Addr) (y v : V) (H' : Hp) : Prop :=
  (∃ kvs k, H a = some (.dK kvs) ∧ y = kV k ∧ kvs.length < sizeLine ∧ H' = upd H a (.dK (putK kvs k v))) ∨
  ∃ kvs k b, H a = some (.dT kvs) ∧ y = .ref b ∧ H b = some (.tup (k.map kV)) ∧ kvs.length < sizeLine ∧ H' = upd H a (.dT (putK kvs k v))
theorem DGet.k {H : Hp} {a : Addr} {kvs : List (Key × V)} {k : Key} (e : H a = some (.dK kvs)) : DGet H a (kV k) (valV kvs k) := .inl ⟨kvs, k, .inl e, rfl, rfl⟩
theorem DGet.t {H : Hp} {a b : Addr} {kvs : List (List Key × V)} {k : List Key} (e : H a = some (.dT kvs)) (eb : H b = some (.tup (k.map kV))) : DGet H a (.ref b) (valV kvs k) := .inr ⟨kvs, k, b, .inl e, rfl, eb, rfl⟩
theorem DPut.k {H : Hp} {a : Addr} {kvs : List (Key × V)} {k : Key} {v : V} (e : H a = some (.dK kvs)) (hl : kvs.length < sizeLine) : DPut H a (kV k) v (upd H a (.dK (putK kvs k v))) := .inl ⟨kvs, k, e, rfl, hl, rfl⟩
theorem DPut.t {H : Hp} {a b : Addr} {kvs : List (List Key × V)} {k : List Key} {v : V} (e : H a = some (.dT kvs)) (eb : H b = some (.tup (k.map kV))) (hl : kvs.length < sizeLine) :
    DPut H a (.ref b) v (upd H a (.dT (putK kvs k v))) := .inr ⟨kvs, k, b, e, rfl, eb, hl, rfl⟩


section
variable {X : Cx} {pins : List (Addr × Obj)} {σ : St} {H : Hp} {s : Shared} {a : Addr} {y v : V} {u r : Value} {o : Option V} {A : Around} {E : Value → Shared → Prop}

theorem Inv.big (I : Inv X pins σ H s) : sysModules < s.heap.objs.size := by
  have h : mainGlobals < s.heap.objs.size := (I.mod.glob.keeps I.bk).lt
  exact Nat.lt_trans (by decide) h

theorem d_getItem {Q : Value → Shared → Prop} (hu : A.units + 1 < cLine) (I : Inv X pins σ H s) (g : DGet H a y (some v)) (ry : RelV y u) (h : ∀ w' s', Inv X pins σ H s' → RelV v w' → Q w' s') :
    wpAny (model X.prog X.w) A (getItem (.ref a) u) Q E s := by
  rcases g with ⟨kvs, k, e, ey, l⟩ | ⟨kvs, k, b, e, ey, eb, l⟩
  · subst ey
    obtain ⟨z, hd, vs, rel, dd⟩ := dk_rd I.hok e
    obtain ⟨w', hw, rw'⟩ := RelO.some_of (v := v) (o := valueAt vs k) (by rw [l]; exact rel.val k)
    exact wpAny_getItem_of (kV_is ry) dd.mapOf hw (h w' _ (I.tok _) rw')
  · subst ey
    cases (show u = Value.ref b from ry)
    obtain ⟨z, hd, xs, rel, dd⟩ := dt_rd I.hok e
    obtain ⟨w', hw, rw'⟩ := RelO.some_of (v := v) (o := (atKey xs k).map (·.2)) (by rw [l]; exact rel.val k)
    obtain ⟨p, hp, hp2⟩ := Option.map_eq_some_iff.mp hw
    refine wpAny_getItem_heap (tupleKind_room_in1 hu) (key_of I.hok eb) dd hp ?_
    rw [hp2]
    exact h w' _ (I.tok _) rw'
theorem d_in {Q : Value → Shared → Prop} (hu : A.units + 1 < cLine) (I : Inv X pins σ H s) (g : DGet H a y o) (ry : RelV y u) (h : ∀ s', Inv X pins σ H s' → Q (.bool o.isSome) s') :
    wpAny (model X.prog X.w) A (compareOp .In u (.ref a)) Q E s := by
  rcases g with ⟨kvs, k, e, ey, l⟩ | ⟨kvs, k, b, e, ey, eb, l⟩
  · subst ey
    obtain ⟨z, hd, vs, rel, dd⟩ := dk_rd I.hok e
    refine wpAny_in_of (kV_is ry) hd dd.mapOf ?_
    rw [← (rel.val k).isSome_eq, ← l]
    exact h _ (I.tok _)
  · subst ey
    cases (show u = Value.ref b from ry)
    obtain ⟨z, hd, xs, rel, dd⟩ := dt_rd I.hok e
    refine wpAny_in_heap (tupleKind_room_in1 hu) (key_of I.hok eb) hd dd ?_
    have q := (rel.val k).isSome_eq
    rw [Option.isSome_map] at q
    rw [← q, ← l]
    exact h _ (I.tok _)
theorem d_write {h' : Heap} {t' : Nat} {ob : HO} (I : Inv X pins σ H s) (mu : Mut (H a)) (hs : Heap.SameBut a s.heap h') (he : ∃ q, h'.get? a = some q) (new : ObjOk X.prog X.w (upd H a ob) h' a ob) :
    Inv X pins σ (upd H a ob) { s with heap := h', toks := t' } :=
  I.write (x := a) (e := a) mu (.inl rfl) (fun b q hb z => (hs.2 b hb).trans z) he new
theorem dk_new {P : Program} {w : World} {H' : Hp} {h' : Heap} {kvs : List (Key × V)} {vs : List (Key × Value)} (z : kvs.length ≤ sizeLine) (hd : (a == sysModules) = false) (rel : KV kvs vs) (dd : h'.DictOf (mixKind P w) a vs) :
    ObjOk P w H' h' a (.dK kvs) := ⟨z, hd, vs, rel, dd⟩
theorem d_setItem {H' : Hp} {Q : Unit → Shared → Prop} (hu : A.units + 1 < cLine) (I : Inv X pins σ H s) (g : DPut H a y v H') (ry : RelV y u) (rv : RelV v r) (h : ∀ s', Inv X pins σ H' s' → Q () s') :
    wpAny (model X.prog X.w) A (setItem (.ref a) u r) Q E s := by
  rcases g with ⟨kvs, k, e, ey, l, eH⟩ | ⟨kvs, k, b, e, ey, eb, l, eH⟩
  · subst ey eH
    obtain ⟨z, hd, vs, rel, dd⟩ := dk_of I.hok e
    have hz : vs.length ≤ sizeLine := by rw [← rel.length]; exact z
    have hl : (putK kvs k v).length ≤ sizeLine := by have := length_putK kvs k v; omega
    refine wpAny_setItem_pairs (hsz := hz) (kV_is ry) dd fun h' dd' hs => h _ ?_
    have he : ∃ q, h'.get? a = some q := let ⟨q, _, _, hq, _⟩ := dd'; ⟨q, hq⟩
    exact d_write I (by rw [e]; exact True.intro) hs he (dk_new hl hd (rel.put k rv) dd')
  · subst ey eH
    cases (show u = Value.ref b from ry)
    obtain ⟨z, hd, xs, rel, dd⟩ := dt_of I.hok e
    have hz : xs.length ≤ sizeLine := by rw [← Paired.length rel]; exact z
    have hl : (putK kvs k v).length ≤ sizeLine := by have := length_putK kvs k v; omega
    refine wpAny_setItem_heap (hsz := hz) (tupleKind_room_in1 hu) (key_of I.hok eb) dd fun h' dd' hs => h _ ?_
    obtain ⟨q, es, ep, hq, h2, h3, h4, _, h5⟩ := dd'
    refine d_write I (by rw [e]; exact True.intro) hs ⟨q, hq⟩ ⟨hl, hd, _, (rel.put k eb rv).keeps fun c ys ec => ?_, q, es, ep, hq, h2, h3, h4, h5⟩
    rw [upd_ne (ne_of ec e (fun z => nomatch z))]
    exact ec
end

section
variable {X : Cx} {pins : List (Addr × Obj)} {σ : St} {H : Hp} {s : Shared} {a : Addr} {kvs : List (Key × V)} {k : Key} {u : Value} {A : Around} {E : Value → Shared → Prop}
end


theorem dict_typeIs {X : Cx} {pins : List (Addr × Obj)} {σ : St} {H : Hp} {s : Shared} {a : Addr} {y : V} {o : Option V} (I : Inv X pins σ H s) (g : DGet H a y o) : s.TypeIs (.ref a) "dict" := by
  rcases g with ⟨kvs, k, e, _, _⟩ | ⟨kvs, k, b, e, _, _, _⟩
  · obtain ⟨_, _, vs, _, dd⟩ := dk_rd I.hok e
    exact dd.typeIs
  · obtain ⟨_, _, xs, _, dd⟩ := dt_rd I.hok e
    exact dd.typeIs
section
variable {X : Cx} {o i e value : Expr} {pos pos' tpos : Pos} {td ty tv : TE}
end


theorem dk_empty {P : Program} {w : World} {H : Hp} (h : Heap) (hb : sysModules < h.objs.size) : ObjOk P w H (h.push { cls := .type "dict", data := .dict #[] }) h.objs.size (.dK []) :=
  ⟨Nat.zero_le _, beq_eq_false_iff_ne.mpr (Ne.symm (Nat.ne_of_lt hb)), [], .nil, Heap.DictOf.new h⟩
noncomputable def tDNewK : TE := fun _ H Q => ∀ p, H p = none → Q (.ref p) (upd H p (.dK []))
section
variable {X : Cx} {pos : Pos}
theorem pe_dnewK : PE X (.Dict [] [] pos) tDNewK := fun pins s σ H Q I h =>
  wpAny_Dict_empty ⟨.ref s.heap.objs.size, _, I.laid (a := s.heap.objs.size) (o := .dK []) (t' := s.toks) (fun _ _ q => Heap.get?_push_of_some _ q) (Nat.le_refl _) (dk_empty s.heap I.big), rfl, h _ (I.hok.fresh (Nat.le_refl _))⟩
end

noncomputable def tPairs : List (TE × TE) → St → Hp → (List (V × V) → Hp → Prop) → Prop
  | [], _, H, Q => Q [] H
  | (tk, tv) :: r, σ, H, Q => tk σ H fun x H1 => tv σ H1 fun y H2 => tPairs r σ H2 fun ps H3 => Q ((x, y) :: ps) H3
noncomputable abbrev VV : List (V × V) → List (Value × Value) → Prop := Paired fun p q => RelV p.1 q.1 ∧ RelV p.2 q.2
noncomputable def PPs (X : Cx) (pos : Pos) (keys : List (Option Expr)) (values : List Expr) (trs : List (TE × TE)) : Prop :=
  ∀ (pins : List (Addr × Obj)) (s : Shared) (σ : St) (H : Hp) (Q : List (V × V) → Hp → Prop), Inv X pins σ H s → tPairs trs σ H Q →
    wpAny (model X.prog X.w) X.A (evalPairs (pairTrees keys values X.env pos)) (fun vs s' => ∃ ps H', Inv X pins σ H' s' ∧ VV ps vs ∧ Q ps H') X.xe s
theorem pps_nil {X : Cx} {pos : Pos} : PPs X pos [] [] [] := fun pins s σ H Q I h => pairTrees_nil_walk ⟨[], H, I, .nil, h⟩
theorem pps_cons {X : Cx} {pos : Pos} {k v : Expr} {ks : List (Option Expr)} {vs : List Expr} {tk tv : TE} {trs : List (TE × TE)} (hk : PE X k tk) (hv : PE X v tv) (hr : PPs X pos ks vs trs) :
    PPs X pos (some k :: ks) (v :: vs) ((tk, tv) :: trs) := fun pins s σ H Q I h =>
  pairTrees_cons_walk (thn (hk pins s σ H _ I h) fun u s1 ⟨x, H1, I1, rx, q1⟩ => thn (hv pins s1 σ H1 _ I1 q1) fun w2 s2 ⟨y, H2, I2, ry, q2⟩ =>
    thn (hr pins s2 σ H2 _ I2 q2) fun ws s3 ⟨ps, H3, I3, rel, q3⟩ => ⟨(x, y) :: ps, H3, I3, .cons ⟨rx, ry⟩ rel, q3⟩)

noncomputable def mergeK (kvs more : List (Key × V)) : List (Key × V) := more.foldl (fun acc kv => putK acc kv.1 kv.2) kvs
theorem KV.merge : ∀ {more : List (Key × V)} {rs : List (Key × Value)} {kvs : List (Key × V)} {vs : List (Key × Value)}, KV more rs → KV kvs vs → KV (mergeK kvs more) (merged vs rs) := by
  intro more rs kvs vs r
  unfold KV at r
  induction r generalizing kvs vs with
  | nil => intro q; exact q
  | @cons p q ps qs h t ih =>
    intro r0
    have e : KV (putK kvs p.1 p.2) (stored vs q.1 q.2) := by
      have := r0.put p.1 h.2
      rw [← h.1]; exact this
    exact ih e
theorem length_mergeK : ∀ (more kvs : List (Key × V)), (mergeK kvs more).length ≤ kvs.length + more.length
  | [], kvs => by show kvs.length ≤ kvs.length + 0; omega
  | p :: r, kvs => by
    have h1 := length_mergeK r (putK kvs p.1 p.2)
    have h2 := length_putK kvs p.1 p.2
    show (mergeK (putK kvs p.1 p.2) r).length ≤ _
    rw [List.length_cons]; omega
theorem carries_of {P : Program} {w : World} : ∀ {kvs : List (Key × V)} {ws : List (Value × Value)}, VV (kvs.map fun kv => (kV kv.1, kv.2)) ws → ∃ rs, Carries (mixKind P w) ws rs ∧ KV kvs rs
  | [], _, r => by rw [List.map_nil] at r; cases r; exact ⟨[], True.intro, .nil⟩
  | p :: kvs, _, r => by
    rw [List.map_cons] at r
    cases r with
    | @cons a b as bs h t =>
      obtain ⟨rs, c, q⟩ := carries_of (P := P) (w := w) t
      obtain ⟨b1, b2⟩ := b
      exact ⟨(p.1, b2) :: rs, ⟨kV_is h.1, rfl, c⟩, .cons ⟨rfl, h.2⟩ q⟩
noncomputable def tDisp (trs : List (TE × TE)) : TE := fun σ H Q => ∀ p, H p = none → tPairs trs σ (upd H p (.dK [])) fun ps H2 => H2 p = some (.dK []) ∧ ∃ kvs : List (Key × V), ps = kvs.map (fun kv => (kV kv.1, kv.2)) ∧ kvs.length ≤ 15 ∧ Q (.ref p) (upd H2 p (.dK (mergeK [] kvs)))
theorem pe_disp {X : Cx} {pos : Pos} {keys : List (Option Expr)} {values : List Expr} {trs : List (TE × TE)} (h : PPs X pos keys values trs) (hall : keys.all (·.isSome) = true) (hl : keys.length = values.length) (h0 : keys ≠ [])
    (h15 : keys.length ≤ 15) : PE X (.Dict keys values pos) (tDisp trs) := by
  intro pins s σ H Q I q
  have hn := I.hok.fresh (Nat.le_refl s.heap.objs.size)
  have I1 := I.laid (a := s.heap.objs.size) (o := .dK []) (h' := s.heap.push { cls := .type "dict", data := .dict #[] }) (t' := s.toks) (fun _ _ q => Heap.get?_push_of_some _ q) (Nat.le_refl _) (dk_empty s.heap I.big)
  refine wpAny_Dict_walk (knd := mixKind X.prog X.w) hall hl h0 h15 (thn (h pins _ σ _ _ I1 (q _ hn)) fun ws s2 ⟨ps, H2, I2, rel, e, kvs, ep, lk, q2⟩ => ?_)
  subst ep
  obtain ⟨rs, c, rk⟩ := carries_of (P := X.prog) (w := X.w) rel
  obtain ⟨z, hd, vs0, r0, dd⟩ := dk_of I2.hok e
  cases r0
  refine ⟨rs, c, dd, fun h' dd' hs => ⟨.ref s.heap.objs.size, _, ?_, rfl, q2⟩⟩
  have hz : (mergeK [] kvs).length ≤ sizeLine := by
    have h1 := length_mergeK kvs []
    rw [List.length_nil] at h1
    rw [sizeLine_eq]; omega
  have he : ∃ q, h'.get? s.heap.objs.size = some q := let ⟨q, _, _, hq, _⟩ := dd'; ⟨q, hq⟩
  exact d_write I2 (by rw [e]; exact True.intro) hs he (dk_new hz hd (rk.merge .nil) dd')


structure M1 (X : Cx) (o : Expr) (m : Str) (apos : Pos) (e : Expr) (cpos : Pos) : Prop where
  base : attributeBase o m X.env (eval o X.env) = eval o X.env
  few : ((backTo cpos (starEach [e] X.env)).all (fun x => !x.1) && (backToKw cpos (keywordEach [] X.env)).all (fun x => x.1.isSome)
    && decide (([e] : List Expr).length + ([] : List Keyword).length + (if ([] : List Keyword).isEmpty then 0 else 1) < 30)) = true
  line : (apos.endLine == cpos.line) = true
  trees : backTo cpos (starEach [e] X.env) = [(false, eval e X.env)]
structure M2 (X : Cx) (o : Expr) (m : Str) (apos : Pos) (e f : Expr) (cpos : Pos) : Prop where
  base : attributeBase o m X.env (eval o X.env) = eval o X.env
  few : ((backTo cpos (starEach [e, f] X.env)).all (fun x => !x.1) && (backToKw cpos (keywordEach [] X.env)).all (fun x => x.1.isSome)
    && decide (([e, f] : List Expr).length + ([] : List Keyword).length + (if ([] : List Keyword).isEmpty then 0 else 1) < 30)) = true
  line : (apos.endLine == cpos.line) = true
  trees : backTo cpos (starEach [e, f] X.env) = [(false, eval e X.env), (false, eval f X.env)]

section
variable {X : Cx} {pins : List (Addr × Obj)} {σ : St} {H : Hp} {s : Shared} {a : Addr} {y d : V} {u r : Value} {o : Option V} {A : Around} {E : Value → Shared → Prop}
end

section
variable {X : Cx} {o e f : Expr} {apos cpos : Pos} {td ty tx : TE}
end

section
variable {X : Cx} {pins : List (Addr × Obj)} {σ : St} {H : Hp} {s : Shared} {a : Addr} {kvs : List (Key × V)} {A : Around} {E : Value → Shared → Prop}
end


section
variable {X : Cx} {pins : List (Addr × Obj)} {σ : St} {H : Hp} {s : Shared} {a : Addr} {y : V} {u : Value} {A : Around} {E : Value → Shared → Prop}
end
end L2

namespace L2
open PySem PySem.Spec PyProof.Rows
theorem Inv.turnedL {X : Cx} {pins : List (Addr × Obj)} {σ : List (Option V)} {H : Hp} {s : Shared} {h' : Heap} {t' : Nat} {fp : List Addr} (I : Inv X pins σ H s) (k : ∀ b o, b ∉ fp → s.heap.get? b = some o → h'.get? b = some o) (hf : ∀ b ∈ fp, FpOk X pins H b) : Inv X pins σ H { s with heap := h', toks := t' } := by
  have nit : ∀ b u, H b = some u → b ∉ fp := fun b u e z => by rw [(hf b z).1] at e; cases e
  refine I.step (g' := s.gens) (d' := s.drawn) (ch := fp) (fun b hb => ?_) (fun b o _ _ hc e _ => k b o hc e) (fun b o _ _ hc e _ => ⟨o.slots, k b o hc e⟩) (fun _ _ _ _ n => n)
    (fun b o hc e => ⟨o, k b o hc e⟩) (fun _ _ e => e) (fun _ _ _ e => e) (fun b ps e => ⟨#[], by rw [e]; simp⟩) (fun m hm => ?_) (fun b u e => ?_) I.bare
  · obtain ⟨f0, f1, f2, f3, f4, f5⟩ := hf b hb
    exact ⟨f3, f1, f4, f5⟩
  · obtain ⟨o, es, ep, ho, r⟩ := hm
    exact ⟨o, es, ep, k _ o (fun z => (hf _ z).2.1 rfl) ho, r⟩
  · refine (I.hok b u e).stay (fun c v hc q => k c v ?_ q) (fun _ q => q) fun _ _ q => q
    rcases hc with z | z
    · rw [z]; exact nit b u e
    · exact nit c _ z
noncomputable def Ite (K : PySem.W.Frag) (l : Addr) : It :=
  ⟨fun i H => ∃ xs x, SqL K H l xs ∧ xs[i]? = some x,
   fun i H v H' => ∃ p x, H p = none ∧ v = .ref p ∧ H' = upd H p (.tup [.int i, x]) ∧ ∀ xs, SqL K H l xs → xs[i]? = some x,
   fun i H => ∃ xs, SqL K H l xs ∧ xs.length ≤ i⟩
noncomputable def enumAt (e it l : Addr) (i : Nat) (h : Heap) : Prop := (∃ old, IsEnum h e it i old) ∧ h.IsListIter it l i
theorem turn_enum {P : Program} {w : World} {K : PySem.W.Frag} {elts : List Expr} {x1 : Nat} {tp : Pos} (e it l : Addr) (hei : e ≠ it) :
    Turn P w K (.Tuple elts x1 tp) (Ite K l) [e, it] e (enumAt e it l) where
  mem := by simp
  obj := fun i h st b hb => by
    obtain ⟨⟨old, he⟩, ⟨o1, e1, c1, d1⟩⟩ := st
    simp only [List.mem_cons, List.not_mem_nil, or_false] at hb
    rcases hb with rfl | rfl
    · exact ⟨_, he, fun v q => by cases q⟩
    · exact ⟨o1, e1, fun v q => by rw [d1] at q; cases q⟩
  keep := fun i h h' st k => by
    obtain ⟨⟨old, he⟩, h1⟩ := st
    exact ⟨⟨old, k e (by simp) _ he⟩, h1.at fun o q => k it (by simp) o q⟩
  item := by
    intro X hP hw hK hc i pins s σ H E I hf st hg
    subst hP hw hK
    obtain ⟨xs, x, hq, hx⟩ := hg
    have ho : ∀ b ∈ [e, it], ∃ o, s.heap.get? b = some o := fun b hb => by
      obtain ⟨⟨old, he⟩, ⟨o1, e1, _⟩⟩ := st
      simp only [List.mem_cons, List.not_mem_nil, or_false] at hb
      rcases hb with rfl | rfl
      · exact ⟨_, he⟩
      · exact ⟨_, e1⟩
    obtain ⟨⟨old, he⟩, hi⟩ := st
    obtain ⟨its, rv, p, _⟩ := I.list hq
    obtain ⟨u, hu, ru⟩ := rv.get hx
    refine wpAny_pyNext_enum_item he hi p.isList (x := u) (by simpa using hu) hei fun h' z1 j1 pr sz kk => ?_
    refine ⟨_, rfl, wpAny_letOwnedTupleGo_enum (s := { s with heap := h', toks := s.toks + 1 }) z1 fun h2 z2 sb => ?_⟩
    have hf0 : H s.heap.objs.size = none := I.hok.fresh (Nat.le_refl _)
    have I0 : Inv X pins σ (upd H s.heap.objs.size (.tup [.int i, x])) { s with heap := s.heap.push { cls := .type "tuple", data := .seq #[.int i s.toks, u] }, toks := s.toks + 1 } :=
      I.laid (t' := s.toks + 1) (fun b o e => Heap.get?_push_of_some _ e) (Nat.le_refl _) ⟨by show 2 ≤ sizeLine; decide, [.int i s.toks, u], .cons ⟨_, rfl⟩ (.cons ru .nil), ⟨_, Heap.get?_push_size _ rfl, rfl, _, rfl⟩⟩
    have neT : ∀ b ∈ [e, it], b ≠ s.heap.objs.size := fun b hb q => by
      obtain ⟨o, z⟩ := ho b hb
      exact absurd (Heap.lt_size z) (by rw [q]; exact Nat.lt_irrefl _)
    have hf' : ∀ b ∈ [e, it], FpOk X pins (upd H s.heap.objs.size (.tup [.int i, x])) b := fun b hb => by
      obtain ⟨f0, f1, f2, f3, f4, f5⟩ := hf b hb
      exact ⟨by rw [upd_ne (neT b hb)]; exact f0, f1, f2, f3, f4, f5⟩
    have I1 : Inv X pins σ (upd H s.heap.objs.size (.tup [.int i, x])) { s with heap := h2, toks := s.toks + 1 } := by
      refine Inv.turnedL (s := { s with heap := s.heap.push { cls := .type "tuple", data := .seq #[.int i s.toks, u] }, toks := s.toks + 1 }) (h' := h2) (t' := s.toks + 1) (fp := [e, it]) I0 (fun b o hb q => ?_) hf'
      replace q : (s.heap.push { cls := .type "tuple", data := .seq #[.int i s.toks, u] }).get? b = some o := q
      simp only [List.mem_cons, List.not_mem_nil, or_false, not_or] at hb
      obtain ⟨b1, b2⟩ := hb
      rw [sb.2 b b1]
      by_cases hT : b = s.heap.objs.size
      · subst hT
        have : (s.heap.push { cls := .type "tuple", data := .seq #[.int i s.toks, u] }).get? s.heap.objs.size = some { cls := .type "tuple", data := .seq #[.int i s.toks, u] } := Heap.get?_push_size _ rfl
        rw [this] at q
        cases q
        exact pr
      · have e' : s.heap.get? b = some o := by
          rw [Heap.get?_push_ne _ _ _ hT] at q
          exact q
        exact kk b o b1 b2 e'
    refine ⟨.ref s.heap.objs.size, _, I1, rfl, ⟨_, x, hf0, rfl, rfl, fun zs hz' => by rw [I.list_inj hz' hq]; exact hx⟩, ⟨⟨u, by simpa using z2⟩, ?_⟩, fun b hb => (hf' b hb).1⟩
    exact j1.at fun o q => (sb.2 it (Ne.symm hei)).trans q
  done := by
    intro X hP hw hK hc i pins s σ H E I hf st hg
    subst hP hw hK
    obtain ⟨xs, hq, hl⟩ := hg
    obtain ⟨⟨old, he⟩, hi⟩ := st
    obtain ⟨its, rv, p, _⟩ := I.list hq
    have l1 := rv.length
    refine wpAny_pyNext_enum_end (I.ok.hd hc) he hi p.isList (by simp; omega) fun h' kk => ⟨rfl, I.turnedL (t' := s.toks) (fp := [e, it]) (fun b o hb q => ?_) hf⟩
    simp only [List.mem_cons, List.not_mem_nil, or_false, not_or] at hb
    exact kk b o hb.2 q
  self := fun _ _ _ _ _ st h => by
    obtain ⟨⟨old, he⟩, _⟩ := st
    exact wpAny_pyIter_enum he h
noncomputable def iEnum (K : PySem.W.Frag) (ta : TA) : TI := fun σ H R => ta σ H fun vs H1 => ∃ l, vs = [.ref l] ∧ (∃ xs, SqL K H1 l xs) ∧ R (Ite K l) H1
theorem boot_enum : bootBuiltins "enumerate" = some (.type "enumerate") := by rfl
theorem pi_enum {X : Cx} {a : Expr} {ta : TA} {p pos : Pos} {elts : List Expr} {x1 : Nat} {tp : Pos} (hg : Gl X "enumerate") (hm : X.mg "enumerate" = none) (ha : PA X [a] ta) (hs : starEach [a] X.env = [(false, eval a X.env)]) :
    PI X (.Tuple elts x1 tp) (.Call (.Name "enumerate" p) [a] [] pos) (iEnum X.K ta) := by
  intro pins s σ H R I h
  refine Call_ (ld_blt I hg hm boot_enum (PyProof.Rows.callWith_type1 (thn (ha pos pins s σ H _ I h) fun us s1 ⟨vs, H1, I1, r1, q1⟩ => ?_) (by rw [hs]; rfl) rfl))
  obtain ⟨l, e, ⟨xs, hq⟩, q⟩ := q1
  subst e
  obtain ⟨u, rfl, rx⟩ := vals1 r1
  cases rx
  obtain ⟨its, rv, p1, _⟩ := I1.list hq
  refine call_enumerate_list p1.isList fun h' z1 j1 sz kk => ?_
  refine wpAny_pyIter_enum (s := { s1 with heap := h' }) z1 ?_
  have hne : s1.heap.objs.size + 1 ≠ s1.heap.objs.size := Nat.ne_of_gt (Nat.lt_succ_self _)
  refine ⟨s1.heap.objs.size + 1, _, _, _, H1, rfl, I1.kept (t' := s1.toks) kk, turn_enum _ _ l hne, ⟨⟨_, z1⟩, j1⟩, fun b hb => ?_, q⟩
  have hb' : s1.heap.objs.size ≤ b := by
    simp only [List.mem_cons, List.not_mem_nil, or_false] at hb
    rcases hb with rfl | rfl
    · exact Nat.le_succ _
    · exact Nat.le_refl _
  exact I1.fpOk hb' (I1.hok.fresh hb')
section
variable {X : Cx}
noncomputable def rCatF (K : PySem.W.Frag) : R2 := fun x y H Q => ∃ l b xs zs, x = .ref l ∧ y = .ref b ∧ SqL K H l xs ∧ SqL K H b zs ∧ xs.length + zs.length ≤ sizeLine ∧ ∀ p, H p = none → Q (.ref p) (upd H p (.lst (xs ++ zs)))
theorem op_catF : OpR X (binaryOp .Add) (rCatF X.K) := by
  intro pins s σ H x y v u Q I rx ry h
  obtain ⟨l, b, xs, zs, rfl, rfl, hH, hB, hz, q⟩ := h
  cases rx
  cases ry
  obtain ⟨its, r, p1, _⟩ := I.list hH
  obtain ⟨its2, r2, p2, _⟩ := I.list hB
  have hl := r.length
  have hl2 := r2.length
  obtain ⟨⟨cls, dd, data, sl⟩, ho, hc, n, hd⟩ := id p1.isList
  obtain ⟨⟨cls2, dd2, data2, sl2⟩, ho2, hc2, n2, hd2⟩ := id p2.isList
  simp only at hc hd hc2 hd2
  subst hc hd hc2 hd2
  have e : its.toArray ++ its2.toArray = (its ++ its2).toArray := by simp
  refine concat_meets ⟨_, ho, rfl⟩ ⟨_, ho2, rfl⟩ noFill_list_add seq_list_add PySem.F.slot_list_add PySem.F.entry_list_add (PySem.F.args_list_add_2 _ _) (list_addW l b its.toArray its2.toArray n n2 dd dd2 sl sl2 (by simp; omega)) ⟨ho, ho2, ?_⟩
  rw [e]
  exact ⟨.ref _, _, I.lnew (t' := s.toks) (r.append r2) (by rw [List.length_append]; omega), rfl, q _ I.fresh⟩
end
end L2

namespace L2
open PySem PySem.Spec PyProof.Rows
section
variable {X : Cx}
theorem kv_at {kvs : List (Key × V)} {vs : List (Key × Value)} (r : KV kvs vs) : ∀ (i : Nat) (k : Key) (x : Value), vs[i]? = some (k, x) → ∃ v, kvs[i]? = some (k, v) := by
  unfold KV at r
  induction r with
  | nil => intro i k x h; simp at h
  | @cons p q ps qs hpq _ ih =>
    intro i k x h
    cases i with
    | zero =>
      have h' : q = (k, x) := by simpa using h
      subst h'
      refine ⟨p.2, ?_⟩
      show some p = _
      have : p.1 = k := hpq.1
      rw [← this]
    | succ i => exact ih i k x (by simpa using h)
theorem kv_len {kvs : List (Key × V)} {vs : List (Key × Value)} (r : KV kvs vs) : kvs.length = vs.length := by
  unfold KV at r
  induction r with
  | nil => rfl
  | cons _ _ ih => rw [List.length_cons, List.length_cons, ih]
theorem vals_at : ∀ {xs : List V} {us : List Value}, xs.length = us.length → (∀ (i : Nat) (u : Value), us[i]? = some u → ∃ x, xs[i]? = some x ∧ RelV x u) → Vals xs us
  | [], [], _, _ => .nil
  | [], u :: us, h, _ => by simp at h
  | x :: xs, [], h, _ => by simp at h
  | x :: xs, u :: us, h, g => by
    obtain ⟨y, e, r⟩ := g 0 u rfl
    have e' : x = y := by simpa using e
    subst e'
    exact .cons r (vals_at (by simpa using h) fun i w q => by simpa using g (i + 1) w (by simpa using q))
theorem call_list_dct (hc : X.calm = true) : CallR X (.type "list") (fun xs H Q => ∃ p kvs, xs = [.ref p] ∧ H p = some (.dK kvs) ∧ ∀ l, H l = none → Q (.ref l) (upd H l (.lst (kvs.map fun kv => kV kv.1)))) := by
  intro pins s σ H xs us Q I r h
  obtain ⟨p, kvs, rfl, hp, q⟩ := h
  obtain ⟨u, rfl, rx⟩ := vals1 r
  cases rx
  obtain ⟨hz, hS, vs, rel, o, es, ep, m⟩ := (show ObjOk X.prog X.w H s.heap p (.dK kvs) from I.hok p _ hp)
  have hl := kv_len rel
  refine PySem.W.kdl_call (PySem.W.kdl_dict (knd := mixKind X.prog X.w) (kvs := vs) (ep := ep) hS) (I.ok.hd hc) ⟨o, es, m⟩ (by rw [← hl]; exact hz) fun h' tk acc' c' kp e it => ?_
  have rv : Vals (kvs.map fun kv => kV kv.1) acc'.toList := by
    refine vals_at (by rw [List.length_map, hl]; exact it.1.symm) fun i u hu => ?_
    obtain ⟨k, x, ek, hk⟩ := it.2 i u (by rw [← Array.getElem?_toList]; exact hu)
    obtain ⟨v, ev⟩ := kv_at rel i k x ek
    refine ⟨kV k, by rw [List.getElem?_map, ev]; rfl, ?_⟩
    rcases keyIs_shape hk with ⟨j, t, rfl, rfl⟩ | ⟨y, t, rfl, rfl⟩
    · exact ⟨_, rfl⟩
    · exact ⟨_, rfl⟩
  refine ⟨.ref s.heap.objs.size, _, I.laid (t' := tk) kp (Nat.le_refl _) (show ObjOk X.prog X.w _ h' _ (.lst (kvs.map fun kv => kV kv.1)) from ⟨by rw [List.length_map]; exact hz, acc'.toList, c', rv, by simpa using e⟩), rfl, q _ (I.hok.fresh (Nat.le_refl _))⟩
end
end L2

namespace LR
open PySem PySem.Spec PyProof.Rows PySem.F
theorem slot_lri_hint : Slot "list_reverseiterator" "__length_hint__" "list_reverseiterator.__length_hint__" :=
  .of (owner := "list_reverseiterator") (n := "__length_hint__") (by rw [typeLookup_type, builtinLookup_eq_fast]; kernel_rfl) (by decide +kernel) (by decide +kernel) (by decide +kernel)
    (by first | exact .inl (by decide +kernel) | exact .inr (by decide +kernel)) (by rw [isSubtype_type]; kernel_rfl)
theorem lri_no_len : typeLookup (.type "list_reverseiterator") "__len__" = pure none := by rw [typeLookup_type, builtinLookup_eq_fast]; kernel_rfl
section
variable {prog : Program} {w : World} {A : Around} {E : Value → Shared → Prop} {s : Shared}
theorem iter_lri {it l : Addr} {i : Int} {Q : Value → Shared → Prop} (hit : s.heap.IsRevIter it l i) (h : Q (.ref it) s) : wpAny (model prog w) A (pyIter (.ref it)) Q E s := by
  refine wpAny_pyIter_slot hit.typeIs slot_lri_iter (wpAny_call_entry slot_lri_iter hit.typeIs entry_lri_iter ?_ (args_lri_iter_1 _))
  show wpAny _ _ (ret (.ref it)) _ _ s
  exact wpAny_pure ⟨_, rfl, "list_reverseiterator", _, hit.typeIs, slot_lri_next.lookup, h⟩
theorem _root_.PySem.Heap.IsList.lt {h : Heap} {l : Addr} {items : Array Value} (x : h.IsList l items) : l < h.objs.size := let ⟨o, ho, _⟩ := x; Heap.lt_size ho
theorem hint_lri {it l : Addr} {i : Int} {Q : Bool → Shared → Prop} (hit : s.heap.IsRevIter it l i) (h : Q false s) : wpAny (model prog w) A (Builtin.List.listLengthHint (.ref it)) Q E s := by
  unfold Builtin.List.listLengthHint
  refine wpAny_bind (wpAny_specialOf hit.typeIs lri_no_len ?_)
  show wpAny _ A (specialOf (Value.ref it) (Str.ofString "__length_hint__") >>= _) _ _ _
  refine wpAny_bind (wpAny_specialOf hit.typeIs slot_lri_hint.lookup ?_)
  generalize hid : ("list_reverseiterator.__length_hint__" : String) = id0
  wp_delta
  rw [show splitId id0 = some ("list_reverseiterator", "__length_hint__") from by subst hid; decide +kernel]
  subst hid
  refine wpAny_bind (wpAny_isInstance (T := "list_reverseiterator") (b := true) hit.typeIs (by rw [isSubtype_type]; kernel_rfl) ?_)
  rw [if_neg (show ¬ ((!true) = true) from Bool.false_ne_true)]
  dsimp only
  rw [if_pos (by decide +kernel), if_neg (by decide +kernel)]
  first | exact wpAny_pure h | exact wpAny_bind (wpAny_pure (wpAny_pure h))
theorem extend_lri {R : Result → Shared → Prop} {I l : Addr} {items : Array Value} (hh : A.handled = none) (hit : s.heap.IsRevIter I l ((items.size : Int) - 1)) (hl : s.heap.IsList l items) (hne : l ≠ I) (hz : items.size ≤ 2 ^ 24) (S : Addr) (hSl : S ≠ l) (res : Value) (c₀ : Nat)
    (hS : s.heap.get? S = some { cls := .type "list", data := .seq #[] c₀ })
    (hR : ∀ h' tk acc' c', (∀ b o, b ≠ S → b ≠ I → s.heap.get? b = some o → h'.get? b = some o) → h'.get? S = some { cls := .type "list", dict := none, data := .seq acc' c', slots := #[] } →
      ItemsOf (fun i v => items[items.size - 1 - i]? = some v) acc' items.size → R (.ok (.ret res)) { s with heap := h', toks := tk }) :
    wpAny (model prog w) A.in1 (Builtin.List.listExtendWith (.ref S) (.ref I) res)
      (fun fin s' => match fin with | .done f => R (.ok f) s' | .again c' => c'.quiet = true ∧ codeAny (model prog w) A c' R s') (fun e s' => R (.error e) s') s := by
  have hSI : S ≠ I := fun e => by
    obtain ⟨o, ho, hc, hd⟩ := hit
    rw [e, ho] at hS; cases hS; exact absurd (Value.type.inj hc) (by decide)
  have hSf : S ∉ [I, l] := fun hm => by
    rcases List.mem_cons.mp hm with e | hm
    · exact hSI e
    · exact hSl (List.mem_singleton.mp hm)
  have W := (Walks.listRev (prog := prog) (w := w) (A := A.in1) hh I l hne items).toS
  have key : ∀ (h : Heap) (c₁ tk : Nat), h.IsRevIter I l ((items.size : Int) - 1) → h.IsList l items → (∀ b o, b ≠ S → b ≠ I → s.heap.get? b = some o → h.get? b = some o) →
      h.get? S = some { cls := .type "list", data := .seq #[] c₁ } → codeAny (model prog w) A (.builtin "list.extend.loop" ⟨[.ref S, .ref I, res], []⟩) R { s with heap := h, toks := tk } := by
    intro h c₁ tk hit hl hk hS₁
    refine codeAny_extend_loopS W (by rw [sizeLine_eq]; omega) S hSf res items.size 0 _ #[] c₁ rfl (Nat.zero_le _) ⟨Nat.zero_le _, by simpa using hit, hl⟩ hS₁ (ItemsOf.nil _) fun s' acc' c' hm hS' hacc => ?_
    rw [Moved.eq_with hm]
    refine hR s'.heap s'.toks acc' c' (fun b o hb hi e => hm.heap b o (fun hmem => ?_) (hk b o hb hi e)) hS' hacc
    rcases List.mem_cons.mp hmem with e' | hmem
    · exact hb e'
    · exact hi (List.mem_singleton.mp hmem)
  unfold Builtin.List.listExtendWith
  refine wpAny_bind (wpAny_typeOf hit.typeIs ?_)
  have h1 : Builtin.List.listSameRef (.ref S) (.ref I) = false := by simp [Builtin.List.listSameRef, hSI]
  have h2 : (Value.type "list_reverseiterator" == Value.type "list") = false := by decide
  have h3 : (Value.type "list_reverseiterator" == Value.type "tuple") = false := by decide
  simp only [h1, h2, h3, Bool.or_false, Bool.false_eq_true, if_false]
  refine wpAny_bind (iter_lri hit ?_)
  refine wpAny_bind (wpAny_holding (hint_lri hit ?_))
  refine wpAny_ite_split (fun _ => ?_) (fun _ => wpAny_pure ⟨plainId_quiet F.plain_extend_loop _, key _ c₀ _ hit hl (fun b o _ _ e => e) hS⟩)
  refine wpAny_bind (wpAny_rule ?_)
  refine wpAny_bind ?_
  show wpAny _ _ (updateSeq S (·.push .none) >>= fun _ => updateSeq S (·.pop)) _ _ _
  refine wpAny_bind (wpAny_updateSeq hS rfl ?_)
  have hS₂ := Heap.get?_update_self (Obj.mapSeq (·.push Value.none)) hS rfl
  refine wpAny_updateSeq (hz := by seq_fits) hS₂ rfl ?_
  have hS₃ := Heap.get?_update_self (Obj.mapSeq (·.pop)) hS₂ rfl
  have oth : ∀ b o, b ≠ S → s.heap.get? b = some o → ((s.heap.update S (Obj.mapSeq (·.push Value.none))).update S (Obj.mapSeq (·.pop))).get? b = some o :=
    fun b o hb e => (Heap.get?_update_other _ _ (Ne.symm hb)).trans ((Heap.get?_update_other _ _ (Ne.symm hb)).trans e)
  exact wpAny_pure ⟨plainId_quiet F.plain_extend_loop _, key _ _ _ (hit.at fun o e => oth I o (Ne.symm hSI) e) (hl.at fun o e => oth l o (Ne.symm hSl) e) (fun b o hb _ e => oth b o hb e) hS₃⟩
theorem init_lri {R : Result → Shared → Prop} {I l : Addr} {items : Array Value} (hh : A.handled = none) (hit : s.heap.IsRevIter I l ((items.size : Int) - 1)) (hl : s.heap.IsList l items) (hne : l ≠ I) (hz : items.size ≤ 2 ^ 24) (S : Addr) (hSl : l ≠ S)
    (hS : s.heap.get? S = some { cls := .type "list", data := .seq #[] })
    (hR : ∀ h' tk acc' c', (∀ b o, b ≠ S → b ≠ I → s.heap.get? b = some o → h'.get? b = some o) → h'.get? S = some { cls := .type "list", dict := none, data := .seq acc' c', slots := #[] } →
      ItemsOf (fun i v => items[items.size - 1 - i]? = some v) acc' items.size → R (.ok (.ret .none)) { s with heap := h', toks := tk }) :
    wpAny (model prog w) A.in1 (Builtin.«list.__init__» ⟨[.ref S, .ref I], []⟩)
      (fun fin s' => match fin with | .done f => R (.ok f) s' | .again c' => c'.quiet = true ∧ codeAny (model prog w) A c' R s') (fun e s' => R (.error e) s') s := by
  have hSI : I ≠ S := fun e => by
    obtain ⟨o, ho, hc, hd⟩ := hit
    rw [← e, ho] at hS; cases hS; exact absurd (Value.type.inj hc) (by decide)
  show wpAny _ _ (do let old ← Builtin.List.listItems (.ref S); Builtin.List.listUpdate (.ref S) (fun _ => #[]); letGo old.toList.reverse; Builtin.List.listExtendWith (.ref S) (.ref I) .none) _ _ s
  refine wpAny_bind ?_
  unfold Builtin.List.listItems
  refine wpAny_bind (wpAny_seqItems hS rfl (wpAny_pure ?_))
  show wpAny _ _ (updateSeq S (fun _ => #[]) >>= fun _ => letGo (#[] : Array Value).toList.reverse >>= fun _ => Builtin.List.listExtendWith (.ref S) (.ref I) .none) _ _ s
  refine wpAny_bind (wpAny_updateSeq hS rfl ?_)
  have hS₂ := Heap.get?_update_self (Obj.mapSeq (fun _ => (#[] : Array Value))) hS rfl
  have oth : ∀ b o, b ≠ S → s.heap.get? b = some o → (s.heap.update S (Obj.mapSeq (fun _ => (#[] : Array Value)))).get? b = some o :=
    fun b o hb e => (Heap.get?_update_other _ _ (Ne.symm hb)).trans e
  refine wpAny_bind (wpAny_letGo ?_)
  refine extend_lri hh (hit.at fun o e => oth I o hSI e) (hl.at fun o e => oth l o hSl e) hne hz S (Ne.symm hSl) .none _ hS₂ fun h' tk acc' c' hk hS' hacc => ?_
  exact hR h' tk acc' c' (fun b o hb hi e => hk b o hb hi (oth b o hb e)) hS' hacc
theorem call_list_lri {Q : Value → Shared → Prop} {I l : Addr} {items : Array Value} (hh : A.handled = none) (hit : s.heap.IsRevIter I l ((items.size : Int) - 1)) (hl : s.heap.IsList l items) (hne : l ≠ I) (hz : items.size ≤ 2 ^ 24)
    (hQ : ∀ h' tk acc' c', (∀ b o, b ≠ I → s.heap.get? b = some o → h'.get? b = some o) →
      h'.get? s.heap.objs.size = some { cls := .type "list", dict := none, data := .seq acc' c', slots := #[] } → ItemsOf (fun i v => items[items.size - 1 - i]? = some v) acc' items.size → Q (.ref s.heap.objs.size) { s with heap := h', toks := tk }) :
    wpAny (model prog w) A (call (.type "list") [.ref I]) Q E s := by
  refine callType_codes (Q₁ := fun obj s₁ => obj = .ref s.heap.objs.size ∧ s₁ = { s with heap := s.heap.push { cls := .type "list", data := .seq #[] } }) F.called_list (F.typeCall_list_1 _) F.entry_list_init
    (code_list_new _ ⟨rfl, rfl⟩) fun obj s₁ h₁ => ?_
  obtain ⟨rfl, rfl⟩ := h₁
  have hS : (s.heap.push { cls := .type "list", data := .seq #[] }).get? s.heap.objs.size = some { cls := .type "list", data := .seq #[] } := Heap.get?_push_size _ rfl
  refine ⟨⟨_, hS, rfl⟩, F.args_list_init_2 _ _, init_lri (A := A.in1) hh (hit.at fun o e => Heap.get?_push_of_some _ e) (hl.at fun o e => Heap.get?_push_of_some _ e) hne hz _ (Nat.ne_of_lt (hl.lt)) hS fun h' tk acc' c' hk hS' hacc => ?_⟩
  exact ⟨rfl, hQ h' tk acc' c' (fun b o hi e => hk b o (Nat.ne_of_lt (Heap.lt_size e)) hi (Heap.get?_push_of_some _ e)) hS' hacc⟩
end
end LR
namespace L2
open PySem PySem.Spec PyProof.Rows
noncomputable def tRev2 (K : PySem.W.Frag) (ta : TA) : TE := fun σ H Q => ta σ H fun vs H1 => ∃ p ys, vs = [.ref p] ∧ (False ∨ SqL K H1 p ys) ∧ ∀ l, H1 l = none → Q (.ref l) (upd H1 l (.lst ys.reverse))
theorem pe_listrev2 {X : Cx} {e : Expr} {ta : TA} {p1 p2 pos1 pos2 : Pos} (hc : X.calm = true) (g1 : Gl X "list") (m1 : X.mg "list" = none) (g2 : Gl X "reversed") (m2 : X.mg "reversed" = none) (he : PA X [e] ta) (hs : starEach [e] X.env = [(false, eval e X.env)]) :
    PE X (.Call (.Name "list" p1) [.Call (.Name "reversed" p2) [e] [] pos2] [] pos1) (tRev2 X.K ta) := by
  intro pins s σ H Q I h
  refine Call_ (ld_blt I g1 m1 boot_lst (PyProof.Rows.callWith_type1 ?_ rfl rfl))
  show wpAny _ _ (spliced ((false, eval (.Call (.Name "reversed" p2) [e] [] pos2) X.env) :: backTo pos1 (starEach [] X.env))) _ _ s
  refine Calls.spliced_cons ?_
  refine Call_ (ld_blt I g2 m2 boot_rev (PyProof.Rows.callWith_type1 (thn (he pos2 pins s σ H _ I h) fun us s1 ⟨vs, H1, I1, r1, q1⟩ => ?_) (by rw [hs]; rfl) rfl))
  obtain ⟨p, ys, e1, hq, q⟩ := q1
  subst e1
  obtain ⟨u, rfl, rx⟩ := vals1 r1
  cases rx
  rcases hq with hq | hq
  · exact hq.elim
  · obtain ⟨its, rv, ht, hz⟩ := I1.list hq
    replace ht := ht.isList
    have hl := rv.length
    have hz' : its.toArray.size ≤ 2 ^ 24 := by simp only [List.size_toArray]; rw [← hl]; exact hz
    have lt : p < s1.heap.objs.size := by obtain ⟨o, e, _⟩ := id ht; exact Heap.lt_size e
    refine PySem.call_reversed_list ht ?_
    refine Calls.spliced_nil ?_
    have hi : Heap.IsRevIter (s1.heap.push (PySem.revObj p ((its.toArray.size : Int) - 1))) s1.heap.objs.size p ((its.toArray.size : Int) - 1) := ⟨_, Heap.get?_push_size _ rfl, rfl, rfl⟩
    refine LR.call_list_lri (s := { s1 with heap := s1.heap.push (PySem.revObj p ((its.toArray.size : Int) - 1)) }) (I.ok.hd hc) hi (ht.at fun o e => Heap.get?_push_of_some _ e) (Nat.ne_of_lt lt) hz' fun h' tk' acc c' kp e it => ?_
    have sz : (s1.heap.push (PySem.revObj p ((its.toArray.size : Int) - 1))).objs.size = s1.heap.objs.size + 1 := Heap.size_push ..
    have ea : acc = its.reverse.toArray := by
      refine Array.ext_getElem? fun j => ?_
      by_cases hj : j < its.length
      · have h1 : j < acc.size := by rw [it.1]; simpa using hj
        have h2 := it.2 j _ (Array.getElem?_eq_getElem h1)
        rw [Array.getElem?_eq_getElem h1, ← h2]
        simp only [List.getElem?_toArray, List.size_toArray]
        rw [List.getElem?_reverse hj]
      · rw [Array.getElem?_eq_none (by rw [it.1]; simpa using hj)]
        simp only [List.getElem?_toArray]
        rw [List.getElem?_eq_none (by simpa using hj)]
    rw [ea] at e
    have hp : s1.heap.objs.size ≤ s1.heap.objs.size + 1 := Nat.le_succ _
    show EP X pins σ Q (.ref (s1.heap.push (PySem.revObj p ((its.toArray.size : Int) - 1))).objs.size) _
    rw [sz]
    replace e : h'.get? (s1.heap.objs.size + 1) = some { cls := .type "list", dict := none, data := .seq its.reverse.toArray c', slots := #[] } := by rw [← sz]; exact e
    refine ⟨.ref (s1.heap.objs.size + 1), _, I1.laid (t' := tk') (fun b o eb => kp b o (Nat.ne_of_lt (Heap.lt_size eb)) (Heap.get?_push_of_some _ eb)) hp (show ObjOk X.prog X.w _ h' _ (.lst ys.reverse) from ⟨by rw [List.length_reverse]; exact hz, its.reverse, c', rv.reverse, e⟩), rfl, q _ (I1.hok.fresh hp)⟩
end L2

namespace LR
open PySem PySem.Spec PyProof.Rows PySem.F
section
variable {prog : Program} {w : World} {A : Around} {E : Value → Shared → Prop} {s : Shared}
noncomputable def ltZ (a b c d : Int) : Bool := decide (a < c) || (decide (a = c) && decide (b < d))
theorem int_lt {a b : Int} {t u : Tok} {Q : Value → Shared → Prop} (h : Q (.bool (decide (a < b))) s) : wpAny (model prog w) A (richCompare .Lt (.int a t) (.int b u)) Q E s :=
  richCompare_gives (op := .Lt) (typeIs_int s _ t) (typeIs_int s _ u) F.slot_int_lt F.entry_int_lt (F.args_int_lt_2 _ _) (gives_int_lt _ _ t u) (fun x => nomatch x) h
theorem pair_lt {p q : Addr} {a b c d : Int} {t u v x : Tok} {Q : Value → Shared → Prop} (hp : IsTup s.heap p #[.int a t, .int b u]) (hq : IsTup s.heap q #[.int c v, .int d x]) (hu : A.units < cLine)
    (h : Q (.bool (ltZ a b c d)) s) : wpAny (model prog w) A (richCompare .Lt (.ref p) (.ref q)) Q E s := by
  refine wpAny_richCompare_same_room (op := .Lt) (tupTy hp) (tupTy hq) F.slot_tuple_lt (wpAny_call_entry F.slot_tuple_lt (tupTy hp) F.entry_tuple_lt ?_ (F.args_tuple_lt_2 _ _)) hu
  show wpAny _ _ (isInstance (.ref q) (.type "tuple") >>= _) _ _ s
  refine wpAny_bind (wpAny_isInstance (tupTy hq) isSubtype_tuple_tuple ?_)
  rw [if_neg (show ¬ ((!true) = true) from Bool.false_ne_true)]
  refine wpAny_bind (tupleItemsOf_ hp ?_)
  refine wpAny_bind (tupleItemsOf_ hq ?_)
  refine wpAny_bind ?_
  show wpAny _ _ (forIn [((Value.int a t : Value), (Value.int c v : Value)), (.int b u, .int d x)] _ _) _ _ s
  rw [List.forIn_cons]
  refine wpAny_bind (wpAny_bind (wpAny_eqBool_int ?_))
  by_cases e1 : a = c
  · subst e1
    rw [show (a == a) = true from beq_self_eq_true a, if_neg (show ¬ ((!true) = true) from Bool.false_ne_true)]
    refine wpAny_pure ?_
    show wpAny _ _ (forIn [((Value.int b u : Value), (Value.int d x : Value))] _ _) _ _ s
    rw [List.forIn_cons]
    refine wpAny_bind (wpAny_bind (wpAny_eqBool_int ?_))
    by_cases e2 : b = d
    · subst e2
      rw [show (b == b) = true from beq_self_eq_true b, if_neg (show ¬ ((!true) = true) from Bool.false_ne_true)]
      refine wpAny_pure ?_
      refine wpAny_pure ?_
      have h' : Q (.bool false) s := by simpa [ltZ] using h
      exact wpAny_pure ⟨_, rfl, (fun z => nomatch z), h'⟩
    · rw [show (b == d) = false from beq_eq_false_iff_ne.mpr e2, if_pos (show (!false) = true from rfl)]
      have h' : Q (.bool (decide (b < d))) s := by simpa [ltZ] using h
      refine wpAny_bind (wpAny_rule ?_)
      refine wpAny_bind (int_lt ?_)
      exact wpAny_bind (wpAny_pure (wpAny_pure (wpAny_pure (wpAny_pure ⟨_, rfl, (fun z => nomatch z), h'⟩))))
  · rw [show (a == c) = false from beq_eq_false_iff_ne.mpr e1, if_pos (show (!false) = true from rfl)]
    have h' : Q (.bool (decide (a < c))) s := by simpa [ltZ, e1] using h
    refine wpAny_bind (wpAny_rule ?_)
    refine wpAny_bind (int_lt ?_)
    exact wpAny_bind (wpAny_pure (wpAny_pure (wpAny_pure (wpAny_pure ⟨_, rfl, (fun z => nomatch z), h'⟩))))
end
end LR

namespace L2
open PySem PySem.Spec PyProof.Rows
section
variable {X : Cx} {pins : List (Addr × Obj)} {σ : St} {H : Hp} {s : Shared} {a C dx q f : Addr} {fs : List (Str × V)} {m : Str} {E : Value → Shared → Prop}
structure MethB (K : PySem.W.Frag) (m : Str) (f : Addr) : Prop where
  get : PySem.W.specialIn K (.ref f) "__get__" = some (some (.builtin "function.__get__"))
  tk : PySem.W.takesIn K (.ref f) = some false
  cp : PySem.W.copiedNames.contains m = false
theorem getbound_ok {A : Around} {b : Bool} {Q : Value → Shared → Prop} (I : Inv X pins σ H s) (e : H a = some (.ins C dx fs)) (c : Cls X.K C) (k : Meth X.K C m f) (kb : MethB X.K m f) (l : fs.lookup m = none)
    (h : Q (.ref s.heap.objs.size) { s with heap := s.heap.push (PySem.W.methodObj (.ref f) (.ref a)), toks := s.toks + 1 }) : wpAny (model X.prog X.w) A (getAttr (.ref a) m b) Q E s := by
  obtain ⟨mA, O, r, _, _, _⟩ := ins_get I.hok e
  have hn : mA m = none := RelO.none_of (by rw [← l]; exact r m)
  obtain ⟨od, J, hl⟩ := O.look
  exact PySem.W.get_bind I.kIn J (PySem.W.plainGet_of (c.get m)).1 (PySem.W.findObj_fn c.hd k.at_ kb.get kb.tk kb.cp (by rw [hl, hn])) (PySem.W.plainGet_of (c.get m)).2
    (wpAny_call (PySem.W.fn_get (s := { s with toks := s.toks + 1 }) I.kIn (beq_iff_eq.mp k.fn) (PySem.W.handed_on rfl h)))
theorem run_key {k : Nat} {fd : FuncData} {ps : List Str} {sp : Sp} {Q : VK} {v : V} {u : Value} (F : FnOk X.prog X.w X.K X.mg X.base CX0 k f fd ps sp) (hr : Room (k + 1) X.A) (hb : Binds X.K fd ps [])
    (I : Inv X pins σ H s) (ho : s.heap.get? q = some (PySem.W.methodObj (.ref f) (.ref a))) (rv : RelV v u) (h : sp [.ref a, v] H Q E0) : wpAny (model X.prog X.w) X.A.in1 (call (.ref q) [u]) (EP X pins σ Q) (fun _ _ => False) s := by
  have r2 : Vals [.ref a, v] [.ref a, u] := .cons rfl (.cons rv .nil)
  have hl : ([.ref a, u] ++ [] : List Value).length = ps.length := by
    have := F.len _ _ _ _ h
    simpa using this
  refine wpAny_call (PySem.W.method_call ho (codeAny_mono (F.run X.A.in1 X.stack s H ⟨[.ref a, u], []⟩ [.ref a, u] [.ref a, v] Q E0 hr.in1 I.env0.in1 (by simpa using hb s [.ref a, u] I.kIn hl) r2 h) fun r s' hq => ?_))
  cases r with
  | error e => exact hq
  | ok fl =>
    cases fl with
    | ret u => exact I.after hq
    | next => exact False.elim hq
    | brk => exact False.elim hq
    | cont => exact False.elim hq
theorem args_min_2k (a b v : Value) : argsOk "min" ⟨[a, b], [(Str.ofString "key", v)]⟩ := by unfold argsOk; kernel_rfl
structure MinAt (X : Cx) (pins : List (Addr × Obj)) (q f a T It S : Addr) (u1 u2 : Value) (i : Nat) (best : Array Value) (H : Hp) (s : Shared) : Prop where
  me : s.heap.get? q = some (PySem.W.methodObj (.ref f) (.ref a))
  tu : s.heap.get? T = some { cls := .type "tuple", data := .seq #[u1, u2] }
  it : s.heap.IsTupleIter It T i
  be : ∃ c, s.heap.get? S = some (seqObj "list" best c)
  fp : ∀ b ∈ [q, T, It, S], FpOk X pins H b
  ne : T ≠ It ∧ S ≠ It ∧ S ≠ T ∧ q ≠ It ∧ q ≠ S
theorem min_key {k : Nat} {fd : FuncData} {ps : List Str} {sp : Sp} {Q : VK} {v : V} {u u1 u2 : Value} {T It S : Addr} {i : Nat} {best : Array Value} (F : FnOk X.prog X.w X.K X.mg X.base CX0 k f fd ps sp) (hr : Room (k + 1) X.A) (hb : Binds X.K fd ps [])
    (I : Inv X pins σ H s) (M : MinAt X pins q f a T It S u1 u2 i best H s) (rv : RelV v u) (h : sp [.ref a, v] H Q E0) :
    wpAny (model X.prog X.w) X.A.in1 (call (.ref q) [u]) (fun r s' => ∃ w H', Inv X pins σ H' s' ∧ RelV w r ∧ Q w H' ∧ MinAt X pins q f a T It S u1 u2 i best H' s') (fun _ _ => False) s := by
  have ho : ∀ b ∈ [q, T, It, S], ∃ o, s.heap.get? b = some o ∧ ∀ v, o.data ≠ .cell v := fun b hb => by
    obtain ⟨oi, ei, ci, di⟩ := M.it
    obtain ⟨c, eb⟩ := M.be
    simp only [List.mem_cons, List.not_mem_nil, or_false] at hb
    rcases hb with rfl | rfl | rfl | rfl
    · exact ⟨_, M.me, fun v z => by cases z⟩
    · exact ⟨_, M.tu, fun v z => by cases z⟩
    · exact ⟨_, ei, fun v z => by rw [di] at z; cases z⟩
    · exact ⟨_, eb, fun v z => by cases z⟩
  have I1 := I.pinned M.fp ho
  refine wpAny_mono (run_key F hr hb I1 M.me rv h) (fun r s' hq => ?_) fun _ _ z => z
  obtain ⟨w, H', I2, rw', q'⟩ := hq
  have keep : ∀ b ∈ [q, T, It, S], ∀ o, s.heap.get? b = some o → s'.heap.get? b = some o ∧ H' b = none := fun b hb o e => by
    have := I2.pin (b, o) (List.mem_append_right _ (List.mem_append_right _ (mem_pinsAt hb e)))
    exact ⟨this.1, this.2.1⟩
  refine ⟨w, H', I2.unpinned, rw', q', ?_⟩
  obtain ⟨oi, ei, ci, di⟩ := M.it
  obtain ⟨c, eb⟩ := M.be
  exact ⟨(keep q (by simp) _ M.me).1, (keep T (by simp) _ M.tu).1, ⟨oi, (keep It (by simp) _ ei).1, ci, di⟩, ⟨c, (keep S (by simp) _ eb).1⟩, fun b hb => by
    obtain ⟨o, eo, _⟩ := ho b hb
    obtain ⟨f0, f1, f2, f3, f4, f5⟩ := M.fp b hb
    exact ⟨(keep b hb o eo).2, f1, f2, f3, f4, f5⟩, M.ne⟩
theorem MinAt.tuple {u1 u2 : Value} {T It S : Addr} {i : Nat} {best : Array Value} (M : MinAt X pins q f a T It S u1 u2 i best H s) : s.heap.IsTuple T #[u1, u2] := ⟨_, M.tu, rfl, _, rfl⟩
theorem MinAt.moved {u1 u2 : Value} {T It S : Addr} {i j : Nat} {best best' : Array Value} {h' : Heap} {tk : Nat} (I : Inv X pins σ H s) (M : MinAt X pins q f a T It S u1 u2 i best H s) (k : ∀ b o, b ∉ [It, S] → s.heap.get? b = some o → h'.get? b = some o)
    (hi : h'.IsTupleIter It T j) (hb : ∃ c, h'.get? S = some (seqObj "list" best' c)) : Inv X pins σ H { s with heap := h', toks := tk } ∧ MinAt X pins q f a T It S u1 u2 j best' H { s with heap := h', toks := tk } := by
  obtain ⟨n1, n2, n3, n4, n5⟩ := M.ne
  refine ⟨I.turnedL (fp := [It, S]) k fun b hb => M.fp b ?_, k q _ (by simp [n4, n5]) M.me, k T _ (by simp [n1, Ne.symm n3]) M.tu, hi, hb, M.fp, M.ne⟩
  simp only [List.mem_cons, List.not_mem_nil, or_false] at hb ⊢
  rcases hb with rfl | rfl
  · exact .inr (.inr (.inl rfl))
  · exact .inr (.inr (.inr rfl))
theorem min_end {u1 u2 u ku : Value} {T It S : Addr} {R : Result → Shared → Prop} (hc : X.calm = true) (I : Inv X pins σ H s) (M : MinAt X pins q f a T It S u1 u2 2 #[u, ku] H s) (hR : ∀ s', Inv X pins σ H s' → R (.ok (.ret u)) s') :
    codeAny (model X.prog X.w) X.A (.builtin "min.loop" ⟨[.ref It, .ref q, .ref S], []⟩) R s := by
  obtain ⟨n1, n2, n3, n4, n5⟩ := M.ne
  obtain ⟨c, eb⟩ := M.be
  refine codeAny_builtin PySem.F.entry_min_loop ?_
  rw [Around.under_plainId PySem.F.plain_min_loop _]
  show wpAny _ X.A.in1 (seqItems? (.ref S) >>= _) _ _ _
  refine wpAny_bind (wpAny_seqItems eb rfl ?_)
  show wpAny _ X.A.in1 (tryCatch (pyNext (.ref It)) _ >>= _) _ _ _
  refine wpAny_bind (wpAny_tryCatch ((Walks.tuple (prog := X.prog) (w := X.w) (A := X.A.in1) (I.ok.hd hc) It T n1 #[u1, u2]).done _ _ _ ⟨M.it, M.tuple⟩ fun h' tk' hk' => ?_))
  have hS' := hk' S _ (by simpa using n2) eb
  show wpAny _ X.A.in1 (updateSeq S (fun _ => #[]) >>= _) _ _ _
  refine wpAny_bind ?_
  refine wpAny_updateSeq hS' rfl (wpAny_bind (wpAny_letGo (wpAny_pure ?_)))
  refine hR _ (Inv.turnedL (s := s) (t' := tk') (fp := [It, S]) I (fun b o hb e => ?_) fun b hb => M.fp b ?_)
  · simp only [List.mem_cons, List.not_mem_nil, or_false, not_or] at hb
    rw [(Heap.SameBut.update h' S (Obj.mapSeq fun _ => (#[] : Array Value))).2 b hb.2]
    exact hk' b o (by simpa using hb.1) e
  · simp only [List.mem_cons, List.not_mem_nil, or_false] at hb ⊢
    rcases hb with rfl | rfl
    · exact .inr (.inr (.inl rfl))
    · exact .inr (.inr (.inr rfl))
theorem tupP {p : Addr} {a1 b1 : Int} (I : Inv X pins σ H s) (h : SqT X.K H p [.int a1, .int b1]) : ∃ t u, IsTup s.heap p #[.int a1 t, .int b1 u] := by
  obtain ⟨its, rv, ht, _⟩ := I.tuple h
  cases rv with
  | cons r1 rv =>
    cases rv with
    | cons r2 rv =>
      cases rv
      obtain ⟨t, rfl⟩ := r1
      obtain ⟨u, rfl⟩ := r2
      exact ⟨t, u, ht⟩
theorem min_two {k : Nat} {fd : FuncData} {ps : List Str} {sp : Sp} {Q : VK} {x y k1 : V} {u1 u2 ku : Value} {T It S : Addr} {R : Result → Shared → Prop} (hc : X.calm = true) (hu : X.A.units + 64 < cLine) (F : FnOk X.prog X.w X.K X.mg X.base CX0 k f fd ps sp) (hr : Room (k + 1) X.A) (hb : Binds X.K fd ps [])
    (I : Inv X pins σ H s) (M : MinAt X pins q f a T It S u1 u2 1 #[u1, ku] H s) (ry : RelV y u2) (r1 : RelV k1 ku)
    (h : sp [.ref a, y] H (fun k2 H2 => ∃ p1 p2 a1 b1 a2 b2, k1 = .ref p1 ∧ k2 = .ref p2 ∧ SqT X.K H2 p1 [.int a1, .int b1] ∧ SqT X.K H2 p2 [.int a2, .int b2] ∧ Q (if LR.ltZ a2 b2 a1 b1 then y else x) H2) E0)
    (hR : ∀ (b : Bool) H' s', Inv X pins σ H' s' → Q (if b then y else x) H' → R (.ok (.ret (if b then u2 else u1))) s') :
    codeAny (model X.prog X.w) X.A (.builtin "min.loop" ⟨[.ref It, .ref q, .ref S], []⟩) R s := by
  have hname : (toString "min" ++ toString ".loop" : String) = "min.loop" := by decide
  obtain ⟨n1, n2, n3, n4, n5⟩ := M.ne
  obtain ⟨c, eb⟩ := M.be
  refine codeAny_builtin PySem.F.entry_min_loop ?_
  rw [Around.under_plainId PySem.F.plain_min_loop _]
  show wpAny _ X.A.in1 (seqItems? (.ref S) >>= _) _ _ _
  refine wpAny_bind (wpAny_seqItems eb rfl ?_)
  show wpAny _ X.A.in1 (tryCatch (pyNext (.ref It)) _ >>= _) _ _ _
  refine wpAny_bind (wpAny_tryCatch ((Walks.tuple (prog := X.prog) (w := X.w) (A := X.A.in1) (I.ok.hd hc) It T n1 #[u1, u2]).item 1 _ _ _ (by simp) ⟨M.it, M.tuple⟩ fun v h' tk' hP hst' hk' => ?_))
  have hv : u2 = v := by simpa using hP
  subst hv
  obtain ⟨I1, M1⟩ := MinAt.moved (tk := tk') (h' := h') I M (fun b o hb' e => hk' b o (fun z => hb' (by simp at z; simp [z])) e) hst'.1 ⟨c, hk' S _ (by simpa using n2) eb⟩
  show wpAny _ X.A.in1 (tryCatch (holding [u2] (call (.ref q) [u2])) _ >>= _) _ _ _
  refine wpAny_bind (wpAny_tryCatch (wpAny_holding (wpAny_mono (min_key F hr hb I1 M1 ry h) (fun ku2 s2 hq => ?_) fun _ _ z => z.elim)))
  obtain ⟨k2, H2, I2, r2, ⟨p1, p2, a1, b1, a2, b2, e1, e2, t1, t2, q2⟩, M2⟩ := hq
  subst e1 e2
  cases r1
  cases r2
  obtain ⟨tt1, uu1, it1⟩ := tupP I2 t1
  obtain ⟨tt2, uu2, it2⟩ := tupP I2 t2
  obtain ⟨c2, eb2⟩ := M2.be
  show wpAny _ X.A.in1 (tryCatch (holding [u2, .ref p2] (richCompare .Lt (.ref p2) (.ref p1) >>= _)) _ >>= _) _ _ _
  refine wpAny_bind (wpAny_tryCatch (wpAny_holding (wpAny_bind (LR.pair_lt it2 it1 (by show X.A.units + 1 < cLine; omega) ?_))))
  refine wpAny_bind (wpAny_holding (wpAny_truthy_bool ?_))
  refine wpAny_bind (wpAny_letGo (wpAny_pure ?_))
  by_cases hlt : LR.ltZ a2 b2 a1 b1 = true
  · rw [hlt]
    rw [hlt] at q2
    rw [if_pos rfl]
    refine wpAny_bind ?_
    refine wpAny_updateSeq eb2 rfl (wpAny_bind (wpAny_letGo ?_))
    rw [hname]
    have sb := Heap.SameBut.update s2.heap S (Obj.mapSeq fun _ => #[u2, .ref p2])
    obtain ⟨oi, ei, ci, di⟩ := id M2.it
    obtain ⟨I3, M3⟩ := MinAt.moved (tk := s2.toks) (h' := s2.heap.update S (Obj.mapSeq fun _ => #[u2, .ref p2])) I2 M2 (fun b o hb' e => (sb.2 b (fun z => hb' (by simp [z]))).trans e) ⟨oi, (sb.2 It (Ne.symm n2)).trans ei, ci, di⟩ ⟨_, get?_update_seq eb2 fun _ => #[u2, .ref p2]⟩
    exact wpAny_pure ⟨plainId_quiet PySem.F.plain_min_loop _, min_end hc I3 M3 fun s' I' => hR true _ s' I' q2⟩
  · have hlt' : LR.ltZ a2 b2 a1 b1 = false := by simpa using hlt
    rw [hlt']
    rw [hlt'] at q2
    rw [if_neg Bool.false_ne_true]
    refine wpAny_bind (wpAny_letGo ?_)
    rw [hname]
    exact wpAny_pure ⟨plainId_quiet PySem.F.plain_min_loop _, min_end hc I2 M2 fun s' I' => hR false _ s' I' q2⟩
theorem call_mink {k : Nat} {fd : FuncData} {ps : List Str} {sp : Sp} {Q : VK} {x y : V} {u1 u2 : Value} (hc : X.calm = true) (hu : X.A.units + 64 < cLine) (F : FnOk X.prog X.w X.K X.mg X.base CX0 k f fd ps sp) (hr : Room (k + 1) X.A) (hb : Binds X.K fd ps [])
    (I : Inv X pins σ H s) (me : s.heap.get? q = some (PySem.W.methodObj (.ref f) (.ref a))) (fq : FpOk X pins H q) (rx : RelV x u1) (ry : RelV y u2)
    (h : sp [.ref a, x] H (fun k1 H1 => sp [.ref a, y] H1 (fun k2 H2 => ∃ p1 p2 a1 b1 a2 b2, k1 = .ref p1 ∧ k2 = .ref p2 ∧ SqT X.K H2 p1 [.int a1, .int b1] ∧ SqT X.K H2 p2 [.int a2, .int b2] ∧ Q (if LR.ltZ a2 b2 a1 b1 then y else x) H2) E0) E0) :
    wpAny (model X.prog X.w) X.A (call (.builtin "min") [u1, u2] [(Str.ofString "key", .ref q)]) (EP X pins σ Q) E s := by
  have hname : (toString "min" ++ toString ".loop" : String) = "min.loop" := by decide
  refine kmk_tree PySem.F.kind_min PySem.F.plain_min PySem.F.entry_min (args_min_2k _ _ _) ?_
  show wpAny _ X.A.in1 (Builtin.Builtins.bindParams "min" ["key", "default"] 0 ⟨[], [(Str.ofString "key", .ref q)]⟩ >>= _) _ _ s
  refine wpAny_bind (wpAny_of_eq (show Builtin.Builtins.bindParams "min" ["key", "default"] 0 ⟨[], [(Str.ofString "key", .ref q)]⟩ = pure [some (.ref q), none] from rfl) ?_)
  show wpAny _ X.A.in1 (newTuple [u1, u2] >>= _) _ _ s
  refine wpAny_bind (wpAny_newObj_type ?_)
  let T := s.heap.objs.size
  let h1 := s.heap.push { cls := .type "tuple", data := .seq #[u1, u2] }
  let h2 := h1.push { cls := .type "tuple_iterator", data := .fields #[.ref T, .int 0 0] }
  let h3 := h2.push (seqObj "list" #[] 0)
  have s1 : h1.objs.size = T + 1 := Heap.size_push ..
  have s2 : h2.objs.size = T + 2 := by rw [show h2.objs.size = h1.objs.size + 1 from Heap.size_push .., s1]
  have g1 : h1.get? T = some { cls := .type "tuple", data := .seq #[u1, u2] } := Heap.get?_push_size _ rfl
  refine wpAny_bind (wpAny_pyIter_tuple (t := T) (items := #[u1, u2]) ⟨_, g1, rfl, _, rfl⟩ ?_)
  refine wpAny_bind (wpAny_newList ?_ (Nat.zero_le _))
  rw [hname]
  have gT : h3.get? T = some { cls := .type "tuple", data := .seq #[u1, u2] } := Heap.get?_push_of_some _ (Heap.get?_push_of_some _ g1)
  have gI : h3.get? h1.objs.size = some { cls := .type "tuple_iterator", data := .fields #[.ref T, .int 0 0] } := Heap.get?_push_of_some _ (Heap.get?_push_size _ rfl)
  have gS : h3.get? h2.objs.size = some (seqObj "list" #[] 0) := Heap.get?_push_size _ rfl
  have gq : h3.get? q = some (PySem.W.methodObj (.ref f) (.ref a)) := Heap.get?_push_of_some _ (Heap.get?_push_of_some _ (Heap.get?_push_of_some _ me))
  have I3 : Inv X pins σ H { s with heap := h3 } := I.kept (t' := s.toks) fun b o e => Heap.get?_push_of_some _ (Heap.get?_push_of_some _ (Heap.get?_push_of_some _ e))
  have lq : q < T := Heap.lt_size me
  have M0 : MinAt X pins q f a T h1.objs.size h2.objs.size u1 u2 0 #[] H { s with heap := h3 } := by
    refine ⟨gq, gT, ⟨_, gI, rfl, rfl⟩, ⟨0, gS⟩, fun b hb => ?_, ?_⟩
    · simp only [List.mem_cons, List.not_mem_nil, or_false] at hb
      have hn : ∀ b, T ≤ b → FpOk X pins H b := fun b hb => I.fpOk hb (I.hok.fresh hb)
      rcases hb with rfl | rfl | rfl | rfl
      · exact fq
      · exact hn _ (Nat.le_refl _)
      · exact hn _ (by rw [s1]; omega)
      · exact hn _ (by rw [s2]; omega)
    · rw [s1, s2]
      have key : ∀ t : Nat, q < t → t ≠ t + 1 ∧ t + 2 ≠ t + 1 ∧ t + 2 ≠ t ∧ q ≠ t + 1 ∧ q ≠ t + 2 := fun t h => ⟨by omega, by omega, by omega, Nat.ne_of_lt (Nat.lt_succ_of_lt h), Nat.ne_of_lt (Nat.lt_succ_of_lt (Nat.lt_succ_of_lt h))⟩
      exact key T lq
  refine wpAny_pure ⟨plainId_quiet PySem.F.plain_min_loop _, ?_⟩
  obtain ⟨n1, n2, n3, n4, n5⟩ := M0.ne
  refine codeAny_builtin PySem.F.entry_min_loop ?_
  rw [Around.under_plainId PySem.F.plain_min_loop _]
  show wpAny _ X.A.in1 (seqItems? (.ref h2.objs.size) >>= _) _ _ { s with heap := h3 }
  refine wpAny_bind (wpAny_seqItems gS rfl ?_)
  show wpAny _ X.A.in1 (tryCatch (pyNext (.ref h1.objs.size)) _ >>= _) _ _ _
  refine wpAny_bind (wpAny_tryCatch ((Walks.tuple (prog := X.prog) (w := X.w) (A := X.A.in1) (I.ok.hd hc) h1.objs.size T n1 #[u1, u2]).item 0 _ _ _ (by simp) ⟨M0.it, M0.tuple⟩ fun v h' tk' hP hst' hk' => ?_))
  have hv : u1 = v := by simpa using hP
  subst hv
  obtain ⟨I1, M1⟩ := MinAt.moved (tk := tk') (h' := h') I3 M0 (fun b o hb' e => hk' b o (fun z => hb' (by simp at z; simp [z])) e) hst'.1 ⟨0, hk' _ _ (by simpa using n2) gS⟩
  show wpAny _ X.A.in1 (tryCatch (holding [u1] (call (.ref q) [u1])) _ >>= _) _ _ _
  refine wpAny_bind (wpAny_tryCatch (wpAny_holding (wpAny_mono (min_key F hr hb I1 M1 rx h) (fun ku s4 hq => ?_) fun _ _ z => z.elim)))
  obtain ⟨k1, H1, I4, r1, q1, M4⟩ := hq
  obtain ⟨c4, eb4⟩ := M4.be
  show wpAny _ X.A.in1 (updateSeq h2.objs.size (fun _ => #[u1, ku]) >>= _) _ _ _
  refine wpAny_bind ?_
  refine wpAny_updateSeq eb4 rfl ?_
  rw [hname]
  have sb := Heap.SameBut.update s4.heap h2.objs.size (Obj.mapSeq fun _ => #[u1, ku])
  obtain ⟨oi, ei, ci, di⟩ := id M4.it
  obtain ⟨I5, M5⟩ := MinAt.moved (tk := s4.toks) (h' := s4.heap.update h2.objs.size (Obj.mapSeq fun _ => #[u1, ku])) I4 M4 (fun b o hb' e => (sb.2 b (fun z => hb' (by simp [z]))).trans e) ⟨oi, (sb.2 _ (Ne.symm n2)).trans ei, ci, di⟩ ⟨_, get?_update_seq eb4 fun _ => #[u1, ku]⟩
  refine wpAny_pure ⟨plainId_quiet PySem.F.plain_min_loop _, min_two hc hu F hr hb I5 M5 ry r1 q1 fun b H' s' I' q' => ?_⟩
  exact ⟨_, H', I', by cases b <;> assumption, q'⟩
theorem boot_min : bootBuiltins "min" = some (.builtin "min") := by rfl
noncomputable def tMink (K : PySem.W.Frag) (C : Addr) (m : Str) (sp : Sp) (ta : TA) (to : TE) : TE := fun σ H Q => ta σ H fun vs H1 => ∃ x y, vs = [x, y] ∧ to σ H1 fun r H2 => ∃ a dx fs, r = .ref a ∧ H2 a = some (.ins C dx fs) ∧ fs.lookup m = none ∧
  sp [.ref a, x] H2 (fun k1 H3 => sp [.ref a, y] H3 (fun k2 H4 => ∃ p1 p2 a1 b1 a2 b2, k1 = .ref p1 ∧ k2 = .ref p2 ∧ SqT K H4 p1 [.int a1, .int b1] ∧ SqT K H4 p2 [.int a2, .int b2] ∧ Q (if LR.ltZ a2 b2 a1 b1 then y else x) H4) E0) E0
theorem pe_mink {k : Nat} {fd : FuncData} {ps : List Str} {sp : Sp} {e1 e2 o : Expr} {p ap kp pos : Pos} {ta : TA} {to : TE} (hc : X.calm = true) (hu : X.A.units + 64 < cLine) (F : FnOk X.prog X.w X.K X.mg X.base CX0 k f fd ps sp) (hr : Room (k + 1) X.A) (hb : Binds X.K fd ps [])
    (c : Cls X.K C) (hm : Meth X.K C m f) (kb : MethB X.K m f) (hg : Gl X "min") (hmg : X.mg "min" = none) (ha : PA X [e1, e2] ta) (ho : PE X o to) (hbase : attributeBase o m X.env (eval o X.env) = eval o X.env)
    (hs : starEach (e1 :: [e2]) X.env = (false, eval e1 X.env) :: starEach [e2] X.env) (hs2 : starEach [e2] X.env = [(false, eval e2 X.env)]) :
    PE X (.Call (.Name "min" p) [e1, e2] [⟨some "key", .Attribute o m ap, kp⟩] pos) (tMink X.K C m sp ta to) := by
  intro pins s σ H Q I h
  refine wpAny_Call_Name_kw (ld_blt I hg hmg boot_min ?_)
  refine callWith_builtin_kwB (by rw [hs, hs2]; rfl) rfl (evalArgs_kw2 rfl (thn (ha pos pins s σ H _ I h) fun us s1 ⟨vs, H1, I1, r1, x, y, ev, q1⟩ => ?_) hs)
  subst ev
  obtain ⟨u1, u2, rfl, rx, ry⟩ := vals2 r1
  show wpAny _ _ (evalAll [do let v ← eval (.Attribute o m ap) X.env; standAt pos; pure v]) _ _ s1
  refine wpAny_evalAll_cons (wpAny_bind (attr_of hbase (thn (ho pins s1 σ H1 _ I1 q1) fun u s2 ⟨r, H2, I2, rr, a, dx, fs, er, ea, l, q2⟩ => ?_)))
  subst er
  cases rr
  refine getbound_ok I2 ea c hm kb l ?_
  refine wpAny_bind (wpAny_standAt (wpAny_pure ?_))
  refine wpAny_evalAll_nil ?_
  have I3 : Inv X pins σ H2 { s2 with heap := s2.heap.push (PySem.W.methodObj (.ref f) (.ref a)), toks := s2.toks + 1 } := I2.kept fun b o e => Heap.get?_push_of_some _ e
  exact call_mink hc hu F hr hb I3 (Heap.get?_push_size _ rfl) (I2.fpOk (Nat.le_refl _) (I2.hok.fresh (Nat.le_refl _))) rx ry q2
end
end L2

namespace L2
open PySem PySem.Spec PyProof.Rows
end L2

namespace L2
open PySem PySem.Spec PyProof.Rows
end L2

namespace L2
open PySem PySem.Spec PyProof.Rows
end L2

namespace LR
open PySem PySem.Spec PyProof.Rows PySem.F MeetsSeq
end LR

namespace L2
open PySem PySem.Spec PyProof.Rows
end L2

namespace L2
open PySem PySem.Spec PyProof.Rows
section
variable {P : Program} {w : World} {H H' : Hp} {h h' : Heap} {a : Addr} {o : HO}
theorem ObjOk.has (x : ObjOk P w H h a o) : ∃ u, h.get? a = some u := by
  cases o with
  | lst xs => obtain ⟨_, _, _, _, e⟩ := x; exact ⟨_, e⟩
  | tup xs => obtain ⟨_, _, _, ob, e, _⟩ := x; exact ⟨_, e⟩
  | dK kvs => obtain ⟨_, _, _, _, o, _, _, e, _⟩ := x; exact ⟨_, e⟩
  | dT kvs => obtain ⟨_, _, _, _, o, _, _, e, _⟩ := x; exact ⟨_, e⟩
  | set S n => obtain ⟨o, _, _, _, e, _⟩ := x; exact ⟨_, e⟩
  | ins C dx fs => obtain ⟨_, _, _, e, _⟩ := x; exact ⟨_, e⟩
  | own y => obtain ⟨_, e⟩ := x; exact ⟨_, e⟩
  | xd fs => obtain ⟨_, ⟨_, _, _, e, _⟩, _⟩ := x; exact ⟨_, e⟩
  | rng lo hi => obtain ⟨_, _, _, e⟩ := x; exact ⟨_, e⟩
  | frz ob u => obtain ⟨e, _⟩ := x; exact ⟨_, e⟩
  | tbl ps => exact ⟨_, show h.get? a = some _ from x⟩
  | met f y => exact ⟨_, show h.get? a = some _ from x⟩
  | ext φ => obtain ⟨_, ⟨_, e⟩, _⟩ := x; exact ⟨_, e⟩
theorem HOk.has (x : HOk P w H h) (e : H a ≠ none) : ∃ u, h.get? a = some u := by
  cases q : H a with
  | none => exact absurd q e
  | some o => exact (x a o q).has
theorem HOk.some (x : HOk P w H h) (k : ∀ b u, H b ≠ none → h.get? b = some u → h'.get? b = some u) : HOk P w H h' := fun a o e =>
  (x a o e).stay (fun b u hb q => k b u (by
    rcases hb with rfl | hb
    · rw [e]; exact nofun
    · rw [hb]; exact nofun) q) (fun _ q => q) fun _ _ q => q
end
noncomputable def Cov (B : Heap) (l : List Env) (H' : Hp) (h0 h : Heap) : Prop := ∀ b o, h.get? b = some o → (H' b ≠ none ∨ ∃ u, h0.get? b = some u) → b ∉ frs l → B.get? b = some o
noncomputable def CX1 (P : Program) (w : World) : CXT := fun outer H s E e s' =>
  ∃ (ea C : Addr) (a0 : Value) (B : Heap) (H' : Hp), e = .ref ea ∧ s'.os = s.os ∧ AllBare s'.gens ∧ Un (frs outer) [] H H' s.heap s'.heap ∧ HOk P w H' s'.heap ∧
    Heap.FlyingW B outer ea (.ref C) a0 s'.heap ∧ Cov B outer H' s.heap s'.heap ∧ H' ea = none ∧ s.heap.get? ea = none ∧ E (.ref C) none H'
theorem FnOk.to0 {P : Program} {w : World} {K : PySem.W.Frag} {mg : Str → Option Value} {base : Heap} {k : Nat} {f : Addr} {fd : FuncData} {ps : List Str} {sp sp' : Sp} (F : FnOk P w K mg base (CX1 P w) k f fd ps sp)
    (h : ∀ vs H Q E, sp' vs H Q E → sp vs H Q (fun _ _ _ => False)) : FnOk P w K mg base CX0 k f fd ps sp' := by
  refine ⟨fun vs H Q E q => F.len vs H Q _ (h _ _ _ _ q), fun A outer s H args us vs Q E hr he hb hv hs => codeAny_mono (F.run A outer s H args us vs Q (fun _ _ _ => False) hr he hb hv (h _ _ _ _ hs)) fun r s' q => ?_⟩
  cases r with
  | error e =>
    obtain ⟨_, _, _, _, _, _, _, _, _, _, _, _, _, _, z⟩ := q
    exact z.elim
  | ok fl => cases fl <;> exact q
section
variable {X : Cx} {pins : List (Addr × Obj)} {σ : St} {H H' : Hp} {s s' : Shared} {E E' : XK} {M : Model} {EE : Value → Shared → Prop} {e : Value}
structure Body (X : Cx) : Prop where
  stk : X.stack = X.env :: X.outer
  fr : X.env.frame = some X.env.locals
  ex : X.ex = []
theorem Body.frs (b : Body X) : L2.frs X.stack = X.env.locals :: X.fs := by
  rw [b.stk]; unfold Cx.fs L2.frs; rw [List.filterMap_cons, b.fr]
structure Fly (X : Cx) (pins : List (Addr × Obj)) (σ : St) (H : Hp) (s : Shared) (H' : Hp) (s' : Shared) (ea C : Addr) (a0 : Value) (B : Heap) : Prop where
  pre : Inv X pins σ H s
  os : s'.os = s.os
  bare : AllBare s'.gens
  un : Un (L2.frs X.stack) [] H H' s.heap s'.heap
  hok : HOk X.prog X.w H' s'.heap
  fl : Heap.FlyingW B X.stack ea (.ref C) a0 s'.heap
  cov : Cov B X.stack H' s.heap s'.heap
  hn : H' ea = none
  nw : s.heap.get? ea = none
theorem CX1.fly (I : Inv X pins σ H s) (c : CX1 X.prog X.w X.stack H s E e s') : ∃ ea C a0 B H', e = .ref ea ∧ E (.ref C) none H' ∧ Fly X pins σ H s H' s' ea C a0 B := by
  obtain ⟨ea, C, a0, B, H', e1, os, bare, un, hok, fl, cov, hn, nw, q⟩ := c
  exact ⟨ea, C, a0, B, H', e1, q, I, os, bare, un, hok, fl, cov, hn, nw⟩
variable {h' : Heap} {ea C : Addr} {a0 : Value} {B : Heap}
theorem Fly.inv (f : Fly X pins σ H s H' s' ea C a0 B) : Inv X pins σ H' s' := f.pre.call' f.os f.un f.hok f.bare (fun b z => absurd z (by simp))
theorem Fly.core (f : Fly X pins σ H s H' s' ea C a0 B) (st : B.StaysIn h') (up : s'.heap.UpToSlots h') : Un (L2.frs X.stack) [] H H' s.heap h' ∧ HOk X.prog X.w H' h' ∧ Cov B X.stack H' s.heap h' := by
  have nin : ∀ {c}, H' c ≠ none → c ∉ L2.frs X.stack := fun {c} hc z => hc (f.inv.stkFree c z)
  have ke : ∀ c o, s'.heap.get? c = some o → (H' c ≠ none ∨ ∃ u, s.heap.get? c = some u) → c ∉ L2.frs X.stack → h'.get? c = some o := fun c o q hc hf => st c o (f.cov c o q hc hf)
  have sl : ∀ c o, s'.heap.get? c = some o → c ∈ L2.frs X.stack → ∃ z, h'.get? c = some { o with slots := z } := fun c o q hc => by
    obtain ⟨_, o', e1, nf⟩ := f.inv.stack.mem hc
    rw [q] at e1
    cases e1
    exact up c o q nf
  refine ⟨⟨fun c o q n hc hx => ?_, fun c o q n hc hx => ?_, f.un.free, fun c o q hx => ?_, f.un.tups, f.un.frzs, f.un.tbls⟩, f.hok.some fun c u hc q => ke c u q (.inl hc) (nin hc), fun c o q hc hf => ?_⟩
  · exact ke c o (f.un.keep c o q n hc hx) (.inr ⟨_, q⟩) hc
  · obtain ⟨z, e1⟩ := f.un.slot c o q n hc hx
    obtain ⟨z2, e2⟩ := sl c _ e1 hc
    exact ⟨z2, e2⟩
  · obtain ⟨o', e1⟩ := f.un.there c o q hx
    by_cases hc : c ∈ L2.frs X.stack
    · obtain ⟨z, e2⟩ := sl c _ e1 hc
      exact ⟨_, e2⟩
    · exact ⟨o', ke c o' e1 (.inr ⟨_, q⟩) hc⟩
  · have : ∃ o', s'.heap.get? c = some o' := by
      rcases hc with hc | ⟨u, hu⟩
      · exact f.hok.has hc
      · exact f.un.there c u hu (by simp)
    obtain ⟨o', e1⟩ := this
    have b1 := f.cov c o' e1 hc hf
    have := st c o' b1
    rw [q] at this
    cases this
    exact b1
theorem Fly.turn (f : Fly X pins σ H s H' s' ea C a0 B) (fl : Heap.FlyingW B X.stack ea (.ref C) a0 h') (up : s'.heap.UpToSlots h') : Fly X pins σ H s H' { s' with heap := h' } ea C a0 B :=
  let ⟨un, hok, cov⟩ := f.core fl.1 up
  ⟨f.pre, f.os, f.bare, un, hok, fl, cov, f.hn, f.nw⟩
theorem below_locals (I : Inv X pins σ H s) {b : Addr} {o : Obj} (q : X.s₀.heap.get? b = some o) : b ≠ X.env.locals := Nat.ne_of_lt (Nat.lt_of_lt_of_le (Heap.lt_size q) I.ok.above)
theorem Fly.leave (b : Body X) (f : Fly X pins σ H s H' s' ea C a0 B) (hE : E' (.ref C) none H') : wpAny M X.A (leaving X.env (.ref ea)) (fun _ s'' => CX1 X.prog X.w X.outer X.H₀ X.s₀ E' (.ref ea) s'') EE s' := by
  have fl := f.fl
  rw [b.stk] at fl
  refine wpAny_leaves_onW (by rw [← b.stk]; exact f.pre.ok.frames) b.fr fl fun h' fl' up => ?_
  obtain ⟨un, hok, cov⟩ := f.core fl'.1 up
  have I : Inv X pins σ H' { s' with heap := h' } := f.pre.call' f.os un hok f.bare (fun b z => absurd z (by simp))
  have bs := I.base
  rw [b.ex] at bs
  refine ⟨ea, C, a0, B, H', rfl, I.os, I.bare, bs, hok, fl', fun c o q hc hf => ?_, f.hn, ?_, hE⟩
  · refine cov c o q ?_ ?_
    · rcases hc with hc | ⟨u, hu⟩
      · exact .inl hc
      · exact .inr (f.pre.base.there c u hu (by rw [b.ex]; simp))
    · rw [b.frs]
      intro z
      rcases List.mem_cons.mp z with z | z
      · subst z
        rcases hc with hc | ⟨u, hu⟩
        · exact hc I.free
        · exact below_locals I hu rfl
      · exact hf z
  · cases q : X.s₀.heap.get? ea with
    | none => rfl
    | some o =>
      obtain ⟨o', e1⟩ := f.pre.base.there ea o q (by rw [b.ex]; simp)
      rw [f.nw] at e1
      cases e1
theorem made_leave {vs : List Value} {h1 : Heap} (b : Body X) (I : Inv X pins σ H s) (hx : Heap.MadeExcOf s.heap h1 ea (.ref C) vs) (hE : E' (.ref C) none H) : wpAny M X.A (leaving X.env (.ref ea)) (fun _ s'' => CX1 X.prog X.w X.outer X.H₀ X.s₀ E' (.ref ea) s'') EE { s with heap := h1 } := by
  have hin : ∀ env ∈ X.stack, ∀ c, env.frame = some c → c ∈ L2.frs X.stack := fun env he c hc => List.mem_filterMap.mpr ⟨env, he, hc⟩
  have ff := PySem.W.funFrames_hide I.stack hin
  rw [b.stk] at ff
  refine wpAny_leaves_madeW (base := PySem.W.hideAll s.heap (L2.frs X.stack)) (h := s.heap) (by rw [← b.stk]; exact I.ok.frames) b.fr (fun c o q => PySem.W.of_hideAll _ q) (by rw [b.stk]; exact ff) hx fun h' t fl tup tn up => ?_
  have B1 : ∀ c o, s.heap.get? c = some o → c ∉ L2.frs X.stack → (PySem.W.hideAll s.heap (L2.frs X.stack)).get? c = some o := fun c o q hc => PySem.W.hideAll_get _ q hc
  have nin : ∀ {c}, H c ≠ none → c ∉ L2.frs X.stack := fun {c} hc z => hc (I.stkFree c z)
  have sl : ∀ c o, s.heap.get? c = some o → c ∈ L2.frs X.stack → ∃ z, h'.get? c = some { o with slots := z } := fun c o q hc => by
    obtain ⟨_, o', e1, nf⟩ := I.stack.mem hc
    rw [q] at e1
    cases e1
    exact up c o (hx.keeps c o q) nf
  have hok : HOk X.prog X.w H h' := I.hok.some fun c u hc q => fl.1 c u (B1 c u q (nin hc))
  have un : Un (L2.frs X.stack) [] H H s.heap h' := by
    refine ⟨fun c o q n hc hx => fl.1 c o (B1 c o q hc), fun c o q n hc hx => sl c o q hc, fun c o q n hx => n, fun c o q hx => ?_, fun _ _ z => z, fun _ _ _ z => z, fun c ps z => ⟨#[], by simpa using z⟩⟩
    by_cases hc : c ∈ L2.frs X.stack
    · obtain ⟨z, e2⟩ := sl c _ q hc
      exact ⟨_, e2⟩
    · exact ⟨o, fl.1 c o (B1 c o q hc)⟩
  have I' : Inv X pins σ H { s with heap := h' } := I.call' (s' := { s with heap := h' }) rfl un hok I.bare (fun b z => absurd z (by simp))
  have bs := I'.base
  rw [b.ex] at bs
  have hn : H ea = none := by
    cases q : H ea with
    | none => rfl
    | some o =>
      obtain ⟨u, hu⟩ := I.hok.has (a := ea) (by rw [q]; exact nofun)
      rw [hx.new] at hu
      cases hu
  refine ⟨ea, C, .ref t, _, H, rfl, I'.os, I'.bare, bs, hok, fl, fun c o q hc hf => ?_, hn, ?_, hE⟩
  · have hf' : c ∉ L2.frs X.stack := by
      rw [b.frs]
      intro z
      rcases List.mem_cons.mp z with z | z
      · subst z
        rcases hc with hc | ⟨u, hu⟩
        · exact hc I.free
        · exact below_locals I hu rfl
      · exact hf z
    have : ∃ o', s.heap.get? c = some o' := by
      rcases hc with hc | ⟨u, hu⟩
      · exact I.hok.has hc
      · exact I.base.there c u hu (by rw [b.ex]; simp)
    obtain ⟨o', e1⟩ := this
    have b1 := B1 c o' e1 hf'
    have := fl.1 c o' b1
    rw [q] at this
    cases this
    exact b1
  · cases q : X.s₀.heap.get? ea with
    | none => rfl
    | some o =>
      obtain ⟨o', e1⟩ := I.base.there ea o q (by rw [b.ex]; simp)
      rw [hx.new] at e1
      cases e1
end

section
variable {X : Cx}
theorem exc_obj {K : PySem.W.Frag} {h : Heap} {C : Addr} {bmB : List Value} {newId : String} (KX : K.In h) (q : PySem.W.excIn K C bmB newId = true) :
    ∃ bm N nm qn bs hdct sn sub ab col dd k0 k1 k2 k3 k5 mN, h.get? C = some (excClassObj nm qn C N bs bm hdct sn sub ab col dd k0 k1 k2 k3 k5 newId) ∧ h.Ns N mN ∧ mN "__init__" = none ∧ OwnTail h bmB bm := by
  unfold PySem.W.excIn at q
  split at q
  · rename_i dd cd sl ho
    split at q
    · rename_i C' bm k0 k1 k2 k3 n k5 hm hs
      simp only [Bool.and_eq_true, beq_iff_eq, Bool.not_eq_true'] at q
      obtain ⟨⟨⟨⟨⟨rfl, rfl⟩, hdel⟩, ht⟩, hok⟩, hni⟩ := q
      obtain ⟨nm, bs, mro, ns, qn, hd, sn, sub, ab, col, del⟩ := cd
      dsimp only at hm hdel hok hni
      subst hm hdel
      have hsl : sl = #[k0, k1, k2, k3, some (.builtin n), k5] := by
        obtain ⟨l⟩ := sl
        simp only at hs
        rw [hs]
      subst hsl
      exact ⟨bm, ns, nm, qn, bs, hd, sn, sub, ab, col, dd, k0, k1, k2, k3, k5, _, KX _ _ ho, .of_isNs (PySem.W.isNs_of_in KX hok), PySem.W.nsMap_none_of_in KX hok hni, PySem.W.tail_of_in KX ht⟩
    · cases q
  · cases q
noncomputable abbrev bmVal : List Value := [.type "ValueError", .type "Exception", .type "BaseException", .type "object"]
theorem ps_raise {x y : Str} {C : Addr} {np cp cpos pos : Pos} {j} (hg : Gl X x) (hm : X.mg x = some (.ref C)) (hq : PySem.W.excIn X.K C bmVal "ValueError.__new__" = true) (hc : X.calm = true) (hd : (x == ("__debug__" : Str)) = false) :
    PS X (.Raise (some (.Call (.Name x np) [.Constant (.str y) j cp] [] cpos)) none pos) (fun _ σ H => ∀ pins s h1 ea us, Inv X pins σ H s → Heap.MadeExcOf s.heap h1 ea (.ref C) us → X.xe (.ref ea) { s with heap := h1 }) := by
  intro pins s σ H D I h
  obtain ⟨tl, N, nm, q, bs, hdct, sn, sub, ab, col, dd, k0, k1, k2, k3, k5, mN, hC, hN, hni, T⟩ := exc_obj (h := X.base) I.mod.kin hq
  refine wpAny_Raise_call_subT (C := C) (nm := nm) (q := q) (N := N) (bs := bs) (bm := tl) (hdct := hdct) (sn := sn) (sub := sub) (ab := ab) (col := col) (dd := dd) (k0 := k0) (k1 := k1) (k2 := k2) (k3 := k3) (k5 := k5)
    PySem.F.excBase_ValueError (mN := mN) (T.hasType PySem.F.excBase_ValueError.hasBase) (I.ok.hd hc) rfl hni (ld_glob I hg hm ⟨rfl, ?_⟩ hd)
  have pa : PA X [.Constant (.str y) j cp] (tCons (L2.tC (.str y)) tNil) := pa_cons pe_str pa_nil
  refine Calls.evalArgs_plain (thn (pa cpos pins s σ H (fun vs H1 => vs = [.str y] ∧ H1 = H) I ⟨rfl, rfl⟩) fun us s1 ⟨vs, H1, I1, r, e1, e2⟩ => ?_)
  subst e1 e2
  refine ⟨rfl, ?_, I1.bk _ _ hC, hN.keeps I1.bk, T.keeps I1.bk, fun h' e me => h pins s1 h' e us I1 me⟩
  rw [← r.length]
  show 1 ≤ sizeLine
  decide
end
noncomputable def ExcAt (ea C : Addr) (h : Heap) : Prop := ∃ o, h.get? ea = some o ∧ o.cls = .ref C
theorem excAt_ty {ea C : Addr} (M : Model) (h : Heap) (p : ExcAt ea C h) : PySem.W.Looks M h (typeOf (.ref ea)) (.ref C) := by
  obtain ⟨o, h1, h2⟩ := p
  exact h2 ▸ (PySem.W.Looks.ld h1).andThen .now
section
open PySem.Builtin PySem.Builtin.ObjectAttr PySem.Builtin.Getset_descriptor
structure ExcCl (K : PySem.W.Frag) (C : Addr) : Prop where
  ga : PySem.W.findIn K (.ref C) "__getattribute__" = some (some (.builtin "BaseException.__getattribute__"))
  gt : PySem.W.findIn K (.ref C) "__getattr__" = some none
  cl : PySem.W.findIn K (.ref C) "__class__" = some (some (.builtin "object.__class__"))
  gg : PySem.W.specialIn K (.builtin "object.__class__") "__get__" = some (some (.builtin "getset_descriptor.__get__"))
  tk : PySem.W.takesIn K (.builtin "object.__class__") = some true
  mo : PySem.W.mroIn K C (.type "object") = some true
  mb : PySem.W.mroIn K C (.type "BaseException") = some true
section
variable {prog : Program} {w : World} {A : Around} {E : Value → Shared → Prop} {s : Shared} {K : PySem.W.Frag} {ea C : Addr}
theorem find_data {M : Model} {h : Heap} (KX : K.In h) (x : ExcCl K C) : PySem.W.Looks M h (find (.ref ea) (.ref C) "__class__") (.bind (.builtin "getset_descriptor.__get__") (.builtin "object.__class__")) := by
  have L1 := PySem.W.looks_findIn (M := M) KX x.cl
  have L2 := PySem.W.looks_specialIn (M := M) KX x.gg
  have L3 := PySem.W.looks_takesIn (M := M) KX x.tk
  exact L1.andThen (L2.andThen ((show PySem.W.Looks M h (dataDescriptor? (some (.builtin "object.__class__")) (some (.builtin "getset_descriptor.__get__"))) (some (.builtin "getset_descriptor.__get__", .builtin "object.__class__")) from L3.andThen .now).andThen (PySem.W.Looks.tag .now)))
theorem cls_get {tp : Value} {R : Result → Shared → Prop} (KX : K.In s.heap) (p : ExcAt ea C s.heap) (x : ExcCl K C) (h : R (.ok (.ret (.ref C))) s) : codeAny (model prog w) A (.call (.builtin "getset_descriptor.__get__") ⟨[.builtin "object.__class__", .ref ea, tp], []⟩) R s := by
  obtain ⟨hh, g, dr, t, os⟩ := s
  have L0 := excAt_ty (model prog w) hh p
  have L1 := PySem.W.looks_mroIn (M := model prog w) KX x.mo
  refine codeAny_call_builtin PySem.W.KF.slot_gs.plain PySem.W.KF.entry_gs (PySem.W.KF.slot_gs.check _ _ _ _ _ _ _ _ PySem.W.KF.type_class (PySem.W.KF.args_gs _ _ _) ?_)
  unfold Builtin.«getset_descriptor.__get__» descrGet
  rw [PySem.W.dga_obj]
  refine wpAny_bind (wpAny_pure ?_)
  unfold descrGetter descrCheckInstance descrNameAndClass isInstance
  simp only [PySem.W.KF.owner_class]
  repeat lk
  refine ⟨Code.quiet_builtin _ (by decide +kernel), codeAny_builtin PySem.W.KF.entry_class ?_⟩
  unfold Builtin.«object.__class__» shownTypeOf
  repeat lk
  exact h
theorem ga_check {nameV : Value} {Q : Unit → Shared → Prop} {M : Model} (KX : K.In s.heap) (p : ExcAt ea C s.heap) (x : ExcCl K C) (h : Q () s) : wpAny M A (checkBuiltinCall "BaseException.__getattribute__" ⟨[.ref ea, nameV], []⟩) Q E s := by
  obtain ⟨hh, g, dr, t, os⟩ := s
  have L0 := excAt_ty M hh p
  have L1 := PySem.W.looks_mroIn (M := M) KX x.mb
  have hk : builtinKind "BaseException.__getattribute__" = some .slot := by decide +kernel
  have hsplit : splitId "BaseException.__getattribute__" = some ("BaseException", "__getattribute__") := by decide +kernel
  have ha := PySem.F.args_bexc_ga (.ref ea) nameV
  simp only [checkBuiltinCall, hk, hsplit]
  refine wpAny_bind ?_
  unfold isInstance
  repeat lk
  exact h
theorem exc_class {Q : Option Value → Shared → Prop} (KX : K.In s.heap) (p : ExcAt ea C s.heap) (x : ExcCl K C) (h : Q (some (.ref C)) { s with toks := s.toks + 1 }) : wpAny (model prog w) A (getAttr? (.ref ea) "__class__") Q E s := by
  obtain ⟨hh, g, dr, t, os⟩ := s
  have L0 := excAt_ty (model prog w) hh p
  have L1 := PySem.W.looks_findIn (M := model prog w) KX x.ga
  have L2 := PySem.W.looks_findIn (M := model prog w) KX x.gt
  unfold getAttr? getAttrBy? getAttrBy
  refine wpAny_bind (wpAny_mkText (wpAny_bind (wpAny_attempt (wpAny_holding (wpAny_bind (L0.at (wpAny_bind (L1.at ?_))))))))
  have hx2 : (Value.builtin "BaseException.__getattribute__" == Value.builtin "object.__getattribute__") = false := by decide +kernel
  have bs : bindSpecial (.builtin "BaseException.__getattribute__") (.ref ea) = pure (.builtin "BaseException.__getattribute__", [.ref ea]) := by kernel_rfl
  show wpAny _ _ (if _ then _ else _) _ _ _
  rw [hx2, Bool.and_false, if_neg Bool.false_ne_true]
  unfold getAttrByItsOwn hookBefore callGetattribute boundAndCalled
  rw [if_pos (show onTheHeap (Value.ref C) = true from rfl)]
  refine wpAny_bind (L2.at (wpAny_bind (wpAny_attempt (wpAny_holding ?_))))
  rw [Bool.false_and, if_neg Bool.false_ne_true, bs]
  refine wpAny_bind (wpAny_pure ?_)
  show wpAny _ _ (call (.builtin "BaseException.__getattribute__") [.ref ea, .str (Str.ofString "__class__") t]) _ _ _
  refine wpAny_call (codeAny_call_builtin PySem.F.attr_ValueError.ga.plain PySem.F.entry_bexc_ga (ga_check KX p x ?_))
  have L3 := find_data (M := model prog w) (ea := ea) KX x
  unfold Builtin.«object.__getattribute__»
  refine wpAny_bind (wpAny_pure (wpAny_bind (wpAny_pure (wpAny_bind (L0.at (wpAny_bind (L3.at ?_)))))))
  show wpAny _ _ (holding [Value.builtin "object.__class__"] (call (Value.builtin "getset_descriptor.__get__") [Value.builtin "object.__class__", Value.ref ea, Value.ref C]) >>= ret) _ _ _
  refine wpAny_bind (wpAny_holding (wpAny_call (cls_get KX p x ?_)))
  refine wpAny_pure ?_
  refine PySem.W.handed_on rfl ?_
  exact wpAny_pure h
theorem kitx_exc (x : ExcCl K C) (hc : (PySem.W.clsIn K C).isSome = true) : PySem.W.KitX K (.ref ea) (.ref C) (ExcAt ea C) where
  ty := fun M h _ p => excAt_ty M h p
  it := fun _ _ X _ => by
    obtain ⟨cdD, hcD⟩ := Option.isSome_iff_exists.mp hc
    unfold PySem.W.clsIn at hcD
    split at hcD
    · rename_i c' d' cd' sl' ho
      intro A' Q' E' s' k q
      unfold isType loadHead
      exact wpAny_bind (wpAny_loadPart (k _ _ (X _ _ ho)) (wpAny_pure q))
    · cases hcD
  ne := fun h tp dd its n sl X htp => by
    obtain ⟨cdD, hcD⟩ := Option.isSome_iff_exists.mp hc
    refine Bool.eq_false_iff.mpr fun q => ?_
    have e : C = tp := Value.ref.inj (beq_iff_eq.mp q)
    subst e
    unfold PySem.W.clsIn at hcD
    split at hcD
    · rename_i c' d' cd' sl' ho
      have z := (X _ _ ho).symm.trans htp
      cases z
    · cases hcD
  ca := fun X p h => exc_class X p x h
theorem kia_excB {c : Value} {b : Bool} {Q : Value → Shared → Prop} (x : ExcCl K C) (hc : (PySem.W.clsIn K C).isSome = true) (KX : K.In s.heap) (p : ExcAt ea C s.heap) (e : PySem.W.kitOne K (.ref C) c = some b) (h : ∀ tk, Q (.bool b) { s with toks := tk }) :
    wpAny (model prog w) A (call (.builtin "isinstance") [.ref ea, c]) Q E s :=
  PySem.W.kia_one (kitx_exc x hc) KX p e (fun z => nomatch z) h
end
end
section
variable {X : Cx} {pins pins' : List (Addr × Obj)} {σ : St} {H H' : Hp} {s s' : Shared} {D : Ends} {E : Value → Shared → Prop} {ea C : Addr} {a0 : Value} {B : Heap} {oe : Obj}
noncomputable abbrev Cx.pinned (X : Cx) (pins : List (Addr × Obj)) (E : Value → Shared → Prop) : Cx := { X with pn := X.pn ++ pins, xe := E }
theorem Cx.Ok.pinned (ok : X.Ok) : (X.pinned pins E).Ok := ⟨ok.mod, ok.kind, ok.glob, ok.blt, ok.above, ok.inj, ok.has, ok.cab, ok.hd, ok.frames, ok.stk, ok.exf, ok.bs, ok.bsz, ok.noex, ok.exfs, ok.funs, ok.frf⟩
theorem Cx.Ok.unpinned (ok : (X.pinned pins E).Ok) : X.Ok := ⟨ok.mod, ok.kind, ok.glob, ok.blt, ok.above, ok.inj, ok.has, ok.cab, ok.hd, ok.frames, ok.stk, ok.exf, ok.bs, ok.bsz, ok.noex, ok.exfs, ok.funs, ok.frf⟩
theorem Inv.pinX (I : Inv X pins σ H s) : Inv (X.pinned pins E) [] σ H s := ⟨I.ok.pinned, I.os, I.bare, I.base, I.loc, I.cell, I.free, I.freeC, fun p hp => I.pin p (by simpa using hp), I.hok, I.len⟩
theorem Inv.unpinX (I : Inv (X.pinned pins E) pins' σ H s) : Inv X pins σ H s := ⟨I.ok.unpinned, I.os, I.bare, I.base, I.loc, I.cell, I.free, I.freeC, fun p hp => I.pin p (List.mem_append_left _ hp), I.hok, I.len⟩
theorem SP.unpinned {f : Flow} (h : SP (X.pinned pins E) [] D f s') : SP X pins D f s' := by
  cases f with
  | next => obtain ⟨σ', H', I, q⟩ := h; exact ⟨σ', H', I.unpinX, q⟩
  | brk => obtain ⟨σ', H', I, q⟩ := h; exact ⟨σ', H', I.unpinX, q⟩
  | cont => obtain ⟨σ', H', I, q⟩ := h; exact ⟨σ', H', I.unpinX, q⟩
  | ret u => obtain ⟨v, σ', H', I, q⟩ := h; exact ⟨v, σ', H', I.unpinX, q⟩
noncomputable abbrev Cx.hand (X : Cx) (pins : List (Addr × Obj)) (ea : Addr) (oe : Obj) : Cx := { X with A := X.A.mark (some (.ref ea)), calm := false, pn := (X.pn ++ pins) ++ [(ea, oe)], xe := fun _ _ => False }
theorem Cx.Ok.hand (ok : X.Ok) : (X.hand pins ea oe).Ok := ⟨ok.mod, ok.kind, ok.glob, ok.blt, ok.above, ok.inj, ok.has, ok.cab, fun z => (by cases z), ok.frames, ok.stk, ok.exf, ok.bs, ok.bsz, ok.noex, ok.exfs, ok.funs, ok.frf⟩
theorem Inv.hand (I : Inv X pins σ H s) (h1 : s.heap.get? ea = some oe) (h2 : H ea = none) (h3 : ea ≠ X.env.locals) (h4 : ea ∉ X.fs) (h5 : ∀ v, oe.data ≠ .cell v) : Inv (X.hand pins ea oe) [] σ H s := by
  refine ⟨I.ok.hand, I.os, I.bare, I.base, I.loc, I.cell, I.free, I.freeC, fun p hp => ?_, I.hok, I.len⟩
  simp only [List.append_nil, List.mem_append, List.mem_singleton] at hp
  rcases hp with hp | rfl
  · exact I.pin p (List.mem_append.mpr hp)
  · exact ⟨h1, h2, h3, h4, h5⟩
theorem Inv.unhand (I : Inv (X.hand pins ea oe) pins' σ H s) (ok : X.Ok) : Inv X pins σ H s := ⟨ok, I.os, I.bare, I.base, I.loc, I.cell, I.free, I.freeC, fun p hp => I.pin p (List.mem_append_left _ (List.mem_append_left _ hp)), I.hok, I.len⟩
theorem Inv.gone {i : Nat} {n : Str} {m : Str → Option Value} {v : Option Value} {h' : Heap} (I : Inv X pins σ H s) (hN : X.N.Nodup) (hi : X.N[i]? = some n) (hn : s.heap.Ns X.env.locals m)
    (hl : ∀ (i : Nat) (x : Str) (v : V), X.N[i]? = some x → σ[i]? = some (some v) → Vis X.env.scope x → ∃ u, RelV v u ∧ Look X.env s.heap m x u)
    (ns : h'.Ns X.env.locals (fun y => if y = n then v else m y)) (hs : Heap.SameBut X.env.locals s.heap h') (t' : Nat) : Inv X pins (σ.set i none) H { s with heap := h', toks := t' } := by
  have hiσ : i < σ.length := by rw [I.len]; exact (List.getElem?_eq_some_iff.mp hi).1
  have hok : HOk X.prog X.w H h' := I.hok.some fun c u hc q => (hs.2 c fun z => hc (by rw [z]; exact I.free)).trans q
  refine ⟨I.ok, I.os, I.bare, ⟨fun b o e n hb hx => ?_, fun b o e n hb hx => ?_, I.base.free, fun b o e hx => ?_, I.base.tups, I.base.frzs, I.base.tbls⟩, ⟨_, ns, fun j y v' e1 e2 e3 => ?_⟩, fun y c e => ?_, I.free, I.freeC, fun p hp => ?_, hok, by simpa using I.len⟩
  · exact (hs.2 b (below_locals I e)).trans (I.base.keep b o e n hb hx)
  · obtain ⟨sl, e1⟩ := I.base.slot b o e n hb hx
    exact ⟨sl, (hs.2 b (below_locals I e)).trans e1⟩
  · obtain ⟨o', e1⟩ := I.base.there b o e hx
    exact ⟨o', (hs.2 b (below_locals I e)).trans e1⟩
  · by_cases hj : j = i
    · subst hj
      rw [List.getElem?_set_self hiσ] at e2
      cases e2
    · rw [List.getElem?_set_ne (Ne.symm hj)] at e2
      obtain ⟨u', r', q⟩ := hl j y v' e1 e2 e3
      refine ⟨u', r', ?_⟩
      rcases q with ⟨k, e⟩ | ⟨k, c, e, z⟩
      · refine .inl ⟨k, ?_⟩
        have : y ≠ n := fun e => hj (nodup_ix hN e1 (e ▸ hi))
        simp [this, e]
      · exact .inr ⟨k, c, e, z.sameBut hs (I.cne y c e)⟩
  · obtain ⟨w', z⟩ := I.cell y c e
    exact ⟨w', z.sameBut hs (I.cne y c e)⟩
  · obtain ⟨e, n, ne, nf, d⟩ := I.pin p hp
    exact ⟨(hs.2 p.1 ne).trans e, n, ne, nf, d⟩
noncomputable def Ends.hnd (D : Ends) (i : Nat) : Ends := { nx := fun σ' H2 => D.nx (σ'.set i none) H2, rt := fun _ _ => False }
theorem Fly.ea_ne (b : Body X) (f : Fly X pins σ H s H' s' ea C a0 B) : ea ∉ L2.frs X.stack := fun z => by
  obtain ⟨_, o, e1, _⟩ := f.pre.stack.mem z
  rw [f.nw] at e1
  cases e1
theorem Fly.catch {x n : Str} {Cc : Value} {np hpos : Pos} {hs : Stmt} {th : TS} {i : Nat} (b : Body X) (f : Fly X pins σ H s H' s' ea C a0 B) (hN : X.N.Nodup) (hi : X.N[i]? = some n) (hl : X.env.scope.names.lookup n = some .local)
    (hg : Gl X x) (hm : X.mg x = some Cc) (hd : (x == ("__debug__" : Str)) = false) (hx : PySem.W.exmOne X.K (.ref C) Cc = some true)
    (hh : ∀ oe : Obj, oe.cls = .ref C → PS (X.hand pins ea oe) hs th) (q : th (D.hnd i) (σ.set i (some (.ref ea))) H') :
    wpAny (model X.prog X.w) X.A (noteFrame (.ref ea) X.env) (fun _ s₂ => wpAny (model X.prog X.w) X.A (setFlight (.ref ea) none) (fun _ s₃ => wpAny (model X.prog X.w) X.A (handleBy (.ref ea) X.env [.ExceptHandler (some (.Name x np)) (some n) [hs] hpos]) (SP X pins D) X.xe s₃) X.xe s₂) X.xe s' := by
  have fl := f.fl
  rw [b.stk] at fl
  refine wpAny_looks_onW (by rw [← b.stk]; exact f.pre.ok.frames) b.fr fl fun h4 held up4 => ?_
  refine wpAny_landsW held fun h5 fl5 up5 => ?_
  rw [← b.stk] at fl5
  have f5 : Fly X pins σ H s H' { s' with heap := h5 } ea C a0 B := f.turn fl5 (up4.trans up5)
  have I5 := f5.inv
  have ne := f.ea_ne b
  rw [b.frs] at ne
  have ne1 : ea ≠ X.env.locals := fun z => ne (by rw [z]; exact List.mem_cons_self)
  have ne2 : ea ∉ X.fs := fun z => ne (List.mem_cons_of_mem _ z)
  have hand : ∀ {h : Heap} {σ : St} {s'' : Shared}, s''.heap = h → Inv X pins σ H' s'' → Heap.FlyingW B X.stack ea (.ref C) a0 h → ∃ oe : Obj, oe.cls = .ref C ∧ Inv (X.hand pins ea oe) [] σ H' s'' := fun {h σ s''} eh I fl => by
    obtain ⟨oe, vs, h1, h2, h3, _⟩ := fl.first
    subst eh
    exact ⟨oe, h2, I.hand h1 f.hn ne1 ne2 (by rw [h3]; exact nofun)⟩
  refine wpAny_handleBy_cons (codeAny_handlers_test ?_) (by intro z; cases z)
  obtain ⟨oe5, c5, J5⟩ := hand rfl I5 fl5
  refine ld_glob J5 hg hm ?_ hd
  refine (PySem.W.exm_one I5.kIn (excAt_ty _ _ (by obtain ⟨oe, vs, h1, h2, h3, _⟩ := fl5.first; exact ⟨oe, h1, h2⟩)) hx).here ?_
  refine codeAny_handlers_suite_as ?_
  refine lands_againW fl5 fun h6 fl6 up6 => ?_
  have f6 : Fly X pins σ H s H' { s' with heap := h6 } ea C a0 B := f5.turn fl6 up6
  obtain ⟨oe, c6, J6⟩ := hand rfl f6.inv fl6
  refine store_ok (X := X.hand pins ea oe) J6 hN hi (.inl hl) (show RelV (.ref ea) (.ref ea) from rfl) (fun s7 J7 => ?_) (.inr hl)
  refine wpAny_mono ((pss_one (hh oe c6)) [] s7 _ _ (D.hnd i) J7 q) (fun fl8 s8 h8 => ?_) (fun _ _ z => False.elim z)
  cases fl8 with
  | next =>
    obtain ⟨σ', H2, J8, q8⟩ := h8
    have I8 : Inv X pins σ' H2 s8 := J8.unhand f.pre.ok
    obtain ⟨m, hn, hlk⟩ := id I8.loc
    refine wpAny_nameGoes_keeps hl hn (by rw [I8.ok.kind]; rfl) fun h9 v ns same => ?_
    exact ⟨σ'.set i none, H2, I8.gone hN hi hn hlk ns same _, q8⟩
  | brk => obtain ⟨_, _, _, z⟩ := h8; exact z.elim
  | cont => obtain ⟨_, _, _, z⟩ := h8; exact z.elim
  | ret u => obtain ⟨_, _, _, _, _, z⟩ := h8; exact z.elim
theorem try_run {body : List Stmt} {hd : ExceptHandler} {pos : Pos}
    (hb : wpAny (model X.prog X.w) X.A (execs body X.env) (SP (X.pinned pins (fun e s₁ => wpAny (model X.prog X.w) X.A (noteFrame e X.env) (fun _ s₂ => wpAny (model X.prog X.w) X.A (setFlight e none) (fun _ s₃ => wpAny (model X.prog X.w) X.A (handleBy e X.env [hd]) (SP X pins D) X.xe s₃) X.xe s₂) X.xe s₁)) [] D)
      (fun e s₁ => wpAny (model X.prog X.w) X.A (noteFrame e X.env) (fun _ s₂ => wpAny (model X.prog X.w) X.A (setFlight e none) (fun _ s₃ => wpAny (model X.prog X.w) X.A (handleBy e X.env [hd]) (SP X pins D) X.xe s₃) X.xe s₂) X.xe s₁) s) :
    wpAny (model X.prog X.w) X.A (exec (.Try body [hd] [] [] pos) X.env) (SP X pins D) X.xe s := by
  refine wpAny_Try_except (wpAny_mono hb (fun f s₁ h₁ => ?_) fun _ _ z => z)
  have h₂ := h₁.unpinned
  cases f with
  | next => exact wpAny_execs_nil h₂
  | brk => exact h₂
  | cont => exact h₂
  | ret u => exact h₂
end
theorem Fun.okX {P : Program} {w : World} {K : PySem.W.Frag} {mg : Str → Option Value} {base : Heap} {CX : CXT} {x qual : Str} {st : Stmt} {f : Addr} {fd : FuncData} {N ps : List Str} {k : Nat} {sp : Sp} (F : Fun K x qual st f fd) (S : FnScope N ps (defScope st)) (len : ∀ vs H Q E, sp vs H Q E → vs.length = ps.length)
    (hbody : ∀ (cdv : Value) (A : Around) (outer : List Env) (s : Shared) (H : Hp) (vs : List V) (Q : VK) (E : XK), Room k (A.deeper (envOfC qual (defScope st) s.heap.objs.size f cdv)) → sp vs H Q E →
      ∃ t, PSs (cxOf CX P w K mg base N qual (defScope st) f cdv A outer s H E) (defBody st) t ∧ t { nx := fun _ H' => Q .non H', rt := Q } (start N vs) H) : FnOk P w K mg base CX (k + 1) f fd ps sp := by
  obtain ⟨oc, od, kV, doc, pm, an, cdv, ct, osl, rfl, lk, hcd⟩ := F.ex
  exact fn_of lk hcd S len fun A outer s H vs Q E hr hsp => hbody cdv A outer s H vs Q E hr hsp
end L2

namespace Mi
open PySem L2

inductive D where
  | non | bl (b : Bool) | int (i : Int) | str (x : Str) | tup (ds : List D) | loc (l : Nat) | kl (ds : List D)
  deriving Inhabited
inductive Obj where
  | lst (ds : List D) | dct (kvs : List (Int × D)) | ins (c : String) (fs : List (String × D))
  deriving Inhabited
noncomputable abbrev Store := List Obj
noncomputable abbrev En := List (Option D)
inductive Res (α : Type) where
  | ok (a : α) (S : Store) | err (c : String) (τ : En) (S : Store) | bad
noncomputable def Res.bind {α β : Type} (r : Res α) (f : α → Store → Res β) : Res β := match r with
  | .ok a S => f a S
  | .err c τ S => .err c τ S
  | .bad => .bad
@[simp] theorem Res.bind_ok {α β : Type} (a : α) (S : Store) (f : α → Store → Res β) : (Res.ok a S).bind f = f a S := rfl
@[simp] theorem Res.bind_err {α β : Type} (c : String) (τ : En) (S : Store) (f : α → Store → Res β) : (Res.err c τ S : Res α).bind f = .err c τ S := rfl
@[simp] theorem Res.bind_bad {α β : Type} (f : α → Store → Res β) : (Res.bad : Res α).bind f = .bad := rfl
theorem Res.bind_eq_ok {α β : Type} {r : Res α} {f : α → Store → Res β} {b : β} {S' : Store} (h : r.bind f = .ok b S') : ∃ a S, r = .ok a S ∧ f a S = .ok b S' := by
  cases r with
  | ok a S => exact ⟨a, S, rfl, h⟩
  | err c τ S => cases h
  | bad => cases h

theorem Res.bind_eq_err {α β : Type} {r : Res α} {f : α → Store → Res β} {c : String} {τ : En} {S' : Store} (h : r.bind f = .err c τ S') : r = .err c τ S' ∨ ∃ a S, r = .ok a S ∧ f a S = .err c τ S' := by
  cases r with
  | ok a S => exact .inr ⟨a, S, rfl, h⟩
  | err c τ S => exact .inl (by cases h; rfl)
  | bad => cases h
noncomputable def Res.kl {α : Type} (r : Res α) : Res α := match r with
  | .ok a S => .ok a S
  | _ => .bad
@[simp] theorem Res.kl_ok {α : Type} (a : α) (S : Store) : (Res.ok a S).kl = .ok a S := rfl
theorem Res.kl_eq_ok {α : Type} {r : Res α} {a : α} {S : Store} (h : r.kl = .ok a S) : r = .ok a S := by
  cases r <;> first | exact h | cases h
theorem Res.kl_ne {α : Type} {r : Res α} {c : String} {τ : En} {S : Store} : r.kl ≠ .err c τ S := by
  cases r <;> nofun
noncomputable def Res.at {α : Type} (τ : En) (r : Res α) : Res α := match r with
  | .ok a S => .ok a S
  | .err c _ S => .err c τ S
  | .bad => .bad
@[simp] theorem Res.at_ok {α : Type} (τ : En) (a : α) (S : Store) : (Res.ok a S).at τ = .ok a S := rfl
@[simp] theorem Res.at_err {α : Type} (c : String) (τ τ' : En) (S : Store) : (Res.err c τ' S : Res α).at τ = .err c τ S := rfl
theorem Res.at_eq_ok {α : Type} {τ : En} {r : Res α} {a : α} {S : Store} (h : r.at τ = .ok a S) : r = .ok a S := by
  cases r <;> first | exact h | cases h
theorem Res.at_eq_err {α : Type} {τ τ' : En} {r : Res α} {c : String} {S : Store} (h : r.at τ = .err c τ' S) : τ' = τ ∧ ∃ τ0, r = .err c τ0 S := by
  cases r with
  | ok a S => cases h
  | err c t S => cases h; exact ⟨rfl, _, rfl⟩
  | bad => cases h

noncomputable def Line : Nat := 16777216

inductive Bop where | add | mul | fdiv | mod | pow deriving DecidableEq
inductive Cop where | eq | ne | gt | inn deriving DecidableEq
inductive Prim where | len | int1 | list1 | max1 deriving DecidableEq
inductive Meth where | append deriving DecidableEq

noncomputable def scalV : D → Option V
  | .non => some .non
  | .bl b => some (.bl b)
  | .int i => some (.int i)
  | .str x => some (.str x)
  | _ => none
noncomputable def seqAt (S : Store) (l : Nat) : Option (List D) := match S[l]? with
  | some (.lst ds) => some ds
  | _ => none
noncomputable def dctAt (S : Store) (l : Nat) : Option (List (Int × D)) := match S[l]? with
  | some (.dct kvs) => some kvs
  | _ => none
noncomputable def dRd (S : Store) (l : Nat) : Option (List (Int × D)) := match S[l]? with
  | some (.dct kvs) => some kvs
  | _ => none
noncomputable def dVal (kvs : List (Int × D)) (k : Int) : Option D := (kvs.find? fun p => decide (p.1 = k)).map (·.2)
noncomputable def dPut (kvs : List (Int × D)) (k : Int) (v : D) : List (Int × D) := if kvs.any (fun p => decide (p.1 = k)) = true then kvs.map (fun p => if p.1 = k then (p.1, v) else p) else kvs ++ [(k, v)]
noncomputable def insAt (S : Store) (l : Nat) (c : String) : Option (List (String × D)) := match S[l]? with
  | some (.ins c' fs) => if c' = c then some fs else none
  | _ => none
noncomputable def rcv (S : Store) (x : D) : Bool := match x with | .loc l => (seqAt S l).isSome | _ => true
noncomputable def putD (f : String) (v : D) : List (String × D) → List (String × D)
  | [] => [(f, v)]
  | p :: r => if p.1 = f then (p.1, v) :: r else p :: putD f v r
noncomputable def fldAt (S : Store) (x : D) (c f : String) : Option D := match x with
  | .loc l => match insAt S l c with | some fs => fs.lookup f | none => none
  | _ => none
noncomputable def isRec (S : Store) (x : D) (c m : String) : Bool := match x with
  | .loc l => match insAt S l c with | some fs => (fs.lookup m).isNone | none => false
  | _ => false
noncomputable def setF (S : Store) (x : D) (c f : String) (v : D) : Option Store := match x with
  | .loc l => match insAt S l c with | some fs => if fs.length < 1000 then some (S.set l (.ins c (putD f v fs))) else none | none => none
  | _ => none
noncomputable def ltP (x y : D) : Option Bool := match x, y with
  | .tup [.int a, .int b], .tup [.int c, .int d] => some (decide (a < c) || (decide (a = c) && decide (b < d)))
  | _, _ => none
noncomputable def dIn (x y : D) (S : Store) : Option Bool := match x with
  | .int i => match y with
    | .loc l => match dRd S l with | some kvs => some (dVal kvs i).isSome | none => none
    | _ => none
  | _ => none
noncomputable def eqL (f : D → D → Option Bool) : List D → List D → Option Bool
  | [], [] => some true
  | a :: as, b :: bs => match f a b, eqL f as bs with
    | some x, some y => some (x && y)
    | _, _ => none
  | _, _ => some false
noncomputable def eqD (S : Store) : Nat → D → D → Option Bool
  | 0, a, b => match scalV a, scalV b with
    | some x, some y => some (eqV x y)
    | _, _ => none
  | n + 1, a, b => match a, b with
    | .tup as, .tup bs => if as.length = bs.length then eqL (eqD S n) as bs else (if (eqL (eqD S n) (as.take bs.length) (bs.take as.length)).isSome then some false else none)
    | .loc l, .loc k => match seqAt S l, seqAt S k with
      | some as, some bs => if as.length = bs.length then eqL (eqD S n) as bs else some false
      | _, _ => none
    | a, b => match scalV a, scalV b with
      | some x, some y => some (eqV x y)
      | _, _ => none
noncomputable def Deep : Nat := 12
noncomputable def anyEq (S : Store) (n : Nat) (x : D) : List D → Option Bool
  | [] => some false
  | y :: ys => match eqD S n y x, anyEq S n x ys with
    | some a, some b => some (a || b)
    | _, _ => none

noncomputable def small (i : Int) : Bool := decide (-(2 ^ 64) < i) && decide (i < 2 ^ 64)
noncomputable def mid (i : Int) : Bool := decide (i.natAbs < 2 ^ 4096)
noncomputable def bop (o : Bop) (x y : D) (S : Store) : Res D := match o, x, y with
  | .add, .int i, .int j => .ok (.int (i + j)) S
  | .add, .loc l, .loc k => match S[l]?, S[k]? with
    | some (.lst a), some (.lst b) => if a.length + b.length ≤ Line then .ok (.loc S.length) (S ++ [.lst (a ++ b)]) else .bad
    | _, _ => .bad
  | .mul, .int i, .int j => if small i || small j || (mid i && mid j) then .ok (.int (i * j)) S else .bad
  | .fdiv, .int i, .int j => if 0 < j ∧ j.natAbs < 2 ^ 4096 then .ok (.int (i / j)) S else .bad
  | .mod, .int i, .int j => if 0 < j then .ok (.int (i % j)) S else .bad
  | .pow, .int i, .int j => if decide (0 ≤ j) && decide (j ≤ 1000000) && decide (i.natAbs < 2 ^ 64) then .ok (.int (i ^ j.toNat)) S else .bad
  | .add, .kl a, .loc k => match S[k]? with
    | some (.lst b) => if a.length + b.length ≤ Line then .ok (.loc S.length) (S ++ [.lst (a ++ b)]) else .bad
    | _ => .bad
  | _, _, _ => .bad
noncomputable def seqOf (S : Store) : D → Option (List D)
  | .tup ds => some ds
  | .loc l => seqAt S l
  | .kl ds => some ds
  | _ => none
noncomputable def cop (o : Cop) (x y : D) (S : Store) : Option Bool := match o with
  | .eq => eqD S Deep x y
  | .ne => (eqD S Deep x y).map (!·)
  | .gt => match x, y with | .int i, .int j => some (decide (j < i)) | _, _ => none
  | .inn => match seqOf S y with | some ds => anyEq S Deep x ds | none => dIn x y S
noncomputable def tru (S : Store) : D → Option Bool
  | .non => some false
  | .bl b => some b
  | .int i => some (i != 0)
  | .str x => if x.length ≤ Line then some ((x.length : Int) != 0) else none
  | .tup ds => some (!ds.isEmpty)
  | .loc l => match seqAt S l with | some ds => some (!ds.isEmpty) | none => none
  | .kl ds => some (!ds.isEmpty)
noncomputable def idxD (x y : D) (S : Store) : Option D := match y with
  | .int i => match seqOf S x with
    | some ds => atI ds i
    | none => match x with
      | .str z => if z.length ≤ Line then (atI z.cps.toList i).map fun c => .str ⟨#[c]⟩ else none
      | .loc l => match dRd S l with | some kvs => dVal kvs i | none => none
      | _ => none
  | _ => none
noncomputable def cutD (xs : List D) (lo hi : Option Int) : List D := (xs.drop (HT.sIx xs.length 0 lo)).take (HT.sIx xs.length xs.length hi - HT.sIx xs.length 0 lo)
noncomputable def sliD (x : D) (lo hi : Option Int) (S : Store) : Res D := match x with
  | .loc l => match seqAt S l with
    | some ds => .ok (.loc S.length) (S ++ [.lst (cutD ds lo hi)])
    | none => .bad
  | .kl ds => .ok (.loc S.length) (S ++ [.lst (cutD ds lo hi)])
  | _ => .bad
noncomputable def tyD (S : Store) : D → Option String
  | .non => some "NoneType"
  | .bl _ => some "bool"
  | .int _ => some "int"
  | .str _ => some "str"
  | .tup _ => some "tuple"
  | .loc l => match S[l]? with | some (.lst _) => some "list" | _ => none
  | .kl _ => none
noncomputable def isiD (t c : String) : Bool := t == c || (t == "bool" && c == "int")
noncomputable def maxI : List D → Option Int
  | [] => none
  | .int i :: r => match r with
    | [] => some i
    | _ :: _ => (maxI r).map fun m => if i < m then m else i
  | _ => none
noncomputable def primD (p : Prim) (ds : List D) (S : Store) : Res D := match p, ds with
  | .len, [x] => match seqOf S x with
    | some ds => .ok (.int ds.length) S
    | none => match x with | .str z => if z.length ≤ Line then .ok (.int z.length) S else .bad | _ => .bad
  | .int1, [.int i] => .ok (.int i) S
  | .int1, [.bl b] => .ok (.int (if b then 1 else 0)) S
  | .list1, [x] => match x with
      | .loc l => match dctAt S l with | some kvs => .ok (.loc S.length) (S ++ [.lst (kvs.map fun p => .int p.1)]) | none => .bad
      | _ => .bad
  | .max1, [.loc l] => match seqAt S l with | some ds => (match maxI ds with | some b => .ok (.int b) S | none => .bad) | none => .bad
  | _, _ => .bad
noncomputable def methD (p : Meth) (o : D) (ds : List D) (S : Store) : Res D := match p, o, ds with
  | .append, .loc l, [y] => match S[l]? with
    | some (.lst xs) => if xs.length < Line then .ok .non (S.set l (.lst (xs ++ [y]))) else .bad
    | _ => .bad
  | _, _, _ => .bad

inductive M where
  | nul | cns (a b : M)
  | cst (d : D) | var (i : Nat) | glb (x : String)
  | bin (o : Bop) (a b : M) | neg (a : M) | nott (a : M) | bo (w : Bool) (as : M)
  | cmp (o : Cop) (a b : M)
  | tup (as : M) | lst (as : M) | idx (a b : M) | sli (a lo hi : M)
  | call (f : String) (as : M) | prim (p : Prim) (as : M) | isi (a : M) (t : String) | meth (p : Meth) (o as : M)
  | comp (N : List String) (k : Nat) (keep : List Nat) (tg it cd el : M)
   | revl (a : M) | enm (a : M)
  | dnil | dlit (k v : M) | fld (c f : String) (a : M) | mcl (c m f : String) (o as : M) | new (c f : String) | mink (c m f : String) (o a b : M)
  | tvar (i : Nat) | ttup (ts : M) | tsub (a b : M)
  | asg (t e : M) | ifs (c a b : M) | forr (t i b : M) | whl (c b : M) | ret (e : M) | exp (e : M) | rse | sfd (c f : String) (o v : M) | ifx (c a b : M) | rsx (c : String) | rtk (e : M) | asx (i : Nat) (f : String) (a : M) | tri (b : M) (x : String) (n j : Nat) (ts : List String) (tab : List (String × List Bool)) | exx (e : M) | asq (i : Nat) (e : M) | rtx (e : M) | whx (c b : M) | kls (s : M)
inductive Fl where
  | nx (τ : En) | rt (d : D) | bk (τ : En) | ct (τ : En)
structure Pr where
  call : String → List D → Store → Res D
  glob : String → Option D
  W : Nat

noncomputable def setS (o i v : D) (S : Store) : Res Unit := match o, i with
  | .loc l, .int k => match S[l]? with
    | some (.lst xs) => match ixN xs.length k with
      | some j => .ok () (S.set l (.lst (xs.set j v)))
      | none => .bad
    | some (.dct kvs) => if kvs.length < Line then .ok () (S.set l (.dct (dPut kvs k v))) else .bad
    | _ => .bad
  | _, _ => .bad
inductive Kd where | lst | enm
noncomputable abbrev Wk := Option (Nat × Kd)
noncomputable def sameAt (S : Store) (g : Wk) (n : Nat) : Bool := match g with
  | none => true
  | some (l, _) => match S[l]? with
    | some (.lst ds) => ds.length == n
    | _ => false
noncomputable def nth (S : Store) (g : Wk) (ds : List D) (i : Nat) : Option D := match g with
  | none => ds[i]?
  | some (l, .enm) => match seqAt S l with
    | some es => (es[i]?).map fun x => .tup [.int i, x]
    | none => none
  | some (l, .lst) => match seqAt S l with
    | some es => es[i]?
    | none => none
noncomputable def triD (n j : Nat) (tab : List (String × List Bool)) (r : Res Fl) : Res Fl := match r with
  | .ok fl S => .ok fl S
  | .err c τ S => (match tab.lookup c with
    | some bs => if decide (n < τ.length) && decide (j < τ.length) && (n != j) && decide (bs.length ≤ Line) then .ok (.nx ((τ.set n none).set j (some (.loc S.length)))) (S ++ [.lst (bs.map .bl)]) else .bad
    | none => .bad)
  | .bad => .bad
noncomputable def forL (turn : D → En → Store → Res Fl) (g : Wk) (ds : List D) : Nat → Nat → En → Store → Res Fl
  | 0, i, τ, S => if sameAt S g ds.length then .ok (.nx τ) S else .bad
  | f + 1, i, τ, S => if sameAt S g ds.length then (match nth S g ds i with
      | none => .bad
      | some d => (turn d τ S).bind fun fl S1 => match fl with
        | .nx τ1 => forL turn g ds f (i + 1) τ1 S1
        | .ct τ1 => forL turn g ds f (i + 1) τ1 S1
        | .bk τ1 => .ok (.nx τ1) S1
        | .rt d => .ok (.rt d) S1) else .bad
noncomputable def compL (turn : D → En → Store → Res (Option D)) (g : Wk) (ds : List D) : Nat → Nat → En → Store → List D → Res (List D)
  | 0, i, τ, S, acc => if sameAt S g ds.length then .ok acc S else .bad
  | f + 1, i, τ, S, acc => if sameAt S g ds.length then (match nth S g ds i with
      | none => .bad
      | some d => (turn d τ S).bind fun o S1 => match o with
        | some y => if acc.length < Line then compL turn g ds f (i + 1) τ S1 (acc ++ [y]) else .bad
        | none => compL turn g ds f (i + 1) τ S1 acc) else .bad
noncomputable def whlL (test : En → Store → Res Bool) (body : En → Store → Res Fl) : Nat → En → Store → Res Fl
  | 0, _, _ => .bad
  | n + 1, τ, S => (test τ S).bind fun b S1 => if b then (body τ S1).bind fun fl S2 => match fl with
      | .nx τ1 => whlL test body n τ1 S2
      | .ct τ1 => whlL test body n τ1 S2
      | .bk τ1 => .ok (.nx τ1) S2
      | .rt d => .ok (.rt d) S2 else .ok (.nx τ) S1
noncomputable def inEn (k : Nat) (keep : List Nat) (τ : En) : En := List.replicate k none ++ keep.map fun i => (τ[i]?).join
mutual
noncomputable def evE (C : Pr) : M → En → Store → Res D
  | .cst d, _, S => .ok d S
  | .var i, τ, S => match τ[i]? with | some (some d) => .ok d S | _ => .bad
  | .glb x, _, S => match C.glob x with | some d => .ok d S | none => .bad
  | .bin o a b, τ, S => (evE C a τ S).bind fun x S1 => (evE C b τ S1).bind fun y S2 => bop o x y S2
  | .neg a, τ, S => (evE C a τ S).bind fun x S1 => match x with | .int i => .ok (.int (-i)) S1 | _ => .bad
  | .nott a, τ, S => (evE C a τ S).bind fun x S1 => match tru S1 x with | some b => .ok (.bl (!b)) S1 | none => .bad
  | .bo w as, τ, S => evBV C w as τ S
  | .cmp o a b, τ, S => (evE C a τ S).bind fun x S1 => (evE C b τ S1).bind fun y S2 => match cop o x y S2 with | some k => .ok (.bl k) S2 | none => .bad
  | .tup as, τ, S => (evA C as τ S).bind fun ds S1 => if ds.length ≤ Line then .ok (.tup ds) S1 else .bad
  | .lst as, τ, S => (evA C as τ S).bind fun ds S1 => if ds.length ≤ Line then .ok (.loc S1.length) (S1 ++ [.lst ds]) else .bad
  | .idx a b, τ, S => (evE C a τ S).bind fun x S1 => (evE C b τ S1).bind fun y S2 => match idxD x y S2 with | some d => .ok d S2 | none => .bad
  | .sli a lo hi, τ, S => (evE C a τ S).bind fun x S1 => (evO C lo τ S1).bind fun l S2 => (evO C hi τ S2).bind fun h S3 => sliD x l h S3
  | .call f as, τ, S => (evA C as τ S).bind fun ds S1 => C.call f ds S1
  | .prim p as, τ, S => (evA C as τ S).bind fun ds S1 => primD p ds S1
  | .isi a t, τ, S => (evE C a τ S).bind fun x S1 => match tyD S1 x with | some y => .ok (.bl (isiD y t)) S1 | none => .bad
  | .meth p o as, τ, S => (evE C o τ S).bind fun x S1 => if rcv S1 x then (evA C as τ S1).bind fun ds S2 => methD p x ds S2 else .bad
  | .comp N k keep tg it cd el, τ, S => (evI C it τ S).bind fun w S1 =>
      (compL (fun d τ1 S2 => (evG C tg d τ1 S2).bind fun τ2 S3 => (evC C cd τ2 S3).bind fun b S4 => if b then (evE C el τ2 S4).bind fun y S5 => .ok (some y) S5 else .ok none S4) w.1 w.2 w.2.length 0 (inEn k keep τ) S1 []).bind
        fun ys S6 => .ok (.loc S6.length) (S6 ++ [.lst ys])
  | .revl a, τ, S => (evE C a τ S).bind fun x S1 => match x with | .loc l => (match seqAt S1 l with | some ds => .ok (.loc S1.length) (S1 ++ [.lst ds.reverse]) | none => .bad) | _ => .bad
  | .dnil, _, S => .ok (.loc S.length) (S ++ [.dct []])
  | .dlit k v, τ, S => (evE C k τ (S ++ [.dct []])).bind fun x S1 => (evE C v τ S1).bind fun y S2 => match x with
    | .int i => (match dctAt S2 S.length with | some [] => .ok (.loc S.length) (S2.set S.length (.dct [(i, y)])) | _ => .bad)
    | _ => .bad
  | .fld c f a, τ, S => (evE C a τ S).bind fun x S1 => match fldAt S1 x c f with | some d => .ok d S1 | none => .bad
  | .mcl c m f o as, τ, S => (evE C o τ S).bind fun x S1 => if isRec S1 x c m then (evA C as τ S1).bind fun ds S2 => C.call f (x :: ds) S2 else .bad
  | .new c f, _, S => (C.call f [.loc S.length] (S ++ [.ins c []])).bind fun d S1 => match d with | .non => .ok (.loc S.length) S1 | _ => .bad
  | .mink c m f o a b, τ, S => (evE C a τ S).bind fun x S1 => (evE C b τ S1).bind fun y S2 => (evE C o τ S2).bind fun r S3 => if isRec S3 r c m then (C.call f [r, x] S3).bind fun u S4 => (C.call f [r, y] S4).bind fun v S5 =>
      match ltP v u with | some k => .ok (if k then y else x) S5 | none => .bad else .bad
  | _, _, _ => .bad
noncomputable def evT (C : Pr) : M → En → Store → Res Bool
  | .nott a, τ, S => (evT C a τ S).bind fun b S1 => .ok (!b) S1
  | .bo w as, τ, S => evBT C w as τ S
  | .cmp o a b, τ, S => (evE C a τ S).bind fun x S1 => (evE C b τ S1).bind fun y S2 => match cop o x y S2 with | some k => .ok k S2 | none => .bad
  | .var i, τ, S => match τ[i]? with | some (some d) => (match tru S d with | some b => .ok b S | none => .bad) | _ => .bad
  | .idx a b, τ, S => (evE C a τ S).bind fun x S1 => (evE C b τ S1).bind fun y S2 => match idxD x y S2 with | some d => (match tru S2 d with | some b => .ok b S2 | none => .bad) | none => .bad
  | .call f as, τ, S => (evA C as τ S).bind fun ds S1 => (C.call f ds S1).bind fun d S2 => match tru S2 d with | some b => .ok b S2 | none => .bad
  | .prim p as, τ, S => (evA C as τ S).bind fun ds S1 => (primD p ds S1).bind fun d S2 => match tru S2 d with | some b => .ok b S2 | none => .bad
  | .isi a t, τ, S => (evE C a τ S).bind fun x S1 => match tyD S1 x with | some y => .ok (isiD y t) S1 | none => .bad
  | .mcl c m f o as, τ, S => (evE C o τ S).bind fun x S1 => if isRec S1 x c m then (evA C as τ S1).bind fun ds S2 => (C.call f (x :: ds) S2).bind fun d S3 => match tru S3 d with | some b => .ok b S3 | none => .bad else .bad
  | _, _, _ => .bad
noncomputable def evBV (C : Pr) (w : Bool) : M → En → Store → Res D
  | .cns a .nul, τ, S => evE C a τ S
  | .cns a r, τ, S => (evE C a τ S).bind fun x S1 => match x with | .bl c => if c = w then evBV C w r τ S1 else .ok (.bl (!w)) S1 | _ => .bad
  | _, _, _ => .bad
noncomputable def evBT (C : Pr) (w : Bool) : M → En → Store → Res Bool
  | .cns a .nul, τ, S => evT C a τ S
  | .cns a r, τ, S => (evT C a τ S).bind fun c S1 => if c = w then evBT C w r τ S1 else .ok (!w) S1
  | _, _, _ => .bad
noncomputable def evC (C : Pr) : M → En → Store → Res Bool
  | .nul, _, S => .ok true S
  | .cns c .nul, τ, S => evT C c τ S
  | _, _, _ => .bad
noncomputable def evA (C : Pr) : M → En → Store → Res (List D)
  | .nul, _, S => .ok [] S
  | .cns a b, τ, S => (evE C a τ S).bind fun x S1 => (evA C b τ S1).bind fun xs S2 => .ok (x :: xs) S2
  | _, _, _ => .bad
noncomputable def evO (C : Pr) : M → En → Store → Res (Option Int)
  | .nul, _, S => .ok none S
  | .cns a .nul, τ, S => (evE C a τ S).bind fun x S1 => match x with | .int i => .ok (some i) S1 | _ => .bad
  | _, _, _ => .bad
noncomputable def evI (C : Pr) : M → En → Store → Res (Wk × List D)
  | .cns a .nul, τ, S => (evE C a τ S).bind fun x S1 => match x with
    | .loc l => (match seqAt S1 l with | some ds => .ok (some (l, .lst), ds) S1 | none => .bad)
    | _ => .bad
  | .enm a, τ, S => (evE C a τ S).bind fun x S1 => match x with
    | .loc l => (match seqAt S1 l with | some ds => .ok (some (l, .enm), ds) S1 | none => .bad)
    | _ => .bad
  | _, _, _ => .bad
noncomputable def evG (C : Pr) : M → D → En → Store → Res En
  | .tvar i, d, τ, S => if i < τ.length then .ok (τ.set i (some d)) S else .bad
  | .ttup ts, d, τ, S => match d with | .tup ds => evGs C ts ds τ S | _ => .bad
  | .tsub a b, d, τ, S => (evE C a τ S).bind fun o S1 => (evE C b τ S1).bind fun i S2 => (setS o i d S2).bind fun _ S3 => .ok τ S3
  | _, _, _, _ => .bad
noncomputable def evGs (C : Pr) : M → List D → En → Store → Res En
  | .nul, ds, τ, S => match ds with | [] => .ok τ S | _ => .bad
  | .cns t ts, ds, τ, S => match ds with | d :: r => (evG C t d τ S).bind fun τ1 S1 => evGs C ts r τ1 S1 | [] => .bad
  | _, _, _, _ => .bad
noncomputable def evS (C : Pr) : M → En → Store → Res Fl
  | .asg t e, τ, S => (evE C e τ S).bind fun d S1 => (evG C t d τ S1).bind fun τ1 S2 => .ok (.nx τ1) S2
  | .ifs c a b, τ, S => (evT C c τ S).bind fun k S1 => if k then evB C a τ S1 else evB C b τ S1
  | .forr t i b, τ, S => (evI C i τ S).bind fun w S1 => forL (fun d τ1 S2 => (evG C t d τ1 S2).bind fun τ2 S3 => evB C b τ2 S3) w.1 w.2 w.2.length 0 τ S1
  | .whl c b, τ, S => whlL (evT C c) (evB C b) C.W τ S
  | .ret e, τ, S => (evE C e τ S).bind fun d S1 => .ok (.rt d) S1
  | .exp e, τ, S => (evE C e τ S).bind fun _ S1 => .ok (.nx τ) S1
  | .ifx c a b, τ, S => (evT C c τ S).kl.bind fun k S1 => if k then evB C a τ S1 else evB C b τ S1
  | .rsx c, τ, S => .err c τ S
  | .rtk e, τ, S => (evE C e τ S).kl.bind fun d S1 => .ok (.rt d) S1
  | .asx i f a, τ, S => (evE C a τ S).kl.bind fun d S1 => ((C.call f [d] S1).at τ).bind fun y S2 => if i < τ.length then .ok (.nx (τ.set i (some y))) S2 else .bad
  | .tri b _ n j _ tab, τ, S => triD n j tab (evB C b τ S)
  | .exx e, τ, S => ((evE C e τ S).at τ).bind fun _ S1 => .ok (.nx τ) S1
  | .asq i e, τ, S => ((evE C e τ S).at τ).bind fun y S1 => if i < τ.length then .ok (.nx (τ.set i (some y))) S1 else .bad
  | .rtx e, τ, S => ((evE C e τ S).at τ).bind fun d S1 => .ok (.rt d) S1
  | .kls s, τ, S => (evS C s τ S).kl
  | .whx c b, τ, S => whlL (fun τ S => (evT C c τ S).at τ) (evB C b) C.W τ S
  | .sfd c f o v, τ, S => (evE C v τ S).bind fun y S1 => (evE C o τ S1).bind fun x S2 => match setF S2 x c f y with | some S3 => .ok (.nx τ) S3 | none => .bad
  | _, _, _ => .bad
noncomputable def evB (C : Pr) : M → En → Store → Res Fl
  | .nul, τ, S => .ok (.nx τ) S
  | .cns s r, τ, S => (evS C s τ S).bind fun fl S1 => match fl with
    | .nx τ1 => evB C r τ1 S1
    | .rt d => .ok (.rt d) S1
    | .bk τ1 => .ok (.bk τ1) S1
    | .ct τ1 => .ok (.ct τ1) S1
  | _, _, _ => .bad
end
structure Fn where
  ps : List String
  N : List String
  body : M
noncomputable abbrev Tb := String → Option Fn
noncomputable def callN (T : Tb) (G : String → Option D) (W : Nat) : Nat → String → List D → Store → Res D
  | 0, _, _, _ => .bad
  | n + 1, f, ds, S => match T f with
    | none => .bad
    | some F => if ds.length = F.ps.length then (evB ⟨callN T G W n, G, W⟩ F.body (ds.map some ++ List.replicate (F.N.length - ds.length) none) S).bind fun fl S1 => match fl with
        | .rt d => .ok d S1
        | .nx _ => .ok .non S1
        | _ => .bad
      else .bad
theorem bad_ne {α : Type} {d : α} {S : Store} : ¬ (Res.bad : Res α) = .ok d S := nofun
theorem rbop_0 : bop (.add) (.int i) (.int j) S = (.ok (.int (i + j)) S) := rfl
theorem rbop_3 : bop (.add) (.loc l) (.loc k) S = (match S[l]?, S[k]? with
    | some (.lst a), some (.lst b) => if a.length + b.length ≤ Line then .ok (.loc S.length) (S ++ [.lst (a ++ b)]) else .bad
    | _, _ => .bad) := rfl
theorem rbop_5 : bop (.mul) (.int i) (.int j) S = (if small i || small j || (mid i && mid j) then .ok (.int (i * j)) S else .bad) := rfl
theorem rbop_8 : bop (.fdiv) (.int i) (.int j) S = (if 0 < j ∧ j.natAbs < 2 ^ 4096 then .ok (.int (i / j)) S else .bad) := rfl
theorem rbop_9 : bop (.mod) (.int i) (.int j) S = (if 0 < j then .ok (.int (i % j)) S else .bad) := rfl
theorem rbop_10 : bop (.pow) (.int i) (.int j) S = (if decide (0 ≤ j) && decide (j ≤ 1000000) && decide (i.natAbs < 2 ^ 64) then .ok (.int (i ^ j.toNat)) S else .bad) := rfl
theorem rbop_11 : bop (.add) (.kl a) (.loc k) S = (match S[k]? with
    | some (.lst b) => if a.length + b.length ≤ Line then .ok (.loc S.length) (S ++ [.lst (a ++ b)]) else .bad
    | _ => .bad) := rfl
theorem rprimD_0 : primD (.len) ([x]) S = (match seqOf S x with
    | some ds => .ok (.int ds.length) S
    | none => match x with | .str z => if z.length ≤ Line then .ok (.int z.length) S else .bad | _ => .bad) := rfl
theorem rprimD_4 : primD (.int1) ([.int i]) S = (.ok (.int i) S) := rfl
theorem rprimD_5 : primD (.int1) ([.bl b]) S = (.ok (.int (if b then 1 else 0)) S) := rfl
theorem rprimD_7 : primD (.list1) ([x]) S = (match x with
      | .loc l => match dctAt S l with | some kvs => .ok (.loc S.length) (S ++ [.lst (kvs.map fun p => .int p.1)]) | none => .bad
      | _ => .bad) := rfl
theorem rprimD_13 : primD (.max1) ([.loc l]) S = (match seqAt S l with | some ds => (match maxI ds with | some b => .ok (.int b) S | none => .bad) | none => .bad) := rfl
theorem rmethD_0 : methD (.append) (.loc l) ([y]) S = (match S[l]? with
    | some (.lst xs) => if xs.length < Line then .ok .non (S.set l (.lst (xs ++ [y]))) else .bad
    | _ => .bad) := rfl
theorem revE_0 : evE C (.cst d) (u1') (S) = (.ok d S) := rfl
theorem revE_1 : evE C (.var i) (τ) (S) = (match τ[i]? with | some (some d) => .ok d S | _ => .bad) := rfl
theorem revE_2 : evE C (.glb x) (u1') (S) = (match C.glob x with | some d => .ok d S | none => .bad) := rfl
theorem revE_3 : evE C (.bin o a b) (τ) (S) = ((evE C a τ S).bind fun x S1 => (evE C b τ S1).bind fun y S2 => bop o x y S2) := rfl
theorem revE_4 : evE C (.neg a) (τ) (S) = ((evE C a τ S).bind fun x S1 => match x with | .int i => .ok (.int (-i)) S1 | _ => .bad) := rfl
theorem revE_5 : evE C (.nott a) (τ) (S) = ((evE C a τ S).bind fun x S1 => match tru S1 x with | some b => .ok (.bl (!b)) S1 | none => .bad) := rfl
theorem revE_6 : evE C (.bo w as) (τ) (S) = (evBV C w as τ S) := rfl
theorem revE_7 : evE C (.cmp o a b) (τ) (S) = ((evE C a τ S).bind fun x S1 => (evE C b τ S1).bind fun y S2 => match cop o x y S2 with | some k => .ok (.bl k) S2 | none => .bad) := rfl
theorem revE_10 : evE C (.tup as) (τ) (S) = ((evA C as τ S).bind fun ds S1 => if ds.length ≤ Line then .ok (.tup ds) S1 else .bad) := rfl
theorem revE_11 : evE C (.lst as) (τ) (S) = ((evA C as τ S).bind fun ds S1 => if ds.length ≤ Line then .ok (.loc S1.length) (S1 ++ [.lst ds]) else .bad) := rfl
theorem revE_12 : evE C (.idx a b) (τ) (S) = ((evE C a τ S).bind fun x S1 => (evE C b τ S1).bind fun y S2 => match idxD x y S2 with | some d => .ok d S2 | none => .bad) := rfl
theorem revE_13 : evE C (.sli a lo hi) (τ) (S) = ((evE C a τ S).bind fun x S1 => (evO C lo τ S1).bind fun l S2 => (evO C hi τ S2).bind fun h S3 => sliD x l h S3) := rfl
theorem revE_14 : evE C (.call f as) (τ) (S) = ((evA C as τ S).bind fun ds S1 => C.call f ds S1) := rfl
theorem revE_15 : evE C (.prim p as) (τ) (S) = ((evA C as τ S).bind fun ds S1 => primD p ds S1) := rfl
theorem revE_16 : evE C (.isi a t) (τ) (S) = ((evE C a τ S).bind fun x S1 => match tyD S1 x with | some y => .ok (.bl (isiD y t)) S1 | none => .bad) := rfl
theorem revE_17 : evE C (.meth p o as) (τ) (S) = ((evE C o τ S).bind fun x S1 => if rcv S1 x then (evA C as τ S1).bind fun ds S2 => methD p x ds S2 else .bad) := rfl
theorem revE_18 : evE C (.comp N k keep tg it cd el) (τ) (S) = ((evI C it τ S).bind fun w S1 =>
      (compL (fun d τ1 S2 => (evG C tg d τ1 S2).bind fun τ2 S3 => (evC C cd τ2 S3).bind fun b S4 => if b then (evE C el τ2 S4).bind fun y S5 => .ok (some y) S5 else .ok none S4) w.1 w.2 w.2.length 0 (inEn k keep τ) S1 []).bind
        fun ys S6 => .ok (.loc S6.length) (S6 ++ [.lst ys])) := rfl
theorem revE_19 : evE C (.revl a) (τ) (S) = ((evE C a τ S).bind fun x S1 => match x with | .loc l => (match seqAt S1 l with | some ds => .ok (.loc S1.length) (S1 ++ [.lst ds.reverse]) | none => .bad) | _ => .bad) := rfl
theorem revE_20 : evE C (.dnil) (u1') (S) = (.ok (.loc S.length) (S ++ [.dct []])) := rfl
theorem revE_21 : evE C (.dlit k v) (τ) (S) = ((evE C k τ (S ++ [.dct []])).bind fun x S1 => (evE C v τ S1).bind fun y S2 => match x with
    | .int i => (match dctAt S2 S.length with | some [] => .ok (.loc S.length) (S2.set S.length (.dct [(i, y)])) | _ => .bad)
    | _ => .bad) := rfl
theorem revE_22 : evE C (.fld c f a) (τ) (S) = ((evE C a τ S).bind fun x S1 => match fldAt S1 x c f with | some d => .ok d S1 | none => .bad) := rfl
theorem revE_23 : evE C (.mcl c m f o as) (τ) (S) = ((evE C o τ S).bind fun x S1 => if isRec S1 x c m then (evA C as τ S1).bind fun ds S2 => C.call f (x :: ds) S2 else .bad) := rfl
theorem revE_24 : evE C (.new c f) (u1') (S) = ((C.call f [.loc S.length] (S ++ [.ins c []])).bind fun d S1 => match d with | .non => .ok (.loc S.length) S1 | _ => .bad) := rfl
theorem revE_25 : evE C (.mink c m f o a b) (τ) (S) = ((evE C a τ S).bind fun x S1 => (evE C b τ S1).bind fun y S2 => (evE C o τ S2).bind fun r S3 => if isRec S3 r c m then (C.call f [r, x] S3).bind fun u S4 => (C.call f [r, y] S4).bind fun v S5 =>
      match ltP v u with | some k => .ok (if k then y else x) S5 | none => .bad else .bad) := rfl
theorem revT_0 : evT C (.nott a) (τ) (S) = ((evT C a τ S).bind fun b S1 => .ok (!b) S1) := rfl
theorem revT_1 : evT C (.bo w as) (τ) (S) = (evBT C w as τ S) := rfl
theorem revT_2 : evT C (.cmp o a b) (τ) (S) = ((evE C a τ S).bind fun x S1 => (evE C b τ S1).bind fun y S2 => match cop o x y S2 with | some k => .ok k S2 | none => .bad) := rfl
theorem revT_4 : evT C (.var i) (τ) (S) = (match τ[i]? with | some (some d) => (match tru S d with | some b => .ok b S | none => .bad) | _ => .bad) := rfl
theorem revT_5 : evT C (.idx a b) (τ) (S) = ((evE C a τ S).bind fun x S1 => (evE C b τ S1).bind fun y S2 => match idxD x y S2 with | some d => (match tru S2 d with | some b => .ok b S2 | none => .bad) | none => .bad) := rfl
theorem revT_6 : evT C (.call f as) (τ) (S) = ((evA C as τ S).bind fun ds S1 => (C.call f ds S1).bind fun d S2 => match tru S2 d with | some b => .ok b S2 | none => .bad) := rfl
theorem revT_7 : evT C (.prim p as) (τ) (S) = ((evA C as τ S).bind fun ds S1 => (primD p ds S1).bind fun d S2 => match tru S2 d with | some b => .ok b S2 | none => .bad) := rfl
theorem revT_8 : evT C (.isi a t) (τ) (S) = ((evE C a τ S).bind fun x S1 => match tyD S1 x with | some y => .ok (isiD y t) S1 | none => .bad) := rfl
theorem revT_9 : evT C (.mcl c m f o as) (τ) (S) = ((evE C o τ S).bind fun x S1 => if isRec S1 x c m then (evA C as τ S1).bind fun ds S2 => (C.call f (x :: ds) S2).bind fun d S3 => match tru S3 d with | some b => .ok b S3 | none => .bad else .bad) := rfl
theorem revBV_0 : evBV C w (.cns a .nul) (τ) (S) = (evE C a τ S) := rfl
theorem revBV_1 : evBV C w (.cns a (.cns a2 r2)) (τ) (S) = ((evE C a τ S).bind fun x S1 => match x with | .bl c => if c = w then evBV C w (.cns a2 r2) τ S1 else .ok (.bl (!w)) S1 | _ => .bad) := rfl
theorem revBT_0 : evBT C w (.cns a .nul) (τ) (S) = (evT C a τ S) := rfl
theorem revBT_1 : evBT C w (.cns a (.cns a2 r2)) (τ) (S) = ((evT C a τ S).bind fun c S1 => if c = w then evBT C w (.cns a2 r2) τ S1 else .ok (!w) S1) := rfl
theorem revC_0 : evC C (.nul) (u1') (S) = (.ok true S) := rfl
theorem revC_1 : evC C (.cns c .nul) (τ) (S) = (evT C c τ S) := rfl
theorem revA_0 : evA C (.nul) (u1') (S) = (.ok [] S) := rfl
theorem revA_1 : evA C (.cns a b) (τ) (S) = ((evE C a τ S).bind fun x S1 => (evA C b τ S1).bind fun xs S2 => .ok (x :: xs) S2) := rfl
theorem revO_0 : evO C (.nul) (u1') (S) = (.ok none S) := rfl
theorem revO_1 : evO C (.cns a .nul) (τ) (S) = ((evE C a τ S).bind fun x S1 => match x with | .int i => .ok (some i) S1 | _ => .bad) := rfl
theorem revI_2 : evI C (.cns a .nul) (τ) (S) = ((evE C a τ S).bind fun x S1 => match x with
    | .loc l => (match seqAt S1 l with | some ds => .ok (some (l, .lst), ds) S1 | none => .bad)
    | _ => .bad) := rfl
theorem revI_3 : evI C (.enm a) (τ) (S) = ((evE C a τ S).bind fun x S1 => match x with
    | .loc l => (match seqAt S1 l with | some ds => .ok (some (l, .enm), ds) S1 | none => .bad)
    | _ => .bad) := rfl
theorem revG_0 : evG C (.tvar i) (d) (τ) (S) = (if i < τ.length then .ok (τ.set i (some d)) S else .bad) := rfl
theorem revG_1 : evG C (.ttup ts) (d) (τ) (S) = (match d with | .tup ds => evGs C ts ds τ S | _ => .bad) := rfl
theorem revG_2 : evG C (.tsub a b) (d) (τ) (S) = ((evE C a τ S).bind fun o S1 => (evE C b τ S1).bind fun i S2 => (setS o i d S2).bind fun _ S3 => .ok τ S3) := rfl
theorem revGs_0 : evGs C (.nul) (ds) (τ) (S) = (match ds with | [] => .ok τ S | _ => .bad) := rfl
theorem revGs_1 : evGs C (.cns t ts) (ds) (τ) (S) = (match ds with | d :: r => (evG C t d τ S).bind fun τ1 S1 => evGs C ts r τ1 S1 | [] => .bad) := rfl
theorem revS_0 : evS C (.asg t e) (τ) (S) = ((evE C e τ S).bind fun d S1 => (evG C t d τ S1).bind fun τ1 S2 => .ok (.nx τ1) S2) := rfl
theorem revS_1 : evS C (.ifs c a b) (τ) (S) = ((evT C c τ S).bind fun k S1 => if k then evB C a τ S1 else evB C b τ S1) := rfl
theorem revS_2 : evS C (.forr t i b) (τ) (S) = ((evI C i τ S).bind fun w S1 => forL (fun d τ1 S2 => (evG C t d τ1 S2).bind fun τ2 S3 => evB C b τ2 S3) w.1 w.2 w.2.length 0 τ S1) := rfl
theorem revS_3 : evS C (.whl c b) (τ) (S) = (whlL (evT C c) (evB C b) C.W τ S) := rfl
theorem revS_4 : evS C (.ret e) (τ) (S) = ((evE C e τ S).bind fun d S1 => .ok (.rt d) S1) := rfl
theorem revS_6 : evS C (.exp e) (τ) (S) = ((evE C e τ S).bind fun _ S1 => .ok (.nx τ) S1) := rfl
theorem revS_11 : evS C (.sfd c f o v) (τ) (S) = ((evE C v τ S).bind fun y S1 => (evE C o τ S1).bind fun x S2 => match setF S2 x c f y with | some S3 => .ok (.nx τ) S3 | none => .bad) := rfl
theorem revS_12 : evS C (.ifx c a b) (τ) (S) = ((evT C c τ S).kl.bind fun k S1 => if k then evB C a τ S1 else evB C b τ S1) := rfl
theorem revS_13 : evS C (.rsx c) (τ) (S) = .err c τ S := rfl
theorem revS_14 : evS C (.rtk e) (τ) (S) = ((evE C e τ S).kl.bind fun d S1 => .ok (.rt d) S1) := rfl
theorem revS_15 : evS C (.asx i f a) (τ) (S) = ((evE C a τ S).kl.bind fun d S1 => ((C.call f [d] S1).at τ).bind fun y S2 => if i < τ.length then .ok (.nx (τ.set i (some y))) S2 else .bad) := rfl
theorem revS_16 : evS C (.tri b x n j ts tab) (τ) (S) = triD n j tab (evB C b τ S) := rfl
theorem revS_17 : evS C (.exx e) (τ) (S) = (((evE C e τ S).at τ).bind fun _ S1 => .ok (.nx τ) S1) := rfl
theorem revS_18 : evS C (.asq i e) (τ) (S) = (((evE C e τ S).at τ).bind fun y S1 => if i < τ.length then .ok (.nx (τ.set i (some y))) S1 else .bad) := rfl
theorem revS_19 : evS C (.rtx e) (τ) (S) = (((evE C e τ S).at τ).bind fun d S1 => .ok (.rt d) S1) := rfl
theorem revS_20 : evS C (.whx c b) (τ) (S) = (whlL (fun τ S => (evT C c τ S).at τ) (evB C b) C.W τ S) := rfl
theorem revB_0 : evB C (.nul) (τ) (S) = (.ok (.nx τ) S) := rfl
theorem revB_1 : evB C (.cns s r) (τ) (S) = ((evS C s τ S).bind fun fl S1 => match fl with
    | .nx τ1 => evB C r τ1 S1
    | .rt d => .ok (.rt d) S1
    | .bk τ1 => .ok (.bk τ1) S1
    | .ct τ1 => .ok (.ct τ1) S1) := rfl
end Mi

namespace Mi
open PySem L2

noncomputable def SqF (K : PySem.W.Frag) (H : Hp) (a : Addr) (xs : List V) : Prop :=
  (∃ o, H a = some (.frz o (.lst xs))) ∨
    ∃ (o : PySem.Obj) (its : Array Value) (n : Nat), K.lookup a = some o ∧ o.cls = .type "list" ∧ o.dict = none ∧ o.data = .seq its n ∧ its.size ≤ sizeLine ∧ Vals xs its.toList
theorem SqF.sq {K : PySem.W.Frag} {H : Hp} {a : Addr} {xs : List V} (h : SqF K H a xs) : SqL K H a xs := h.elim (fun z => .inl (.inr z)) .inr
mutual
noncomputable def RelD (K : PySem.W.Frag) (ρ : List Addr) (H : Hp) : D → V → Prop
  | .non, v => v = .non
  | .bl b, v => v = .bl b
  | .int i, v => v = .int i
  | .str x, v => v = .str x
  | .tup ds, v => ∃ a xs, v = .ref a ∧ SqT K H a xs ∧ RelDs K ρ H ds xs
  | .loc l, v => ∃ a, v = .ref a ∧ ρ[l]? = some a
  | .kl ds, v => ∃ a xs, v = .ref a ∧ SqF K H a xs ∧ RelDs K ρ H ds xs
noncomputable def RelDs (K : PySem.W.Frag) (ρ : List Addr) (H : Hp) : List D → List V → Prop
  | [], xs => xs = []
  | d :: ds, xs => ∃ v vs, xs = v :: vs ∧ RelD K ρ H d v ∧ RelDs K ρ H ds vs
end
noncomputable def RelKv (K : PySem.W.Frag) (ρ : List Addr) (H : Hp) : List (Int × D) → List (Key × V) → Prop
  | [], ws => ws = []
  | p :: r, ws => ∃ v us, ws = (.inl p.1, v) :: us ∧ RelD K ρ H p.2 v ∧ RelKv K ρ H r us
theorem mapN_inj : ∀ {a b : List Char}, a.map Char.toNat = b.map Char.toNat → a = b
  | [], [], _ => rfl
  | [], y :: ys, h => by simp at h
  | x :: xs, [], h => by simp at h
  | x :: xs, y :: ys, h => by
    simp only [List.map_cons, List.cons.injEq] at h
    rw [mapN_inj h.2, Char.toNat_inj.mp h.1]
theorem ofS_inj {a b : String} (h : Str.ofString a = Str.ofString b) : a = b := by
  rw [Str.ofString_eq_toList, Str.ofString_eq_toList] at h
  injection h with h
  have h : a.toList.map Char.toNat = b.toList.map Char.toNat := by simpa using h
  refine String.toList_inj.mp ?_
  exact mapN_inj h
noncomputable def RelF (K : PySem.W.Frag) (ρ : List Addr) (H : Hp) : List (String × D) → List (Str × V) → Prop
  | [], ws => ws = []
  | p :: r, ws => ∃ v us, ws = (Str.ofString p.1, v) :: us ∧ RelD K ρ H p.2 v ∧ RelF K ρ H r us
noncomputable def RelO (K : PySem.W.Frag) (ρ : List Addr) (H : Hp) (a : Addr) : Obj → Prop
  | .lst ds => ∃ xs, H a = some (.lst xs) ∧ RelDs K ρ H ds xs
  | .dct kvs => ∃ ws, H a = some (.dK ws) ∧ RelKv K ρ H kvs ws
  | .ins c fs => ∃ C dx ws, PySem.W.nsIn K mainGlobals (Str.ofString c) = some (some (.ref C)) ∧ H a = some (.ins C dx ws) ∧ RelF K ρ H fs ws
structure RelS (K : PySem.W.Frag) (ρ : List Addr) (S : Store) (H : Hp) : Prop where
  len : ρ.length = S.length
  nd : ρ.Nodup
  ob : ∀ (l : Nat) (a : Addr) (o : Obj), ρ[l]? = some a → S[l]? = some o → RelO K ρ H a o
structure Fut (K : PySem.W.Frag) (ρ : List Addr) (H : Hp) (ρ' : List Addr) (H' : Hp) : Prop where
  pre : ∃ t, ρ' = ρ ++ t
  tup : ∀ a xs, SqT K H a xs → SqT K H' a xs
  frz : ∀ a o u, H a = some (.frz o u) → H' a = some (.frz o u)
variable {K : PySem.W.Frag} {ρ ρ' ρ1 : List Addr} {H H' H1 : Hp} {S S' : Store}
theorem Fut.refl : Fut K ρ H ρ H := ⟨⟨[], by simp⟩, fun _ _ h => h, fun _ _ _ h => h⟩
theorem Fut.trans (a : Fut K ρ H ρ1 H1) (b : Fut K ρ1 H1 ρ' H') : Fut K ρ H ρ' H' := by
  obtain ⟨t, rfl⟩ := a.pre
  obtain ⟨u, e⟩ := b.pre
  exact ⟨⟨t ++ u, by rw [e, List.append_assoc]⟩, fun _ _ h => b.tup _ _ (a.tup _ _ h), fun _ _ _ h => b.frz _ _ _ (a.frz _ _ _ h)⟩
theorem Fut.sqF {a : Addr} {xs : List V} (f : Fut K ρ H ρ' H') (h : SqF K H a xs) : SqF K H' a xs := h.elim (fun ⟨o, z⟩ => .inl ⟨o, f.frz _ _ _ z⟩) .inr
theorem Fut.get (f : Fut K ρ H ρ' H') {l : Nat} {a : Addr} (h : ρ[l]? = some a) : ρ'[l]? = some a := by
  obtain ⟨t, rfl⟩ := f.pre
  rw [List.getElem?_append_left (List.getElem?_eq_some_iff.mp h).1]
  exact h
mutual
theorem RelD.fut (f : Fut K ρ H ρ' H') : ∀ {d : D} {v : V}, RelD K ρ H d v → RelD K ρ' H' d v
  | .non, v, h => by simpa only [RelD] using h
  | .bl b, v, h => by simpa only [RelD] using h
  | .int i, v, h => by simpa only [RelD] using h
  | .str x, v, h => by simpa only [RelD] using h
  | .tup ds, v, h => by
    simp only [RelD] at h ⊢
    obtain ⟨a, xs, e, q, r⟩ := h
    exact ⟨a, xs, e, f.tup _ _ q, RelDs.fut f r⟩
  | .loc l, v, h => by
    simp only [RelD] at h ⊢
    obtain ⟨a, e, q⟩ := h
    exact ⟨a, e, f.get q⟩
  | .kl ds, v, h => by
    simp only [RelD] at h ⊢
    obtain ⟨a, xs, e, q, r⟩ := h
    exact ⟨a, xs, e, f.sqF q, RelDs.fut f r⟩
theorem RelDs.fut (f : Fut K ρ H ρ' H') : ∀ {ds : List D} {vs : List V}, RelDs K ρ H ds vs → RelDs K ρ' H' ds vs
  | [], vs, h => by simpa only [RelDs] using h
  | d :: ds, vs, h => by
    simp only [RelDs] at h ⊢
    obtain ⟨v, r, e, q, t⟩ := h
    exact ⟨v, r, e, RelD.fut f q, RelDs.fut f t⟩
end
theorem RelDs.cons {d : D} {ds : List D} {v : V} {vs : List V} (a : RelD K ρ H d v) (b : RelDs K ρ H ds vs) : RelDs K ρ H (d :: ds) (v :: vs) := by
  simp only [RelDs]
  exact ⟨v, vs, rfl, a, b⟩
theorem RelDs.nil : RelDs K ρ H [] [] := by simp only [RelDs]
theorem RelDs.inv_cons {d : D} {ds : List D} {xs : List V} (h : RelDs K ρ H (d :: ds) xs) : ∃ v vs, xs = v :: vs ∧ RelD K ρ H d v ∧ RelDs K ρ H ds vs := by
  simpa only [RelDs] using h
theorem RelDs.inv_nil {xs : List V} (h : RelDs K ρ H [] xs) : xs = [] := by simpa only [RelDs] using h
theorem RelDs.length : ∀ {ds : List D} {vs : List V}, RelDs K ρ H ds vs → ds.length = vs.length
  | [], vs, h => by rw [h.inv_nil]; rfl
  | d :: ds, vs, h => by
    obtain ⟨v, r, rfl, _, t⟩ := h.inv_cons
    rw [List.length_cons, List.length_cons, t.length]
theorem RelDs.get : ∀ {ds : List D} {vs : List V} {i : Nat} {d : D}, RelDs K ρ H ds vs → ds[i]? = some d → ∃ v, vs[i]? = some v ∧ RelD K ρ H d v
  | [], vs, i, d, h, e => by simp at e
  | d :: ds, vs, 0, x, h, e => by
    obtain ⟨v, r, rfl, q, t⟩ := h.inv_cons
    simp at e
    subst e
    exact ⟨v, rfl, q⟩
  | d :: ds, vs, i + 1, x, h, e => by
    obtain ⟨v, r, rfl, q, t⟩ := h.inv_cons
    exact RelDs.get (i := i) t (by simpa using e)
theorem RelDs.append : ∀ {ds es : List D} {vs ws : List V}, RelDs K ρ H ds vs → RelDs K ρ H es ws → RelDs K ρ H (ds ++ es) (vs ++ ws)
  | [], es, vs, ws, h, g => by rw [h.inv_nil]; exact g
  | d :: ds, es, vs, ws, h, g => by
    obtain ⟨v, r, rfl, q, t⟩ := h.inv_cons
    exact RelDs.cons q (t.append g)
theorem RelDs.take : ∀ {ds : List D} {vs : List V} (n : Nat), RelDs K ρ H ds vs → RelDs K ρ H (ds.take n) (vs.take n)
  | ds, vs, 0, h => by simp [RelDs.nil]
  | [], vs, n + 1, h => by rw [h.inv_nil]; simp [RelDs.nil]
  | d :: ds, vs, n + 1, h => by
    obtain ⟨v, r, rfl, q, t⟩ := h.inv_cons
    exact RelDs.cons q (t.take n)
theorem RelDs.drop : ∀ {ds : List D} {vs : List V} (n : Nat), RelDs K ρ H ds vs → RelDs K ρ H (ds.drop n) (vs.drop n)
  | ds, vs, 0, h => h
  | [], vs, n + 1, h => by rw [h.inv_nil]; simp [RelDs.nil]
  | d :: ds, vs, n + 1, h => by
    obtain ⟨v, r, rfl, q, t⟩ := h.inv_cons
    exact t.drop n
theorem RelDs.set {d : D} {v : V} (a : RelD K ρ H d v) : ∀ {ds : List D} {vs : List V} (i : Nat), RelDs K ρ H ds vs → RelDs K ρ H (ds.set i d) (vs.set i v)
  | [], vs, i, h => by rw [h.inv_nil]; simp [RelDs.nil]
  | x :: ds, vs, 0, h => by
    obtain ⟨w, r, rfl, q, t⟩ := h.inv_cons
    exact RelDs.cons a t
  | x :: ds, vs, i + 1, h => by
    obtain ⟨w, r, rfl, q, t⟩ := h.inv_cons
    exact RelDs.cons q (RelDs.set a i t)
theorem RelDs.reverse : ∀ {ds : List D} {vs : List V}, RelDs K ρ H ds vs → RelDs K ρ H ds.reverse vs.reverse
  | [], vs, h => by rw [h.inv_nil]; simp [RelDs.nil]
  | d :: ds, vs, h => by
    obtain ⟨v, r, rfl, q, t⟩ := h.inv_cons
    rw [List.reverse_cons, List.reverse_cons]
    exact t.reverse.append (RelDs.cons q RelDs.nil)
theorem atI_rel {ds : List D} {vs : List V} {i : Int} {d : D} (h : RelDs K ρ H ds vs) (e : atI ds i = some d) : ∃ v, atI vs i = some v ∧ RelD K ρ H d v := by
  unfold atI at e ⊢
  rw [← h.length]
  cases q : ixN ds.length i with
  | none => rw [q] at e; cases e
  | some j =>
    rw [q] at e
    exact h.get e
theorem RelKv.fut (f : Fut K ρ H ρ' H') : ∀ {kvs : List (Int × D)} {ws : List (Key × V)}, RelKv K ρ H kvs ws → RelKv K ρ' H' kvs ws
  | [], ws, h => h
  | p :: r, ws, h => by
    obtain ⟨v, us, e, q, t⟩ := h
    exact ⟨v, us, e, q.fut f, RelKv.fut f t⟩
theorem RelKv.length : ∀ {kvs : List (Int × D)} {ws : List (Key × V)}, RelKv K ρ H kvs ws → kvs.length = ws.length
  | [], ws, h => by cases (show ws = [] from h); rfl
  | p :: r, ws, h => by
    obtain ⟨v, us, rfl, q, t⟩ := h
    simp [RelKv.length t]
theorem RelKv.val (k : Int) : ∀ {kvs : List (Int × D)} {ws : List (Key × V)}, RelKv K ρ H kvs ws → (dVal kvs k = none ∧ valV ws (Sum.inl k) = none) ∨ ∃ d v, dVal kvs k = some d ∧ valV ws (Sum.inl k) = some v ∧ RelD K ρ H d v
  | [], ws, h => by cases (show ws = [] from h); exact .inl ⟨rfl, rfl⟩
  | p :: r, ws, h => by
    obtain ⟨v, us, rfl, q, t⟩ := h
    by_cases e : p.1 = k
    · refine .inr ⟨p.2, v, ?_, valV_pos (congrArg Sum.inl e), q⟩
      simp [dVal, List.find?_cons, e]
    · have e' : ¬ ((Sum.inl p.1 : Key) = Sum.inl k) := fun z => e (Sum.inl.inj z)
      rw [valV_neg e', show dVal (p :: r) k = dVal r k by simp [dVal, List.find?_cons, e]]
      exact RelKv.val k t
theorem RelKv.map (k : Int) {d : D} {v : V} (q : RelD K ρ H d v) : ∀ {kvs : List (Int × D)} {ws : List (Key × V)}, RelKv K ρ H kvs ws →
    RelKv K ρ H (kvs.map (fun p => if p.1 = k then (p.1, d) else p)) (ws.map (fun kv => if kv.1 = Sum.inl k then (kv.1, v) else kv))
  | [], ws, h => by cases (show ws = [] from h); rfl
  | p :: r, ws, h => by
    obtain ⟨u, us, rfl, q', t⟩ := h
    have ih := RelKv.map k q t
    by_cases e : p.1 = k
    · have e' : (Sum.inl p.1 : Key) = Sum.inl k := congrArg Sum.inl e
      rw [List.map_cons, List.map_cons, if_pos e, if_pos e']
      exact ⟨v, _, rfl, q, ih⟩
    · have e' : ¬ ((Sum.inl p.1 : Key) = Sum.inl k) := fun z => e (Sum.inl.inj z)
      rw [List.map_cons, List.map_cons, if_neg e, if_neg e']
      exact ⟨u, _, rfl, q', ih⟩
theorem RelKv.snoc {k : Int} {d : D} {v : V} (q : RelD K ρ H d v) : ∀ {kvs : List (Int × D)} {ws : List (Key × V)}, RelKv K ρ H kvs ws → RelKv K ρ H (kvs ++ [(k, d)]) (ws ++ [(.inl k, v)])
  | [], ws, h => by cases (show ws = [] from h); exact ⟨v, [], rfl, q, rfl⟩
  | p :: r, ws, h => by
    obtain ⟨u, us, rfl, q', t⟩ := h
    exact ⟨u, _, rfl, q', RelKv.snoc q t⟩
theorem RelKv.any (k : Int) : ∀ {kvs : List (Int × D)} {ws : List (Key × V)}, RelKv K ρ H kvs ws → kvs.any (fun p => decide (p.1 = k)) = ws.any (fun kv => decide (kv.1 = Sum.inl k))
  | [], ws, h => by cases (show ws = [] from h); rfl
  | p :: r, ws, h => by
    obtain ⟨u, us, rfl, q', t⟩ := h
    rw [List.any_cons, List.any_cons, RelKv.any k t]
    congr 1
    exact decide_eq_decide.mpr ⟨fun z => congrArg Sum.inl z, fun z => Sum.inl.inj z⟩
theorem RelKv.keys : ∀ {kvs : List (Int × D)} {ws : List (Key × V)}, RelKv K ρ H kvs ws → RelDs K ρ H (kvs.map fun p => D.int p.1) (ws.map fun kv => kV kv.1)
  | [], ws, h => by cases (show ws = [] from h); exact RelDs.nil
  | p :: r, ws, h => by
    obtain ⟨u, us, rfl, q', t⟩ := h
    exact RelDs.cons (by simp only [RelD]; rfl) (RelKv.keys t)
theorem RelKv.put (k : Int) {d : D} {v : V} (q : RelD K ρ H d v) {kvs : List (Int × D)} {ws : List (Key × V)} (h : RelKv K ρ H kvs ws) : RelKv K ρ H (dPut kvs k d) (putK ws (Sum.inl k) v) := by
  unfold dPut putK
  rw [h.any k]
  split
  · exact h.map k q
  · exact h.snoc q
theorem RelF.fut (f : Fut K ρ H ρ' H') : ∀ {fs : List (String × D)} {ws : List (Str × V)}, RelF K ρ H fs ws → RelF K ρ' H' fs ws
  | [], ws, h => h
  | p :: r, ws, h => by
    obtain ⟨v, us, e, q, t⟩ := h
    exact ⟨v, us, e, q.fut f, RelF.fut f t⟩
theorem RelF.length : ∀ {fs : List (String × D)} {ws : List (Str × V)}, RelF K ρ H fs ws → fs.length = ws.length
  | [], ws, h => by cases (show ws = [] from h); rfl
  | p :: r, ws, h => by
    obtain ⟨v, us, rfl, q, t⟩ := h
    simp [RelF.length t]
theorem RelF.look (f : String) : ∀ {fs : List (String × D)} {ws : List (Str × V)}, RelF K ρ H fs ws → (fs.lookup f = none ∧ ws.lookup (Str.ofString f) = none) ∨ ∃ d v, fs.lookup f = some d ∧ ws.lookup (Str.ofString f) = some v ∧ RelD K ρ H d v
  | [], ws, h => by cases (show ws = [] from h); exact .inl ⟨rfl, rfl⟩
  | p :: r, ws, h => by
    obtain ⟨v, us, rfl, q, t⟩ := h
    obtain ⟨g, d⟩ := p
    by_cases e : f = g
    · subst e
      exact .inr ⟨d, v, by simp [List.lookup], by simp [List.lookup], q⟩
    · have e' : (Str.ofString f == Str.ofString g) = false := beq_eq_false_iff_ne.mpr fun z => e (ofS_inj z)
      have e2 : (f == g) = false := beq_eq_false_iff_ne.mpr e
      simp only [List.lookup, e', e2]
      exact RelF.look f t
theorem RelF.put (f : String) {d : D} {v : V} (q : RelD K ρ H d v) : ∀ {fs : List (String × D)} {ws : List (Str × V)}, RelF K ρ H fs ws → RelF K ρ H (putD f d fs) (putF (Str.ofString f) v ws)
  | [], ws, h => by cases (show ws = [] from h); exact ⟨v, [], rfl, q, rfl⟩
  | p :: r, ws, h => by
    obtain ⟨u, us, rfl, q', t⟩ := h
    by_cases e : p.1 = f
    · rw [show putD f d (p :: r) = (p.1, d) :: r from if_pos e, show putF (Str.ofString f) v ((Str.ofString p.1, u) :: us) = (Str.ofString p.1, v) :: us from if_pos (congrArg _ e)]
      exact ⟨v, us, rfl, q, t⟩
    · rw [show putD f d (p :: r) = p :: putD f d r from if_neg e, show putF (Str.ofString f) v ((Str.ofString p.1, u) :: us) = (Str.ofString p.1, u) :: putF (Str.ofString f) v us from if_neg fun z => e (ofS_inj z)]
      exact ⟨u, _, rfl, q', RelF.put f q t⟩
theorem RelO.fut {a : Addr} {o : Obj} (f : Fut K ρ H ρ' H') (hk : H' a = H a) (h : RelO K ρ H a o) : RelO K ρ' H' a o := by
  cases o with
  | lst ds => obtain ⟨xs, e, r⟩ := h; exact ⟨xs, hk.trans e, r.fut f⟩
  | dct kvs => obtain ⟨xs, e, r⟩ := h; exact ⟨xs, hk.trans e, r.fut f⟩
  | ins c fs => obtain ⟨C, dx, ws, n, e, r⟩ := h; exact ⟨C, dx, ws, n, hk.trans e, r.fut f⟩
theorem RelO.some {a : Addr} {o : Obj} (h : RelO K ρ H a o) : H a ≠ none := by
  cases o with
  | lst ds => obtain ⟨xs, e, r⟩ := h; rw [e]; simp
  | dct kvs => obtain ⟨xs, e, r⟩ := h; rw [e]; simp
  | ins c fs => obtain ⟨C, dx, ws, n, e, r⟩ := h; rw [e]; simp
theorem RelS.at (r : RelS K ρ S H) {l : Nat} {a : Addr} (h : ρ[l]? = some a) : ∃ o, S[l]? = some o ∧ RelO K ρ H a o := by
  have hl : l < S.length := by rw [← r.len]; exact (List.getElem?_eq_some_iff.mp h).1
  exact ⟨S[l], List.getElem?_eq_getElem hl, r.ob l a _ h (List.getElem?_eq_getElem hl)⟩
theorem fut_new {p : Addr} {o : HO} (n : H p = none) (t : List Addr) : Fut K ρ H (ρ ++ t) (upd H p o) := by
  refine ⟨⟨t, rfl⟩, fun a xs h => ?_, fun a o u h => by rw [upd_ne (ne_of_none h n)]; exact h⟩
  rcases h with (h | ⟨o, h⟩) | h
  · exact .inl (.inl (by rw [upd_ne (ne_of_none h n)]; exact h))
  · exact .inl (.inr ⟨o, by rw [upd_ne (ne_of_none h n)]; exact h⟩)
  · exact .inr h
theorem fut_new0 {p : Addr} {o : HO} (n : H p = none) : Fut K ρ H ρ (upd H p o) := by
  have q := fut_new (K := K) (ρ := ρ) (o := o) n []
  rwa [List.append_nil] at q
theorem RelS.new (r : RelS K ρ S H) {p : Addr} {o : HO} (n : H p = none) : RelS K ρ S (upd H p o) :=
  ⟨r.len, r.nd, fun l a u h1 h2 => by
    have q := r.ob l a u h1 h2
    exact q.fut (fut_new0 n) (upd_ne fun z => q.some (z ▸ n))⟩
theorem RelS.alloc (r : RelS K ρ S H) {p : Addr} {xs : List V} {ds : List D} (n : H p = none) (h : RelDs K ρ H ds xs) : RelS K (ρ ++ [p]) (S ++ [.lst ds]) (upd H p (.lst xs)) := by
  have hp : p ∉ ρ := fun z => by
    obtain ⟨l, hl⟩ := List.getElem?_of_mem z
    obtain ⟨o, _, q⟩ := r.at hl
    exact q.some n
  refine ⟨by rw [List.length_append, List.length_append, r.len]; rfl, ?_, fun l a o h1 h2 => ?_⟩
  · rw [List.nodup_append]
    exact ⟨r.nd, by simp, fun a ha b hb => by rw [List.mem_singleton.mp hb]; exact fun e => hp (e ▸ ha)⟩
  · by_cases hl : l < ρ.length
    · rw [List.getElem?_append_left hl] at h1
      rw [List.getElem?_append_left (by rw [← r.len]; exact hl)] at h2
      have q := r.ob l a o h1 h2
      exact q.fut (fut_new n [p]) (upd_ne fun z => q.some (z ▸ n))
    · have e : l = ρ.length := by
        have := (List.getElem?_eq_some_iff.mp h1).1
        rw [List.length_append, List.length_singleton] at this
        omega
      subst e
      rw [List.getElem?_append_right (Nat.le_refl _), Nat.sub_self] at h1
      rw [List.getElem?_append_right (by rw [r.len]; exact Nat.le_refl _), r.len, Nat.sub_self] at h2
      simp at h1 h2
      subst h1 h2
      exact ⟨xs, upd_same, h.fut (fut_new n [_])⟩
theorem nodup_get {ρ : List Addr} (hN : ρ.Nodup) {i j : Nat} {x : Addr} (a : ρ[i]? = some x) (b : ρ[j]? = some x) : i = j := by
  obtain ⟨h1, e1⟩ := List.getElem?_eq_some_iff.mp a
  obtain ⟨h2, e2⟩ := List.getElem?_eq_some_iff.mp b
  rcases Nat.lt_trichotomy i j with h | h | h
  · exact absurd (e1.trans e2.symm) (List.pairwise_iff_getElem.mp hN i j h1 h2 h)
  · exact h
  · exact absurd (e2.trans e1.symm) (List.pairwise_iff_getElem.mp hN j i h2 h1 h)
theorem fut_set {p : Addr} {xs : List V} {o : HO} (h : H p = some (.lst xs)) : Fut K ρ H ρ (upd H p o) := by
  refine ⟨⟨[], by simp⟩, fun a ys q => ?_, fun a o u q => by rw [upd_ne (ne_of q h (by intro z; cases z))]; exact q⟩
  rcases q with (q | ⟨o, q⟩) | q
  · exact .inl (.inl (by rw [upd_ne (ne_of q h (by intro z; cases z))]; exact q))
  · exact .inl (.inr ⟨o, by rw [upd_ne (ne_of q h (by intro z; cases z))]; exact q⟩)
  · exact .inr q
theorem RelS.set (r : RelS K ρ S H) {l : Nat} {p : Addr} {xs ys : List V} {ds : List D} (hl : ρ[l]? = some p) (h : H p = some (.lst xs)) (hd : RelDs K ρ H ds ys) : RelS K ρ (S.set l (.lst ds)) (upd H p (.lst ys)) := by
  refine ⟨by rw [List.length_set]; exact r.len, r.nd, fun k a o h1 h2 => ?_⟩
  by_cases e : l = k
  · subst e
    rw [hl] at h1
    cases h1
    have lt : l < S.length := by rw [← r.len]; exact (List.getElem?_eq_some_iff.mp hl).1
    rw [List.getElem?_set_self lt] at h2
    cases h2
    exact ⟨ys, upd_same, hd.fut (fut_set h)⟩
  · rw [List.getElem?_set_ne e] at h2
    have ne : a ≠ p := fun z => by
      subst z
      exact e (nodup_get r.nd hl h1)
    exact (r.ob k a o h1 h2).fut (fut_set h) (upd_ne ne)
theorem fut_mut {p : Addr} {o0 o : HO} (h : H p = some o0) (h1 : ∀ xs, o0 ≠ .tup xs) (h2 : ∀ o u, o0 ≠ .frz o u) : Fut K ρ H ρ (upd H p o) := by
  have ne : ∀ a u, H a = some u → (∀ xs, u ≠ .tup xs → u ≠ .tup xs) → u ≠ o0 → a ≠ p := fun a u q _ z e => by rw [e, h] at q; exact z (Option.some.inj q).symm
  refine ⟨⟨[], by simp⟩, fun a ys q => ?_, fun a o u q => by rw [upd_ne (ne a _ q (fun _ z => z) fun z => h2 _ _ z.symm)]; exact q⟩
  rcases q with (q | ⟨o, q⟩) | q
  · exact .inl (.inl (by rw [upd_ne (ne a _ q (fun _ z => z) fun z => h1 _ z.symm)]; exact q))
  · exact .inl (.inr ⟨o, by rw [upd_ne (ne a _ q (fun _ z => z) fun z => h2 _ _ z.symm)]; exact q⟩)
  · exact .inr q
theorem RelS.allocO (r : RelS K ρ S H) {p : Addr} {o : HO} {ob : Obj} (n : H p = none) (h : RelO K (ρ ++ [p]) (upd H p o) p ob) : RelS K (ρ ++ [p]) (S ++ [ob]) (upd H p o) := by
  have hp : p ∉ ρ := fun z => by
    obtain ⟨l, hl⟩ := List.getElem?_of_mem z
    obtain ⟨o, _, q⟩ := r.at hl
    exact q.some n
  refine ⟨by rw [List.length_append, List.length_append, r.len]; rfl, ?_, fun l a u h1 h2 => ?_⟩
  · rw [List.nodup_append]
    exact ⟨r.nd, by simp, fun a ha b hb => by rw [List.mem_singleton.mp hb]; exact fun e => hp (e ▸ ha)⟩
  · by_cases hl : l < ρ.length
    · rw [List.getElem?_append_left hl] at h1
      rw [List.getElem?_append_left (by rw [← r.len]; exact hl)] at h2
      have q := r.ob l a u h1 h2
      exact q.fut (fut_new n [p]) (upd_ne fun z => q.some (z ▸ n))
    · have e : l = ρ.length := by
        have := (List.getElem?_eq_some_iff.mp h1).1
        rw [List.length_append, List.length_singleton] at this
        omega
      subst e
      rw [List.getElem?_append_right (Nat.le_refl _), Nat.sub_self] at h1
      rw [List.getElem?_append_right (by rw [r.len]; exact Nat.le_refl _), r.len, Nat.sub_self] at h2
      simp at h1 h2
      subst h1 h2
      exact h
theorem RelS.setO (r : RelS K ρ S H) {l : Nat} {p : Addr} {o0 o : HO} {ob : Obj} (hl : ρ[l]? = some p) (f : Fut K ρ H ρ (upd H p o)) (new : RelO K ρ (upd H p o) p ob) : RelS K ρ (S.set l ob) (upd H p o) := by
  refine ⟨by rw [List.length_set]; exact r.len, r.nd, fun k a u h1 h2 => ?_⟩
  by_cases e : l = k
  · subst e
    rw [hl] at h1
    cases h1
    have lt : l < S.length := by rw [← r.len]; exact (List.getElem?_eq_some_iff.mp hl).1
    rw [List.getElem?_set_self lt] at h2
    cases h2
    exact new
  · rw [List.getElem?_set_ne e] at h2
    have ne : a ≠ p := fun z => by
      subst z
      exact e (nodup_get r.nd hl h1)
    exact (r.ob k a u h1 h2).fut f (upd_ne ne)
structure RelE (K : PySem.W.Frag) (ρ : List Addr) (H : Hp) (τ : En) (σ : St) : Prop where
  len : τ.length = σ.length
  at' : ∀ (i : Nat) (d : D), τ[i]? = some (some d) → ∃ v, σ[i]? = some (some v) ∧ RelD K ρ H d v
theorem RelE.fut {τ : En} {σ : St} (f : Fut K ρ H ρ' H') (r : RelE K ρ H τ σ) : RelE K ρ' H' τ σ :=
  ⟨r.len, fun i d h => let ⟨v, e, q⟩ := r.at' i d h; ⟨v, e, q.fut f⟩⟩
theorem RelE.set {τ : En} {σ : St} {d : D} {v : V} (r : RelE K ρ H τ σ) (q : RelD K ρ H d v) (i : Nat) : RelE K ρ H (τ.set i (some d)) (σ.set i (some v)) := by
  refine ⟨by rw [List.length_set, List.length_set]; exact r.len, fun j e h => ?_⟩
  by_cases z : i = j
  · subst z
    by_cases hl : i < τ.length
    · rw [List.getElem?_set_self hl] at h
      cases h
      exact ⟨v, List.getElem?_set_self (by rw [← r.len]; exact hl), q⟩
    · rw [List.getElem?_eq_none (by rw [List.length_set]; omega)] at h
      cases h
  · rw [List.getElem?_set_ne z] at h
    rw [List.getElem?_set_ne z]
    exact r.at' j e h
theorem RelE.inner {τ : En} {σ : St} (r : RelE K ρ H τ σ) (k : Nat) (keep : List Nat) : RelE K ρ H (inEn k keep τ) (inSt k keep σ) := by
  unfold inEn inSt
  refine ⟨by simp, fun i d h => ?_⟩
  by_cases hi : i < k
  · rw [List.getElem?_append_left (by simpa using hi), List.getElem?_replicate, if_pos hi] at h
    cases h
  · rw [List.getElem?_append_right (by simpa using hi), List.length_replicate, List.getElem?_map] at h
    rw [List.getElem?_append_right (by simpa using hi), List.length_replicate, List.getElem?_map]
    cases ej : keep[i - k]? with
    | none => rw [ej] at h; cases h
    | some j =>
      rw [ej] at h
      have h' : (τ[j]?).join = some d := Option.some.inj h
      have h' : τ[j]? = some (some d) := by
        cases q : τ[j]? with
        | none => rw [q] at h'; cases h'
        | some y => rw [q] at h'; exact congrArg some h'
      obtain ⟨v, e, q⟩ := r.at' j d h'
      refine ⟨v, ?_, q⟩
      show some ((σ[j]?).join) = some (some v)
      rw [e]
      rfl
noncomputable def Less (τ τ' : En) : Prop := τ'.length = τ.length ∧ ∀ (i : Nat) (d : D), τ'[i]? = some (some d) → τ[i]? = some (some d)
theorem RelE.less {τ τ' : En} {σ : St} (r : RelE K ρ H τ σ) (l : Less τ τ') : RelE K ρ H τ' σ := ⟨l.1.trans r.len, fun i d h => r.at' i d (l.2 i d h)⟩
end Mi

namespace Mi
open PySem L2

noncomputable def opOf : Bop → Operator
  | .add => .Add
  | .mul => .Mult
  | .fdiv => .FloorDiv
  | .mod => .Mod
  | .pow => .Pow
noncomputable def copOf : Cop → CmpOp
  | .eq => .Eq
  | .ne => .NotEq
  | .gt => .Gt
  | .inn => .In
noncomputable def Fin (K : PySem.W.Frag) (ρ : List Addr) (H : Hp) (d : D) (S' : Store) (Q : VK) : Prop :=
  ∀ (ρ' : List Addr) (v : V) (H' : Hp), Fut K ρ H ρ' H' → RelS K ρ' S' H' → RelD K ρ' H' d v → Q v H'
variable {K : PySem.W.Frag} {ρ ρ' : List Addr} {H H' : Hp} {S S' : Store} {d : D} {Q : VK}
theorem Fin.now (f : Fin K ρ H d S Q) (r : RelS K ρ S H) {v : V} (q : RelD K ρ H d v) : Q v H := f ρ v H Fut.refl r q
theorem Fin.newT {ds : List D} {xs : List V} (f : Fin K ρ H (.tup ds) S Q) (r : RelS K ρ S H) (q : RelDs K ρ H ds xs) : ∀ p, H p = none → Q (.ref p) (upd H p (.tup xs)) := fun p n =>
  f ρ _ _ (fut_new0 n) (r.new n) (by simp only [RelD]; exact ⟨p, xs, rfl, SqT.of upd_same, q.fut (fut_new0 n)⟩)
theorem Fin.newL {ds : List D} {xs : List V} (f : Fin K ρ H (.loc S.length) (S ++ [.lst ds]) Q) (r : RelS K ρ S H) (q : RelDs K ρ H ds xs) : ∀ p, H p = none → Q (.ref p) (upd H p (.lst xs)) := fun p n =>
  f (ρ ++ [p]) _ _ (fut_new n [p]) (r.alloc n q) (by simp only [RelD]; exact ⟨p, rfl, by rw [← r.len, List.getElem?_append_right (Nat.le_refl _), Nat.sub_self]; rfl⟩)
theorem RelD.int_inv {i : Int} {v : V} (h : RelD K ρ H (.int i) v) : v = .int i := by simpa only [RelD] using h
theorem RelD.bl_inv {i : Bool} {v : V} (h : RelD K ρ H (.bl i) v) : v = .bl i := by simpa only [RelD] using h
theorem RelD.str_inv {i : Str} {v : V} (h : RelD K ρ H (.str i) v) : v = .str i := by simpa only [RelD] using h
theorem RelD.non_inv {v : V} (h : RelD K ρ H .non v) : v = .non := by simpa only [RelD] using h
theorem RelD.tup_inv {ds : List D} {v : V} (h : RelD K ρ H (.tup ds) v) : ∃ a xs, v = .ref a ∧ SqT K H a xs ∧ RelDs K ρ H ds xs := by simpa only [RelD] using h
theorem RelD.kl_inv {ds : List D} {v : V} (h : RelD K ρ H (.kl ds) v) : ∃ a xs, v = .ref a ∧ SqF K H a xs ∧ RelDs K ρ H ds xs := by simpa only [RelD] using h
theorem RelD.loc_inv {l : Nat} {v : V} (h : RelD K ρ H (.loc l) v) : ∃ a, v = .ref a ∧ ρ[l]? = some a := by simpa only [RelD] using h
theorem RelD.int (i : Int) : RelD K ρ H (.int i) (.int i) := by simp only [RelD]
theorem RelD.bl (i : Bool) : RelD K ρ H (.bl i) (.bl i) := by simp only [RelD]
theorem RelD.str (i : Str) : RelD K ρ H (.str i) (.str i) := by simp only [RelD]
theorem RelD.non : RelD K ρ H .non .non := by simp only [RelD]
theorem RelS.lst (r : RelS K ρ S H) {l : Nat} {v : V} {ds : List D} (h : RelD K ρ H (.loc l) v) (e : S[l]? = some (.lst ds)) : ∃ a xs, v = .ref a ∧ ρ[l]? = some a ∧ H a = some (.lst xs) ∧ RelDs K ρ H ds xs := by
  obtain ⟨a, rfl, ha⟩ := h.loc_inv
  obtain ⟨xs, hx, q⟩ := r.ob l a _ ha e
  exact ⟨a, xs, rfl, ha, hx, q⟩
theorem seqAt_lst {l : Nat} {ds : List D} (e : seqAt S l = some ds) : S[l]? = some (.lst ds) := by
  unfold seqAt at e
  split at e
  · cases e; assumption
  · cases e
theorem RelS.seq (r : RelS K ρ S H) {x : D} {v : V} {ds : List D} (h : RelD K ρ H x v) (e : seqOf S x = some ds) : ∃ a xs, v = .ref a ∧ (SqL K H a xs ∨ SqT K H a xs) ∧ RelDs K ρ H ds xs := by
  unfold seqOf at e
  split at e
  · cases e
    obtain ⟨a, xs, rfl, q, t⟩ := h.tup_inv
    exact ⟨a, xs, rfl, .inr q, t⟩
  · obtain ⟨a, xs, rfl, _, q, t⟩ := r.lst h (seqAt_lst e)
    exact ⟨a, xs, rfl, .inl (SqL.of q), t⟩
  · cases e
    obtain ⟨a, xs, rfl, q, t⟩ := h.kl_inv
    exact ⟨a, xs, rfl, .inl q.sq, t⟩
  · cases e
theorem line_eq : Line = sizeLine := by rw [sizeLine_eq]; rfl

noncomputable def rB (K : PySem.W.Frag) (o : Bop) : R2 := fun x y H Q => ∃ ρ S dx dy d S', RelS K ρ S H ∧ RelD K ρ H dx x ∧ RelD K ρ H dy y ∧ bop o dx dy S = .ok d S' ∧ Fin K ρ H d S' Q
theorem bits_of {i : Int} (h : i.natAbs < 2 ^ 4096) : Builtin.Int.intBits i ≤ 2 ^ 20 := by
  unfold Builtin.Int.intBits
  split
  · exact Nat.zero_le _
  · have hp : i.natAbs ≠ 0 := by
      rename_i z
      intro e
      exact z (by simp [Int.natAbs_eq_zero.mp e])
    have : i.natAbs.log2 < 4096 := (Nat.log2_lt hp).mpr h
    have : (2:Nat) ^ 20 = 1048576 := by decide
    omega
theorem log2_of {n : Nat} (h : n < 2 ^ 4096) : n.log2 < 9000 := by
  by_cases e : n = 0
  · subst e; decide +kernel
  · have := (Nat.log2_lt e).mpr h
    omega
section
variable {X : Cx}
theorem op_mulB : OpR X (binaryOp .Mult) (rI (fun i j => (small i || small j || (mid i && mid j)) = true) fun i j => .int (i * j)) := opI fun i j _ _ _ _ _ hc q => PyProof.Rows.mul_int q (by
  simp only [Bool.or_eq_true, Bool.and_eq_true, small, mid, decide_eq_true_eq] at hc
  rcases hc with (h | h) | h
  · exact CMul.ok (.inl h)
  · exact CMul.ok (.inr h)
  · exact IntMulOk.of_bits (bits_of h.1) (bits_of h.2))
theorem op_fdivB : OpR X (binaryOp .FloorDiv) (rI (fun _ j => 0 < j ∧ j.natAbs < 2 ^ 4096) fun i j => .int (i / j)) := opI fun i j _ _ _ _ _ hc q => by
  refine PyProof.Rows.floordiv_int (by omega) ?_ (.inl (PyProof.noPylong_of_log2 (log2_of hc.2)))
  rw [Int.fdiv_eq_ediv_of_nonneg i (by omega)]
  exact q
theorem bop_ok (o : Bop) : OpR X (binaryOp (opOf o)) (rB X.K o) := by
  intro pins s σ H x y v u Q I rx ry hq_
  obtain ⟨ρ, S, dx, dy, d, S', rs, r1, r2, e, fin⟩ := hq_
  cases o with
  | add =>
    cases dx <;> cases dy <;> first | exact absurd e bad_ne | simp only [rbop_0, rbop_3, rbop_11] at e
    · cases e
      cases r1.int_inv; cases r2.int_inv
      exact op_add pins s σ H _ _ v u Q I rx ry ⟨_, _, rfl, rfl, fin.now rs (RelD.int _)⟩
    · split at e
      · rename_i a b ha hb
        split at e
        · rename_i hl
          cases e
          obtain ⟨p, xs, rfl, _, q1, t1⟩ := rs.lst r1 ha
          obtain ⟨p2, ys, rfl, _, q2, t2⟩ := rs.lst r2 hb
          exact op_cat pins s σ H _ _ v u Q I rx ry ⟨p, p2, xs, ys, rfl, rfl, q1, q2, by rw [← t1.length, ← t2.length, ← line_eq]; exact hl, fin.newL rs (t1.append t2)⟩
        · cases e
      · cases e
    · split at e
      · rename_i b hb
        split at e
        · rename_i hl
          cases e
          obtain ⟨p, xs, rfl, q1, t1⟩ := r1.kl_inv
          obtain ⟨p2, ys, rfl, _, q2, t2⟩ := rs.lst r2 hb
          exact op_catF pins s σ H _ _ v u Q I rx ry ⟨p, p2, xs, ys, rfl, rfl, q1.sq, SqL.of q2, by rw [← t1.length, ← t2.length, ← line_eq]; exact hl, fin.newL rs (t1.append t2)⟩
        · cases e
      · cases e
  | mul =>
    cases dx <;> cases dy <;> first | exact absurd e bad_ne | simp only [rbop_5] at e
    · split at e
      · rename_i hl
        cases e
        cases r1.int_inv; cases r2.int_inv
        exact op_mulB pins s σ H _ _ v u Q I rx ry ⟨_, _, rfl, rfl, hl, fin.now rs (RelD.int _)⟩
      · cases e
  | fdiv =>
    cases dx <;> cases dy <;> first | exact absurd e bad_ne | simp only [rbop_8] at e
    split at e
    · rename_i hl
      cases e
      cases r1.int_inv; cases r2.int_inv
      exact op_fdivB pins s σ H _ _ v u Q I rx ry ⟨_, _, rfl, rfl, hl, fin.now rs (RelD.int _)⟩
    · cases e
  | mod =>
    cases dx <;> cases dy <;> first | exact absurd e bad_ne | simp only [rbop_9] at e
    split at e
    · rename_i hl
      cases e
      cases r1.int_inv; cases r2.int_inv
      exact op_mod pins s σ H _ _ v u Q I rx ry ⟨_, _, rfl, rfl, hl, fin.now rs (RelD.int _)⟩
    · cases e
  | pow =>
    cases dx <;> cases dy <;> first | exact absurd e bad_ne | simp only [rbop_10] at e
    split at e
    · rename_i hl
      simp only [Bool.and_eq_true, decide_eq_true_eq] at hl
      cases e
      cases r1.int_inv; cases r2.int_inv
      exact op_pow pins s σ H _ _ v u Q I rx ry ⟨_, _, rfl, rfl, ⟨hl.1.1, hl.1.2, hl.2⟩, fin.now rs (RelD.int _)⟩
    · cases e
end

theorem in1_units (A : Around) : A.in1.units = A.units + 1 := rfl
section
variable {X : Cx} {pins : List (Addr × PySem.Obj)} {σ : L2.St} {s : Shared}
theorem rcAt_V {A : Around} {s : Shared} {y x : V} {u v : Value} (ry : RelV y u) (rx : RelV x v) (fy : flatV y = true) (fx : flatV x = true) : SeqAt.RcAt A s u v (eqV y x) := by
  cases y with
  | non =>
    cases ry
    cases x with
    | non => cases rx; exact SeqAt.RcAt.none_none
    | bl b => cases rx; exact SeqAt.RcAt.none_bool b
    | int b => obtain ⟨t, rfl⟩ := rx; exact SeqAt.RcAt.none_int b t
    | str b => obtain ⟨t, rfl⟩ := rx; exact SeqAt.RcAt.none_str b t
    | _ => exact absurd (show false = true from fx) Bool.false_ne_true
  | bl a =>
    cases ry
    cases x with
    | non => cases rx; exact SeqAt.RcAt.bool_none a
    | bl b => cases rx; exact SeqAt.RcAt.bool_bool a b
    | int b => obtain ⟨t, rfl⟩ := rx; exact SeqAt.RcAt.bool_int a b t
    | str b => obtain ⟨t, rfl⟩ := rx; exact SeqAt.RcAt.bool_str a b t
    | _ => exact absurd (show false = true from fx) Bool.false_ne_true
  | int a =>
    obtain ⟨t', rfl⟩ := ry
    cases x with
    | non => cases rx; exact SeqAt.RcAt.int_none a t'
    | bl b => cases rx; exact SeqAt.RcAt.int_bool a t' b
    | int b => obtain ⟨t, rfl⟩ := rx; exact SeqAt.RcAt.int_int a t' b t
    | str b => obtain ⟨t, rfl⟩ := rx; exact SeqAt.RcAt.int_str a t' b t
    | _ => exact absurd (show false = true from fx) Bool.false_ne_true
  | str a =>
    obtain ⟨t', rfl⟩ := ry
    cases x with
    | non => cases rx; exact SeqAt.RcAt.str_none a t'
    | bl b => cases rx; exact SeqAt.RcAt.str_bool a t' b
    | int b => obtain ⟨t, rfl⟩ := rx; exact SeqAt.RcAt.str_int a t' b t
    | str b => obtain ⟨t, rfl⟩ := rx; exact SeqAt.RcAt.str_str a t' b t
    | _ => exact absurd (show false = true from fx) Bool.false_ne_true
  | _ => exact absurd (show false = true from fy) Bool.false_ne_true
theorem scal_rel {x : D} {v w : V} (h : RelD K ρ H x v) (e : scalV x = some w) : v = w ∧ flatV w = true := by
  cases x <;> simp only [scalV] at e <;> try (cases e; done)
  · cases e; exact ⟨h.non_inv, rfl⟩
  · cases e; exact ⟨h.bl_inv, rfl⟩
  · cases e; exact ⟨h.int_inv, rfl⟩
  · cases e; exact ⟨h.str_inv, rfl⟩
theorem eqL_len {f : D → D → Option Bool} : ∀ {as bs : List D} {b : Bool}, eqL f as bs = some b → as.length = bs.length → ∀ (i : Nat) (x y : D), as[i]? = some x → bs[i]? = some y → ∃ c, f x y = some c
  | [], [], b, _, _, i, x, y, h1, _ => by simp at h1
  | [], _ :: _, b, _, hl, i, x, y, h1, _ => by simp at h1
  | _ :: _, [], b, _, hl, i, x, y, _, h2 => by simp at h2
  | a :: as, c :: bs, b, e, hl, i, x, y, h1, h2 => by
    simp only [eqL] at e
    split at e
    · rename_i p q hp hq
      cases i with
      | zero => simp at h1 h2; subst h1 h2; exact ⟨p, hp⟩
      | succ i => exact eqL_len hq (by simpa using hl) i x y (by simpa using h1) (by simpa using h2)
    · cases e
theorem eqL_all {f : D → D → Option Bool} (e : Nat → Bool) : ∀ {as bs : List D} {b : Bool} (k : Nat), eqL f as bs = some b → as.length = bs.length → (∀ (i : Nat) (x y : D), as[i]? = some x → bs[i]? = some y → f x y = some (e (k + i))) → b = ((List.range as.length).map (k + ·)).all e
  | [], [], b, k, h, _, _ => by simp only [eqL] at h; cases h; rfl
  | [], _ :: _, b, k, h, hl, _ => by simp at hl
  | _ :: _, [], b, k, h, hl, _ => by simp at hl
  | a :: as, c :: bs, b, k, h, hl, hf => by
    simp only [eqL] at h
    split at h
    · rename_i p q hp hq
      cases h
      have h0 := hf 0 a c rfl rfl
      rw [hp] at h0
      have h0 : p = e (k + 0) := Option.some.inj h0
      have h1 := eqL_all e (k + 1) hq (by simpa using hl) fun i x y e1 e2 => by
        have := hf (i + 1) x y (by simpa using e1) (by simpa using e2)
        rw [show k + 1 + i = k + (i + 1) from by omega]
        exact this
      rw [h0, h1, List.length_cons, List.range_succ_eq_map, List.map_cons, List.all_cons, List.map_map]
      congr 2
      refine List.map_congr_left fun i _ => ?_
      show k + 1 + i = k + (i + 1)
      omega
    · cases h
theorem eqD_self (I : Inv X pins σ H s) (r : RelS X.K ρ S H) : ∀ (n : Nat) {x y : D} {v : V} {b : Bool}, RelD X.K ρ H x v → RelD X.K ρ H y v → eqD S n x y = some b → b = true := by
  have sc : ∀ {x y : D} {v w z : V} {b : Bool}, RelD X.K ρ H x v → RelD X.K ρ H y v → scalV x = some w → scalV y = some z → some (eqV w z) = some b → b = true := fun {x y v w z b} h1 h2 e1 e2 e => by
    obtain ⟨rfl, f1⟩ := scal_rel h1 e1
    obtain ⟨rfl, f2⟩ := scal_rel h2 e2
    cases e
    cases v <;> simp_all [flatV, eqV]
  intro n
  induction n with
  | zero =>
    intro x y v b h1 h2 e
    simp only [eqD] at e
    split at e
    · rename_i w z e1 e2
      exact sc h1 h2 e1 e2 e
    · cases e
  | succ n ih =>
    intro x y v b h1 h2 e
    have ihL : ∀ {as bs : List D} {vs : List V} {b : Bool}, RelDs X.K ρ H as vs → RelDs X.K ρ H bs vs → eqL (eqD S n) as bs = some b → b = true := by
      intro as
      induction as with
      | nil =>
        intro bs vs b h1 h2 e
        cases bs with
        | nil => simp only [eqL] at e; cases e; rfl
        | cons c bs =>
          rw [h1.inv_nil] at h2
          obtain ⟨_, _, z, _⟩ := h2.inv_cons
          cases z
      | cons a as iha =>
        intro bs vs b h1 h2 e
        obtain ⟨w, ws, rfl, q1, t1⟩ := h1.inv_cons
        cases bs with
        | nil => cases h2.inv_nil
        | cons c bs =>
          obtain ⟨w', ws', z, q2, t2⟩ := h2.inv_cons
          cases z
          simp only [eqL] at e
          split at e
          · rename_i p q hp hq
            cases e
            rw [ih q1 q2 hp, iha t1 t2 hq]
            rfl
          · cases e
    simp only [eqD] at e
    split at e
    · rename_i as bs
      obtain ⟨a, xs, rfl, p1, t1⟩ := h1.tup_inv
      obtain ⟨a', xs', e', p2, t2⟩ := h2.tup_inv
      cases e'
      cases I.tuple_inj p1 p2
      have hl : as.length = bs.length := t1.length.trans t2.length.symm
      rw [if_pos hl] at e
      exact ihL t1 t2 e
    · rename_i l k
      obtain ⟨a, rfl, p1⟩ := h1.loc_inv
      obtain ⟨a', e', p2⟩ := h2.loc_inv
      cases e'
      have hlk : l = k := nodup_get r.nd p1 p2
      subst hlk
      split at e
      · rename_i as bs e1 e2
        rw [e1] at e2
        cases e2
        rw [if_pos rfl] at e
        obtain ⟨b', xs, _, _, _, t⟩ := r.lst h1 (seqAt_lst e1)
        exact ihL t t e
      · cases e
    · split at e
      · rename_i w z e1 e2
        exact sc h1 h2 e1 e2 e
      · cases e
end
end Mi

namespace Mi
open PySem L2
theorem rcNeAt_V {A : Around} {s : Shared} {y x : V} {u v : Value} (ry : RelV y u) (rx : RelV x v) (fy : flatV y = true) (fx : flatV x = true) : SeqAt.RcNeAt A s u v (!eqV y x) := by
  cases y with
  | non =>
    cases ry
    cases x with
    | non => cases rx; exact SeqAt.RcNeAt.none_none
    | bl b => cases rx; exact SeqAt.RcNeAt.none_bool b
    | int b => obtain ⟨t, rfl⟩ := rx; exact SeqAt.RcNeAt.none_int b t
    | str b => obtain ⟨t, rfl⟩ := rx; exact SeqAt.RcNeAt.none_str b t
    | _ => exact absurd (show false = true from fx) Bool.false_ne_true
  | bl a =>
    cases ry
    cases x with
    | non => cases rx; exact SeqAt.RcNeAt.bool_none a
    | bl b => cases rx; exact SeqAt.RcNeAt.bool_bool a b
    | int b => obtain ⟨t, rfl⟩ := rx; exact SeqAt.RcNeAt.bool_int a b t
    | str b => obtain ⟨t, rfl⟩ := rx; exact SeqAt.RcNeAt.bool_str a b t
    | _ => exact absurd (show false = true from fx) Bool.false_ne_true
  | int a =>
    obtain ⟨t', rfl⟩ := ry
    cases x with
    | non => cases rx; exact SeqAt.RcNeAt.int_none a t'
    | bl b => cases rx; exact SeqAt.RcNeAt.int_bool a t' b
    | int b => obtain ⟨t, rfl⟩ := rx; exact SeqAt.RcNeAt.int_int a t' b t
    | str b => obtain ⟨t, rfl⟩ := rx; exact SeqAt.RcNeAt.int_str a t' b t
    | _ => exact absurd (show false = true from fx) Bool.false_ne_true
  | str a =>
    obtain ⟨t', rfl⟩ := ry
    cases x with
    | non => cases rx; exact SeqAt.RcNeAt.str_none a t'
    | bl b => cases rx; exact SeqAt.RcNeAt.str_bool a t' b
    | int b => obtain ⟨t, rfl⟩ := rx; exact SeqAt.RcNeAt.str_int a t' b t
    | str b => obtain ⟨t, rfl⟩ := rx; exact SeqAt.RcNeAt.str_str a t' b t
    | _ => exact absurd (show false = true from fx) Bool.false_ne_true
  | _ => exact absurd (show false = true from fy) Bool.false_ne_true
section
variable {X : Cx} {pins : List (Addr × PySem.Obj)} {σ : L2.St} {s : Shared} {ρ : List Addr} {H : Hp} {S : Store}
structure EqAll (A : Around) (s : Shared) (u w : Value) (b : Bool) : Prop where
  eq : SeqAt.EqAt A s u w b
  rc : SeqAt.RcAt A s u w b
  ne : SeqAt.RcNeAt A s u w (!b)
theorem eqV_all {A : Around} {x y : D} {vx vy p q : V} {u w : Value} {b : Bool} (h1 : RelD X.K ρ H x vx) (h2 : RelD X.K ρ H y vy) (r1 : RelV vx u) (r2 : RelV vy w) (e1 : scalV x = some p) (e2 : scalV y = some q) (e : some (eqV p q) = some b) : EqAll A s u w b := by
  obtain ⟨rfl, f1⟩ := scal_rel h1 e1
  obtain ⟨rfl, f2⟩ := scal_rel h2 e2
  cases e
  exact ⟨eqAt_V r1 r2 f1 f2, rcAt_V r1 r2 f1 f2, rcNeAt_V r1 r2 f1 f2⟩
theorem pair_of {as bs : List D} {xs ys : List V} {us ws : List Value} (t1 : RelDs X.K ρ H as xs) (t2 : RelDs X.K ρ H bs ys) (v1 : Vals xs us) (v2 : Vals ys ws) {j : Nat} (h1 : j < us.toArray.size) (h2 : j < ws.toArray.size) :
    ∃ a b v z, as[j]? = some a ∧ bs[j]? = some b ∧ RelD X.K ρ H a v ∧ RelD X.K ρ H b z ∧ RelV v us.toArray[j] ∧ RelV z ws.toArray[j] := by
  have l1 : j < as.length := by rw [t1.length, v1.length]; simpa using h1
  have l2 : j < bs.length := by rw [t2.length, v2.length]; simpa using h2
  obtain ⟨v, e1, q1⟩ := t1.get (List.getElem?_eq_getElem l1)
  obtain ⟨z, e2, q2⟩ := t2.get (List.getElem?_eq_getElem l2)
  obtain ⟨u', e3, q3⟩ := v1.get e1
  obtain ⟨w', e4, q4⟩ := v2.get e2
  refine ⟨_, _, v, z, List.getElem?_eq_getElem l1, List.getElem?_eq_getElem l2, q1, q2, ?_, ?_⟩
  · have : us.toArray[j] = u' := by
      have := List.getElem?_eq_some_iff.mp e3
      obtain ⟨_, e⟩ := this
      simpa using e
    rw [this]; exact q3
  · have : ws.toArray[j] = w' := by
      have := List.getElem?_eq_some_iff.mp e4
      obtain ⟨_, e⟩ := this
      simpa using e
    rw [this]; exact q4
theorem eqD_at (I : Inv X pins σ H s) (r : RelS X.K ρ S H) : ∀ (n : Nat) {A : Around} {x y : D} {vx vy : V} {u w : Value} {b : Bool}, A.units + n < cLine → RelD X.K ρ H x vx → RelD X.K ρ H y vy → RelV vx u → RelV vy w → eqD S n x y = some b → EqAll A s u w b := by
  intro n
  induction n with
  | zero =>
    intro A x y vx vy u w b hu h1 h2 r1 r2 e
    simp only [eqD] at e
    split at e
    · rename_i p q e1 e2
      exact eqV_all h1 h2 r1 r2 e1 e2 e
    · cases e
  | succ n ih =>
    intro A x y vx vy u w b hu h1 h2 r1 r2 e
    have e0 := e
    have hu0 : A.units < cLine := by omega
    have hu1 : A.in1.units + n < cLine := by rw [in1_units]; omega
    simp only [eqD] at e
    split at e
    · rename_i as bs
      obtain ⟨a, xs, rfl, p1, t1⟩ := h1.tup_inv
      obtain ⟨c, ys, rfl, p2, t2⟩ := h2.tup_inv
      cases r1
      cases r2
      obtain ⟨us, v1, i1, z1⟩ := I.tuple p1
      obtain ⟨ws, v2, i2, z2⟩ := I.tuple p2
      have s1 : us.toArray.size = as.length := by rw [List.size_toArray, ← v1.length, t1.length]
      have s2 : ws.toArray.size = bs.length := by rw [List.size_toArray, ← v2.length, t2.length]
      let ev : Nat → Bool := fun j => match as[j]?, bs[j]? with | some p, some q => (eqD S n p q).getD false | _, _ => false
      have he : ∀ (hs : ∀ (j : Nat) (p q : D), as[j]? = some p → bs[j]? = some q → ∃ c, eqD S n p q = some c) (j : Nat) (g1 : j < us.toArray.size) (g2 : j < ws.toArray.size), SeqAt.EqAt A.in1 s us.toArray[j] ws.toArray[j] (ev j) := fun hs j g1 g2 => by
        obtain ⟨p, q, v, z, a1, a2, q1, q2, q3, q4⟩ := pair_of t1 t2 v1 v2 g1 g2
        obtain ⟨c, hc⟩ := hs j p q a1 a2
        have : ev j = c := by simp only [ev, a1, a2, hc]; rfl
        rw [this]
        exact (ih hu1 q1 q2 q3 q4 hc).eq
      have fin : ∀ (hs : ∀ (j : Nat) (p q : D), as[j]? = some p → bs[j]? = some q → ∃ c, eqD S n p q = some c), ((List.range (min us.toArray.size ws.toArray.size)).all ev && us.toArray.size == ws.toArray.size) = b → EqAll A s (.ref a) (.ref c) b := fun hs hb => by
        have rc := SeqAt.RcAt.tuples (show s.heap.IsTuple a us.toArray from i1) (show s.heap.IsTuple c ws.toArray from i2) hu0 (he hs)
        have ne := SeqAt.RcNeAt.tuples (show s.heap.IsTuple a us.toArray from i1) (show s.heap.IsTuple c ws.toArray from i2) hu0 (he hs)
        rw [hb] at rc ne
        refine ⟨?_, rc, ne⟩
        by_cases hac : a = c
        · subst hac
          have := eqD_self I r (n + 1) h1 h2 e0
          subst this
          exact SeqAt.EqAt.same _
        · exact SeqAt.EqAt.of_refs hac rc
      split at e
      · rename_i hl
        refine fin (fun j p q a1 a2 => eqL_len e hl j p q a1 a2) ?_
        rw [s1, s2, hl, Nat.min_self, beq_self_eq_true, Bool.and_true]
        rw [eqL_all ev 0 e hl fun j p q a1 a2 => ?_]
        · rw [hl]
          congr 1
          exact (List.map_id' _).symm.trans (List.map_congr_left fun j _ => (Nat.zero_add j).symm)
        · obtain ⟨c', hc'⟩ := eqL_len e hl j p q a1 a2
          rw [hc', Nat.zero_add]
          simp only [ev, a1, a2, hc']
          rfl
      · rename_i hl
        split at e
        · rename_i hsome
          cases e
          obtain ⟨b', hb'⟩ := Option.isSome_iff_exists.mp hsome
          refine fin (fun j p q a1 a2 => ?_) ?_
          · have l1 := (List.getElem?_eq_some_iff.mp a1).1
            have l2 := (List.getElem?_eq_some_iff.mp a2).1
            refine eqL_len hb' (by rw [List.length_take, List.length_take, Nat.min_comm]) j p q ?_ ?_
            · rw [List.getElem?_take_of_lt l2]; exact a1
            · rw [List.getElem?_take_of_lt l1]; exact a2
          · have : (us.toArray.size == ws.toArray.size) = false := by rw [s1, s2]; simpa using hl
            rw [this, Bool.and_false]
        · cases e
    · rename_i l k
      split at e
      · rename_i as bs e1 e2
        obtain ⟨a, xs, rfl, _, p1, t1⟩ := r.lst h1 (seqAt_lst e1)
        obtain ⟨c, ys, rfl, _, p2, t2⟩ := r.lst h2 (seqAt_lst e2)
        cases r1
        cases r2
        obtain ⟨us, v1, i1, z1⟩ := I.list (SqL.of p1)
        obtain ⟨ws, v2, i2, z2⟩ := I.list (SqL.of p2)
        have s1 : us.toArray.size = as.length := by rw [List.size_toArray, ← v1.length, t1.length]
        have s2 : ws.toArray.size = bs.length := by rw [List.size_toArray, ← v2.length, t2.length]
        have fin : ∀ (rc : SeqAt.RcAt A s (.ref a) (.ref c) b) (ne : SeqAt.RcNeAt A s (.ref a) (.ref c) (!b)), EqAll A s (.ref a) (.ref c) b := fun rc ne => by
          refine ⟨?_, rc, ne⟩
          by_cases hac : a = c
          · subst hac
            have := eqD_self I r (n + 1) h1 h2 e0
            subst this
            exact SeqAt.EqAt.same _
          · exact SeqAt.EqAt.of_refs hac rc
        split at e
        · rename_i hl
          let ev : Nat → Bool := fun j => match as[j]?, bs[j]? with | some p, some q => (eqD S n p q).getD false | _, _ => false
          have he : ∀ (j : Nat) (g1 : j < us.toArray.size) (g2 : j < ws.toArray.size), SeqAt.EqAt A.in1 s us.toArray[j] ws.toArray[j] (ev j) := fun j g1 g2 => by
            obtain ⟨p, q, v, z, a1, a2, q1, q2, q3, q4⟩ := pair_of t1 t2 v1 v2 g1 g2
            obtain ⟨c, hc⟩ := eqL_len e hl j p q a1 a2
            have : ev j = c := by simp only [ev, a1, a2, hc]; rfl
            rw [this]
            exact (ih hu1 q1 q2 q3 q4 hc).eq
          have hb : (List.range us.toArray.size).all ev = b := by
            rw [s1]
            rw [eqL_all ev 0 e hl fun j p q a1 a2 => ?_]
            · congr 1
              exact (List.map_id' _).symm.trans (List.map_congr_left fun j _ => (Nat.zero_add j).symm)
            · obtain ⟨c', hc'⟩ := eqL_len e hl j p q a1 a2
              rw [hc', Nat.zero_add]
              simp only [ev, a1, a2, hc']
              rfl
          have rc := SeqAt.RcAt.lists i1.isList i2.isList (by rw [s1, s2, hl]) hu0 he
          have ne := SeqAt.RcNeAt.lists i1.isList i2.isList (by rw [s1, s2, hl]) hu0 he
          rw [hb] at rc ne
          exact fin rc ne
        · rename_i hl
          cases e
          have hsz : (us.toArray.size != ws.toArray.size) = true := by rw [s1, s2]; simpa using hl
          exact fin (SeqAt.RcAt.lists_lengths i1.isList i2.isList hsz hu0) (SeqAt.RcNeAt.lists_lengths i1.isList i2.isList hsz hu0)
      · cases e
    · split at e
      · rename_i p q e1 e2
        exact eqV_all h1 h2 r1 r2 e1 e2 e
      · cases e
end
end Mi

namespace Mi
open PySem L2
section
variable {X : Cx} {ρ : List Addr} {H : Hp} {S : Store} {pins : List (Addr × PySem.Obj)} {σ : L2.St} {s : Shared}
theorem list_tuple_no (I : Inv X pins σ H s) {a : Addr} {xs ys : List V} (h1 : SqL X.K H a xs) (h2 : SqT X.K H a ys) : False := by
  obtain ⟨its, _, ⟨o, n, e, c, _⟩, _⟩ := I.list h1
  obtain ⟨its2, _, ⟨o2, e2, c2, _⟩, _⟩ := I.tuple h2
  rw [e] at e2
  cases e2
  rw [c] at c2
  injection c2 with z
  exact absurd z (by decide)
theorem relO_mut {K : PySem.W.Frag} {a : Addr} {o : Obj} (h : RelO K ρ H a o) : ∃ o0 : HO, H a = Option.some o0 ∧ (∀ xs, o0 ≠ .tup xs) ∧ ∀ u w, o0 ≠ .frz u (.tup w) ∧ o0 ≠ .frz u (.lst w) := by
  cases o with
  | lst ds => obtain ⟨xs, e, _⟩ := h; exact ⟨_, e, (fun _ z => by cases z), (fun _ _ => ⟨nofun, nofun⟩)⟩
  | dct ds => obtain ⟨xs, e, _⟩ := h; exact ⟨_, e, (fun _ z => by cases z), (fun _ _ => ⟨nofun, nofun⟩)⟩
  | ins c fs => obtain ⟨C, dx, ws, n, e, r⟩ := h; exact ⟨_, e, (fun _ z => by cases z), (fun _ _ => ⟨nofun, nofun⟩)⟩
theorem mutT (I : Inv X pins σ H s) {a : Addr} {o0 : HO} {xs : List V} (e : H a = some o0) (m1 : ∀ xs, o0 ≠ .tup xs) (m2 : ∀ u w, o0 ≠ .frz u (.tup w) ∧ o0 ≠ .frz u (.lst w)) (q : SqT X.K H a xs) : False := by
  rcases q with (q | ⟨o, q⟩) | ⟨o, _, _, hk, _⟩
  · rw [e] at q; exact m1 _ (Option.some.inj q)
  · rw [e] at q; exact (m2 _ _).1 (Option.some.inj q)
  · have z := (I.bs a o (I.ok.mod.kin a o hk)).2
    rw [e] at z
    cases z
theorem mutF (I : Inv X pins σ H s) {a : Addr} {o0 : HO} {xs : List V} (e : H a = some o0) (m2 : ∀ u w, o0 ≠ .frz u (.tup w) ∧ o0 ≠ .frz u (.lst w)) (q : SqF X.K H a xs) : False := by
  rcases q with ⟨o, q⟩ | ⟨o, _, _, hk, _⟩
  · rw [e] at q; exact (m2 _ _).2 (Option.some.inj q)
  · have z := (I.bs a o (I.ok.mod.kin a o hk)).2
    rw [e] at z
    cases z
mutual
theorem RelD.inj (I : Inv X pins σ H s) (r : RelS X.K ρ S H) : ∀ {d d' : D} {v : V}, RelD X.K ρ H d v → RelD X.K ρ H d' v → d = d'
  | .non, d', v, h, h' => by
    cases h.non_inv
    cases d' <;> simp only [RelD] at h' <;> first | rfl | (cases h'; done) | (obtain ⟨_, _, e, _⟩ := h'; cases e) | (obtain ⟨_, e, _⟩ := h'; cases e)
  | .bl b, d', v, h, h' => by
    cases h.bl_inv
    cases d' <;> simp only [RelD] at h' <;> first | (cases h'; rfl) | (cases h'; done) | (obtain ⟨_, _, e, _⟩ := h'; cases e) | (obtain ⟨_, e, _⟩ := h'; cases e)
  | .int b, d', v, h, h' => by
    cases h.int_inv
    cases d' <;> simp only [RelD] at h' <;> first | (cases h'; rfl) | (cases h'; done) | (obtain ⟨_, _, e, _⟩ := h'; cases e) | (obtain ⟨_, e, _⟩ := h'; cases e)
  | .str b, d', v, h, h' => by
    cases h.str_inv
    cases d' <;> simp only [RelD] at h' <;> first | (cases h'; rfl) | (cases h'; done) | (obtain ⟨_, _, e, _⟩ := h'; cases e) | (obtain ⟨_, e, _⟩ := h'; cases e)
  | .tup ds, d', v, h, h' => by
    obtain ⟨a, xs, rfl, q, t⟩ := h.tup_inv
    cases d' with
    | tup es =>
      obtain ⟨a', xs', e, q', t'⟩ := h'.tup_inv
      cases e
      cases I.tuple_inj q q'
      rw [RelDs.inj I r t t']
    | loc l =>
      obtain ⟨a', e, hl⟩ := h'.loc_inv
      cases e
      obtain ⟨o, _, ho⟩ := r.at hl
      obtain ⟨o0, e0, m1, m2⟩ := relO_mut ho
      exact (mutT I e0 m1 m2 q).elim
    | kl es =>
      obtain ⟨a', xs', e, q', t'⟩ := h'.kl_inv
      cases e
      exact (list_tuple_no I q'.sq q).elim
    | _ => simp only [RelD] at h'; cases h'
  | .loc l, d', v, h, h' => by
    obtain ⟨a, rfl, hl⟩ := h.loc_inv
    obtain ⟨o, _, ho⟩ := r.at hl
    obtain ⟨o0, e0, m1, m2⟩ := relO_mut ho
    cases d' with
    | loc k =>
      obtain ⟨a', e, hk⟩ := h'.loc_inv
      cases e
      rw [nodup_get r.nd hl hk]
    | tup es =>
      obtain ⟨a', xs', e, q', t'⟩ := h'.tup_inv
      cases e
      exact (mutT I e0 m1 m2 q').elim
    | kl es =>
      obtain ⟨a', xs', e, q', t'⟩ := h'.kl_inv
      cases e
      exact (mutF I e0 m2 q').elim
    | _ => simp only [RelD] at h'; cases h'
  | .kl ds, d', v, h, h' => by
    obtain ⟨a, xs, rfl, q, t⟩ := h.kl_inv
    cases d' with
    | kl es =>
      obtain ⟨a', xs', e, q', t'⟩ := h'.kl_inv
      cases e
      cases I.list_inj q.sq q'.sq
      rw [RelDs.inj I r t t']
    | loc l =>
      obtain ⟨a', e, hl⟩ := h'.loc_inv
      cases e
      obtain ⟨o, _, ho⟩ := r.at hl
      obtain ⟨o0, e0, m1, m2⟩ := relO_mut ho
      exact (mutF I e0 m2 q).elim
    | tup es =>
      obtain ⟨a', xs', e, q', t'⟩ := h'.tup_inv
      cases e
      exact (list_tuple_no I q.sq q').elim
    | _ => simp only [RelD] at h'; cases h'
theorem RelDs.inj (I : Inv X pins σ H s) (r : RelS X.K ρ S H) : ∀ {ds ds' : List D} {vs : List V}, RelDs X.K ρ H ds vs → RelDs X.K ρ H ds' vs → ds = ds'
  | [], ds', vs, h, h' => by
    rw [h.inv_nil] at h'
    cases ds' with
    | nil => rfl
    | cons d es => obtain ⟨_, _, e, _⟩ := h'.inv_cons; cases e
  | d :: ds, ds', vs, h, h' => by
    obtain ⟨v, ws, rfl, q, t⟩ := h.inv_cons
    cases ds' with
    | nil => cases h'.inv_nil
    | cons d' es =>
      obtain ⟨v', ws', e, q', t'⟩ := h'.inv_cons
      cases e
      rw [RelD.inj I r q q', RelDs.inj I r t t']
end
noncomputable def rC (K : PySem.W.Frag) (o : Cop) : R2 := fun x y H Q => ∃ ρ S dx dy k, RelS K ρ S H ∧ RelD K ρ H dx x ∧ RelD K ρ H dy y ∧ cop o dx dy S = some k ∧ Q (.bl k) H
theorem anyEq_at (I : Inv X pins σ H s) (r : RelS X.K ρ S H) {A : Around} {x : D} {vx : V} {w : Value} (hu : A.units + Deep < cLine) (hx : RelD X.K ρ H x vx) (rx : RelV vx w)
    {ds : List D} {xs : List V} {us : List Value} {b : Bool} (t : RelDs X.K ρ H ds xs) (v : Vals xs us) (e : anyEq S Deep x ds = some b) : ∃ e : Value → Bool, (∀ u ∈ us, SeqAt.EqAt A s u w (e u)) ∧ us.any e = b := by
  classical
  let ev : Value → Bool := fun u => decide (∃ d v, RelD X.K ρ H d v ∧ RelV v u ∧ eqD S Deep d x = some true)
  have one : ∀ {d : D} {v : V} {u : Value} {b : Bool}, RelD X.K ρ H d v → RelV v u → eqD S Deep d x = some b → ev u = b := fun {d v u b} h r1 e => by
    cases b with
    | true => exact decide_eq_true ⟨d, v, h, r1, e⟩
    | false =>
      refine decide_eq_false ?_
      rintro ⟨d', v', h', r2, e'⟩
      cases r1.inj r2
      rw [RelD.inj I r h h', e'] at e
      cases e
  refine ⟨ev, ?_⟩
  induction ds generalizing xs us b with
  | nil =>
    rw [t.inv_nil] at v
    cases v
    simp only [anyEq] at e
    cases e
    exact ⟨fun u hu => by simp at hu, rfl⟩
  | cons d ds ih =>
    obtain ⟨z, zs, rfl, q, t'⟩ := t.inv_cons
    cases v with
    | cons r1 v' =>
      rename_i u us
      simp only [anyEq] at e
      split at e
      · rename_i p p' e1 e2
        cases e
        obtain ⟨h1, h2⟩ := ih t' v' e2
        refine ⟨fun u' hu' => ?_, ?_⟩
        · rcases List.mem_cons.mp hu' with rfl | hm
          · rw [one q r1 e1]
            exact (eqD_at I r Deep hu q hx r1 rx e1).eq
          · exact h1 u' hm
        · rw [List.any_cons, one q r1 e1, h2]
      · cases e
theorem RelS.dct {K : PySem.W.Frag} (rs : RelS K ρ S H) {l : Nat} {v : V} {kvs : List (Int × D)} (r : RelD K ρ H (.loc l) v) (h : dctAt S l = some kvs) : ∃ a ws, v = .ref a ∧ ρ[l]? = some a ∧ H a = some (.dK ws) ∧ RelKv K ρ H kvs ws := by
  obtain ⟨a, rfl, hl⟩ := r.loc_inv
  obtain ⟨o, ho, ro⟩ := rs.at hl
  unfold dctAt at h
  rw [ho] at h
  cases o with
  | dct ks =>
    cases h
    obtain ⟨ws, e, q⟩ := ro
    exact ⟨a, ws, rfl, hl, e, q⟩
  | lst _ => cases h
  | ins _ _ => cases h
theorem RelS.rdd {K : PySem.W.Frag} (rs : RelS K ρ S H) {l : Nat} {v : V} {kvs : List (Int × D)} (r : RelD K ρ H (.loc l) v) (h : dRd S l = some kvs) : ∃ a ws, v = .ref a ∧ Rd H a (.dK ws) ∧ RelKv K ρ H kvs ws := by
  obtain ⟨a, rfl, hl⟩ := r.loc_inv
  obtain ⟨o, ho, ro⟩ := rs.at hl
  unfold dRd at h
  rw [ho] at h
  cases o with
  | dct ks =>
    cases h
    obtain ⟨ws, e, q⟩ := ro
    exact ⟨a, ws, rfl, .inl e, q⟩
  | lst _ => cases h
  | ins _ _ => cases h
theorem dIn_at {K : PySem.W.Frag} (rs : RelS K ρ S H) {dx dy : D} {x y : V} {b : Bool} (r1 : RelD K ρ H dx x) (r2 : RelD K ρ H dy y) (e : dIn dx dy S = some b) : ∃ i a, x = .int i ∧ y = .ref a ∧ ∃ o, DGet H a (.int i) o ∧ b = o.isSome := by
  unfold dIn at e
  cases dx <;> try (cases e; done)
  cases dy <;> try (cases e; done)
  rename_i i l
  simp only at e
  cases hd : dRd S l with
  | none => rw [hd] at e; cases e
  | some kvs =>
    rw [hd] at e
    cases e
    obtain ⟨a, ws, rfl, ea, q⟩ := rs.rdd r2 hd
    refine ⟨i, a, r1.int_inv, rfl, valV ws (Sum.inl i), .inl ⟨ws, Sum.inl i, ea, rfl, rfl⟩, ?_⟩
    rcases q.val i with ⟨h1, h2⟩ | ⟨d, v, h1, h2, _⟩
    · rw [h1, h2]; rfl
    · rw [h1, h2]; rfl
theorem cop_ok (o : Cop) (hu : X.A.units + 64 < cLine) : OpR X (compareOp (copOf o)) (rC X.K o) := by
  intro pins s σ H x y v u Q I rx ry hq_
  obtain ⟨ρ, S, dx, dy, k, rs, r1, r2, e, q⟩ := hq_
  have hu2 : X.A.units + Deep < cLine := by show X.A.units + 12 < cLine; omega
  have hu3 : X.A.in1.units + Deep < cLine := by rw [in1_units]; show X.A.units + 1 + 12 < cLine; omega
  cases o with
  | eq => exact (eqD_at I rs Deep hu2 r1 r2 rx ry e).rc X.prog X.w X.xe _ ⟨.bl k, H, I, rfl, q⟩
  | ne =>
    simp only [cop, Option.map_eq_some_iff] at e
    obtain ⟨b, e, rfl⟩ := e
    exact (eqD_at I rs Deep hu2 r1 r2 rx ry e).ne X.prog X.w X.xe _ ⟨.bl (!b), H, I, rfl, q⟩
  | gt =>
    cases dx <;> cases dy <;> simp only [cop] at e <;> try (cases e; done)
    cases e
    cases r1.int_inv; cases r2.int_inv
    exact op_gt pins s σ H _ _ v u Q I rx ry ⟨_, _, rfl, rfl, q⟩
  | inn =>
    simp only [cop] at e
    split at e
    · rename_i ds hs
      obtain ⟨a, xs, rfl, sq, t⟩ := rs.seq r2 hs
      cases ry
      rcases sq with sq | sq
      · obtain ⟨us, vv, pl, _⟩ := I.list sq
        obtain ⟨ev, h1, h2⟩ := anyEq_at I rs hu3 r1 rx t vv e
        exact SeqAt.in_listAt ev pl.isList (fun y hy => h1 y (by simpa using hy)) ⟨.bl k, H, I, by rw [List.any_toArray, h2]; rfl, q⟩
      · obtain ⟨us, vv, pl, _⟩ := I.tuple sq
        obtain ⟨ev, h1, h2⟩ := anyEq_at I rs hu3 r1 rx t vv e
        exact SeqAt.in_tupleAt ev (show s.heap.IsTuple a us.toArray from pl) (fun y hy => h1 y (by simpa using hy)) ⟨.bl k, H, I, by rw [List.any_toArray, h2]; rfl, q⟩
    · obtain ⟨i, a, rfl, rfl, o, g, eo⟩ := dIn_at rs r1 r2 e
      cases ry
      exact d_in (by show X.A.units + 1 < cLine; omega) I g rx fun s' I' => ⟨.bl k, H, I', by rw [eo]; rfl, q⟩
theorem isEmpty_rel {ds : List D} {xs : List V} {K : PySem.W.Frag} (t : RelDs K ρ H ds xs) : (!ds.isEmpty) = !xs.isEmpty := by
  cases ds with
  | nil => rw [t.inv_nil]; rfl
  | cons d ds => obtain ⟨_, _, rfl, _⟩ := t.inv_cons; rfl
theorem tru_rel {K : PySem.W.Frag} (r : RelS K ρ S H) {d : D} {x : V} {k : Bool} (h : RelD K ρ H d x) (e : tru S d = some k) : TruV K x H k := by
  cases d with
  | non => cases h.non_inv; cases e; rfl
  | bl b => cases h.bl_inv; cases e; rfl
  | int i => cases h.int_inv; cases e; rfl
  | str z =>
    cases h.str_inv
    simp only [tru] at e
    split at e
    · rename_i hl; cases e; exact ⟨by rw [← line_eq]; exact hl, rfl⟩
    · cases e
  | tup ds =>
    obtain ⟨a, xs, rfl, q, t⟩ := h.tup_inv
    cases e
    exact .inr (.inl ⟨xs, q, isEmpty_rel t⟩)
  | loc l =>
    simp only [tru] at e
    split at e
    · rename_i ds hs
      cases e
      obtain ⟨a, xs, rfl, _, q, t⟩ := r.lst h (seqAt_lst hs)
      exact .inl ⟨xs, SqL.of q, isEmpty_rel t⟩
    · cases e
  | kl ds =>
    obtain ⟨a, xs, rfl, q, t⟩ := h.kl_inv
    cases e
    exact .inl ⟨xs, q.sq, isEmpty_rel t⟩
noncomputable def rX (K : PySem.W.Frag) : R2 := fun x y H Q => ∃ ρ S dx dy d, RelS K ρ S H ∧ RelD K ρ H dx x ∧ RelD K ρ H dy y ∧ idxD dx dy S = some d ∧ Fin K ρ H d S Q
theorem idx_ok (hu : X.A.units + 1 < cLine) : IxR X (rX X.K) := by
  intro value slice pins s σ H x y v u Q I rx ry ⟨ρ, S, dx, dy, d, rs, r1, r2, e, fin⟩ hs
  cases dy <;> simp only [idxD] at e <;> try (cases e; done)
  cases r2.int_inv
  split at e
  · rename_i ds hds
    obtain ⟨a, xs, rfl, sq, t⟩ := rs.seq r1 hds
    obtain ⟨w, ew, rw'⟩ := atI_rel t e
    rcases sq with sq | sq
    · exact ix_list value slice pins s σ H _ _ v u Q I rx ry ⟨a, xs, _, w, rfl, rfl, sq, ew, fin.now rs rw'⟩ hs
    · exact ix_tup value slice pins s σ H _ _ v u Q I rx ry ⟨a, xs, _, w, rfl, rfl, sq, ew, fin.now rs rw'⟩ hs
  · split at e
    · rename_i z _
      split at e
      · rename_i hl
        simp only [Option.map_eq_some_iff] at e
        obtain ⟨c, e, rfl⟩ := e
        cases r1.str_inv
        exact ix_str value slice pins s σ H _ _ v u Q I rx ry ⟨z, _, c, rfl, rfl, by rw [← line_eq]; exact hl, e, fin.now rs (RelD.str _)⟩ hs
      · cases e
    · rename_i l _
      cases hd : dRd S l with
      | none => rw [hd] at e; cases e
      | some kvs =>
        rw [hd] at e
        simp only at e
        obtain ⟨a, ws, rfl, ea, q⟩ := rs.rdd r1 hd
        cases rx
        rcases q.val _ with ⟨h1, _⟩ | ⟨d', w, h1, h2, rw'⟩
        · rw [h1] at e; cases e
        · rw [h1] at e
          cases e
          have g : DGet H a (.int _) (some w) := .inl ⟨ws, Sum.inl _, ea, rfl, h2.symm⟩
          exact PyProof.Rows.tail_any (ops := [.ref a, u]) (dict_typeIs I g) PySem.F.slot_dict_getitem.lookup (d_getItem hu I g ry fun w' s' I' rw2 => ⟨w, H, I', rw2, fin.now rs rw'⟩) hs
    · cases e
noncomputable def rSl (K : PySem.W.Frag) : V → Option Int → Option Int → Hp → VK → Prop := fun x lo hi H Q => ∃ ρ S dx d S', RelS K ρ S H ∧ RelD K ρ H dx x ∧ sliD dx lo hi S = .ok d S' ∧ Fin K ρ H d S' Q
theorem cut_rel {K : PySem.W.Frag} {ds : List D} {xs : List V} (t : RelDs K ρ H ds xs) (lo hi : Option Int) : RelDs K ρ H (cutD ds lo hi) (cutV xs lo hi) := by
  unfold cutD cutV
  rw [t.length]
  exact (t.drop _).take _
theorem sli_ok : SlR X (rSl X.K) := by
  intro pins s σ H x v vl vu lo hi sl Q I rx hs pl pu hq_
  obtain ⟨ρ, S, dx, d, S', rs, r1, e, fin⟩ := hq_
  cases dx <;> simp only [sliD] at e <;> try (cases e; done)
  · split at e
    · rename_i ds hds
      cases e
      obtain ⟨a, xs, rfl, _, q, t⟩ := rs.lst r1 (seqAt_lst hds)
      exact sl_list pins s σ H _ v vl vu lo hi sl Q I rx hs pl pu ⟨a, xs, rfl, SqL.of q, fin.newL rs (cut_rel t lo hi)⟩
    · cases e
  · cases e
    obtain ⟨a, xs, rfl, q, t⟩ := r1.kl_inv
    exact sl_list pins s σ H _ v vl vu lo hi sl Q I rx hs pl pu ⟨a, xs, rfl, q.sq, fin.newL rs (cut_rel t lo hi)⟩
noncomputable def rSt (K : PySem.W.Frag) : TSet := fun o i v H Q => ∃ ρ S dO di dv S', RelS K ρ S H ∧ RelD K ρ H dO o ∧ RelD K ρ H di i ∧ RelD K ρ H dv v ∧ setS dO di dv S = .ok () S' ∧ ∀ H', Fut K ρ H ρ H' → RelS K ρ S' H' → Q H'
theorem set_ok (hu : X.A.units + 1 < cLine) : PSet X (rSt X.K) := by
  intro pins s σ H o i v ov iv u Q I ro ri rv hq_
  obtain ⟨ρ, S, dO, di, dv, S', rs, r1, r2, r3, e, fin⟩ := hq_
  cases dO <;> cases di <;> simp only [setS] at e <;> try (cases e; done)
  split at e
  · rename_i xs hx
    split at e
    · rename_i j hj
      cases e
      obtain ⟨a, ys, rfl, hl, q, t⟩ := rs.lst r1 hx
      cases r2.int_inv
      refine set_list pins s σ H _ _ v ov iv u Q I ro ri rv ⟨a, ys, _, j, rfl, rfl, q, by rw [← t.length]; exact hj, fin _ (fut_set q) (rs.set hl q (RelDs.set r3 j t))⟩
    · cases e
  · rename_i kvs hk
    split at e
    · rename_i hl
      cases e
      obtain ⟨a, ws, rfl, hp, ea, q⟩ := rs.dct r1 (by unfold dctAt; rw [hk])
      cases r2.int_inv
      cases ro
      rename_i _ ki _
      have f : Fut X.K ρ H ρ (upd H a (.dK (putK ws (Sum.inl ki) v))) := fut_mut (o0 := .dK ws) ea (fun _ z => by cases z) (fun _ _ z => by cases z)
      exact d_setItem hu I (DPut.k (k := Sum.inl ki) ea (by rw [← q.length, ← line_eq]; exact hl)) ri rv fun s' I' => ⟨_, I', fin _ f (rs.setO (o0 := .dK ws) hp f ⟨_, upd_same, (q.put _ r3).fut f⟩)⟩
    · cases e
  · cases e
end
end Mi

namespace Mi
open PySem L2
section
variable {X : Cx} {ρ : List Addr} {H : Hp} {S : Store}
noncomputable def tyNames : List String := ["NoneType", "bool", "int", "str", "tuple", "list", "dict"]
noncomputable def clNames : List String := ["bool", "int", "str"]
theorem kit_ok (K : PySem.W.Frag) : ∀ t ∈ tyNames, ∀ c ∈ clNames, PySem.W.kitOne K (.type t) (.type c) = some (isiD t c) := by
  intro t ht c hc
  simp only [tyNames, clNames, List.mem_cons, List.not_mem_nil, or_false] at ht hc
  rcases ht with rfl | rfl | rfl | rfl | rfl | rfl | rfl <;> rcases hc with rfl | rfl | rfl <;> kernel_rfl
noncomputable def rIs (K : PySem.W.Frag) (c : String) : List V → Hp → VK → Prop := fun xs H Q => ∃ ρ S d x t, RelS K ρ S H ∧ xs = [x, .ty c] ∧ RelD K ρ H d x ∧ tyD S d = some t ∧ Q (.bl (isiD t c)) H
theorem isi_ok {c : String} (hc : c ∈ clNames) : CallR X (.builtin "isinstance") (rIs X.K c) := by
  intro pins s σ H xs us Q I r hq_
  obtain ⟨ρ, S, d, x, t, rs, e, rd, ht, q⟩ := hq_
  subst e
  obtain ⟨u, w, rfl, ru, rw'⟩ := vals2 r
  cases (show w = Value.type c from rw')
  have fin : ∀ tk, EP X pins σ Q (.bool (isiD t c)) { s with toks := tk } := fun tk => ⟨.bl _, H, I.tok _, rfl, q⟩
  cases d with
  | non => cases ht; cases rd.non_inv; cases ru; exact PySem.W.kia_one PySem.W.kitx_none I.kIn True.intro (kit_ok X.K _ (by decide) c hc) (fun z => nomatch z) fin
  | bl b => cases ht; cases rd.bl_inv; cases ru; exact PySem.W.kia_one PySem.W.kitx_bool I.kIn True.intro (kit_ok X.K _ (by decide) c hc) (fun z => nomatch z) fin
  | int b => cases ht; cases rd.int_inv; obtain ⟨tk, rfl⟩ := ru; exact PySem.W.kia_one PySem.W.kitx_int I.kIn True.intro (kit_ok X.K _ (by decide) c hc) (fun z => nomatch z) fin
  | str b => cases ht; cases rd.str_inv; obtain ⟨tk, rfl⟩ := ru; exact PySem.W.kia_one PySem.W.kitx_str I.kIn True.intro (kit_ok X.K _ (by decide) c hc) (fun z => nomatch z) fin
  | tup ds =>
    cases ht
    obtain ⟨a, ys, rfl, sq, _⟩ := rd.tup_inv
    cases ru
    obtain ⟨_, _, ⟨o, h1, h2, _⟩, _⟩ := I.tuple sq
    exact PySem.W.kia_one PySem.W.kitx_tuple I.kIn ⟨o, h1, h2⟩ (kit_ok X.K _ (by decide) c hc) (fun z => nomatch z) fin
  | loc l =>
    simp only [tyD] at ht
    split at ht
    · rename_i ds hs
      cases ht
      obtain ⟨a, ys, rfl, _, sq, _⟩ := rs.lst rd hs
      cases ru
      obtain ⟨_, _, ⟨o, n, h1, h2, _⟩, _⟩ := I.list (SqL.of (K := X.K) sq)
      exact PySem.W.kia_one PySem.W.kitx_list I.kIn ⟨o, h1, h2⟩ (kit_ok X.K _ (by decide) c hc) (fun z => nomatch z) fin
    · cases ht
  | kl ds => cases ht
noncomputable def primNm : Prim → String
  | .len => "len" | .int1 => "int" | .list1 => "list" | .max1 => "max"
noncomputable def primTy : Prim → Bool
  | .int1 => true | .list1 => true
  | _ => false
noncomputable def primVal (p : Prim) : Value := if primTy p then .type (primNm p) else .builtin (primNm p)
theorem boot_prim (p : Prim) : bootBuiltins (Str.ofString (primNm p)) = some (primVal p) := by cases p <;> kernel_rfl
theorem name_prim (p : Prim) : Str.ofString (primNm p) ≠ "__name__" := by cases p <;> decide +kernel
theorem debug_prim (p : Prim) : (Str.ofString (primNm p) == ("__debug__" : Str)) = false := by cases p <;> decide +kernel
noncomputable def rP (K : PySem.W.Frag) (p : Prim) : List V → Hp → VK → Prop := fun xs H Q => ∃ ρ S ds d S', RelS K ρ S H ∧ RelDs K ρ H ds xs ∧ primD p ds S = .ok d S' ∧ Fin K ρ H d S' Q
theorem RelDs.one {K : PySem.W.Frag} {d : D} {xs : List V} (h : RelDs K ρ H [d] xs) : ∃ v, xs = [v] ∧ RelD K ρ H d v := by
  obtain ⟨v, vs, rfl, q, t⟩ := h.inv_cons
  cases t.inv_nil
  exact ⟨v, rfl, q⟩
theorem RelDs.two {K : PySem.W.Frag} {d e : D} {xs : List V} (h : RelDs K ρ H [d, e] xs) : ∃ v w, xs = [v, w] ∧ RelD K ρ H d v ∧ RelD K ρ H e w := by
  obtain ⟨v, vs, rfl, q, t⟩ := h.inv_cons
  obtain ⟨w, rfl, q'⟩ := t.one
  exact ⟨v, w, rfl, q, q'⟩
theorem maxI_list : ∀ {ds : List D} {b : Int}, maxI ds = some b → ∃ bs : List Int, ds = bs.map D.int ∧ b ∈ bs ∧ ∀ x ∈ bs, x ≤ b
  | [], b, h => by cases h
  | .int c :: [], b, h => by
    simp only [maxI] at h
    cases h
    exact ⟨[c], rfl, by simp, by simp⟩
  | .int c :: y :: r, b, h => by
    simp only [maxI, Option.map_eq_some_iff] at h
    obtain ⟨m, h, e⟩ := h
    obtain ⟨bs, e1, e2, e3⟩ := maxI_list h
    refine ⟨c :: bs, by rw [e1]; rfl, ?_, ?_⟩
    · split at e
      · subst e; exact List.mem_cons_of_mem _ e2
      · subst e; exact List.mem_cons_self
    · intro x hx
      rcases List.mem_cons.mp hx with rfl | hx
      · split at e <;> omega
      · have := e3 x hx
        split at e <;> omega
  | .non :: _, b, h => by simp [maxI] at h
  | .bl _ :: _, b, h => by simp [maxI] at h
  | .str _ :: _, b, h => by simp [maxI] at h
  | .tup _ :: _, b, h => by simp [maxI] at h
  | .loc _ :: _, b, h => by simp [maxI] at h
  | .kl _ :: _, b, h => by simp [maxI] at h
theorem int_at {K : PySem.W.Frag} {bs : List Int} {xs : List V} {us : List Value} (t : RelDs K ρ H (bs.map D.int) xs) (v : Vals xs us) {i : Nat} {u : Value} (h : us[i]? = some u) : ∃ tk, u = .int (bs.getD i 0) tk := by
  have hl : i < bs.length := by
    have := (List.getElem?_eq_some_iff.mp h).1
    have e1 := t.length
    have e2 := v.length
    rw [List.length_map] at e1
    omega
  obtain ⟨w, ew, rw'⟩ := t.get (show (bs.map D.int)[i]? = some (.int bs[i]) by rw [List.getElem?_map, List.getElem?_eq_getElem hl]; rfl)
  obtain ⟨u', eu, ru⟩ := v.get ew
  rw [h] at eu
  cases eu
  cases rw'.int_inv
  obtain ⟨tk, rfl⟩ := ru
  exact ⟨tk, by rw [List.getD_eq_getElem?_getD, List.getElem?_eq_getElem hl]; rfl⟩
theorem best_max {bs : List Int} {b : Int} (hm : b ∈ bs) (hle : ∀ x ∈ bs, x ≤ b) : bs.getD (argBest (fun i j => decide (bs.getD i 0 > bs.getD j 0)) (bs.length - 1)) 0 = b := by
  obtain ⟨h1, h2⟩ := argBest_gt (fun i => bs.getD i 0) (bs.length - 1)
  obtain ⟨i, hi, ei⟩ := List.getElem_of_mem hm
  have h3 := h2 i (by omega)
  have hg : bs.getD i 0 = b := by rw [List.getD_eq_getElem?_getD, List.getElem?_eq_getElem hi]; exact ei
  generalize argBest (fun i j => decide (bs.getD i 0 > bs.getD j 0)) (bs.length - 1) = k at *
  have hk : k < bs.length := by omega
  have hg2 : bs.getD k 0 = bs[k] := by rw [List.getD_eq_getElem?_getD, List.getElem?_eq_getElem hk]; rfl
  have h4 := hle _ (List.getElem_mem hk)
  rw [hg] at h3
  rw [← hg2] at h4
  exact Int.le_antisymm h4 h3
theorem call_max_seq (hc : X.calm = true) : CallR X (.builtin "max") (fun xs H Q => ∃ ρ S l ds b, RelS X.K ρ S H ∧ ∃ x, xs = [x] ∧ RelD X.K ρ H (.loc l) x ∧ S[l]? = some (.lst ds) ∧ maxI ds = some b ∧ Q (.int b) H) := by
  intro pins s σ H xs us Q I r hq_
  obtain ⟨ρ, S, l, ds, b, rs, x, e, rd, hs, hb, q⟩ := hq_
  subst e
  obtain ⟨u, rfl, ru⟩ := vals1 r
  obtain ⟨bs, rfl, hm, hle⟩ := maxI_list hb
  obtain ⟨a, ys, rfl, _, sq, t⟩ := rs.lst rd hs
  cases ru
  have hh : X.A.in1.handled = none := I.ok.hd hc
  obtain ⟨its, vv, pl, _⟩ := I.list (SqL.of (K := X.K) sq)
  have hne : a ≠ s.heap.objs.size := Nat.ne_of_lt pl.lt
  have hsz : its.toArray.size = bs.length := by rw [List.size_toArray, ← vv.length, ← t.length, List.length_map]
  refine call_max_walk (wpAny_pyIter_list pl.isList ?_)
  refine ⟨_, _, _, _, _, _, _, rfl, Walks.list (A := X.A.in1) hh s.heap.objs.size a hne its.toArray, ⟨⟨_, Heap.get?_push_size _ rfl, rfl, rfl⟩, (pl.keeps fun b o e => Heap.get?_push_of_some _ e).isList⟩, ?_, ?_, CmpOf.ints_gt (fun i => bs.getD i 0) ?_, fun v h' tk hP hk => ?_⟩
  · intro b hb
    show b < (s.heap.push _).objs.size
    rw [Heap.size_push]
    simp only [List.mem_cons, List.not_mem_nil, or_false] at hb
    rcases hb with rfl | rfl
    · exact Nat.lt_succ_self _
    · exact Nat.lt_succ_of_lt pl.lt
  · rw [hsz]
    exact List.length_pos_of_mem hm
  · intro i v hP
    have hP : its.toArray[i]? = some v := hP
    exact int_at t vv (by simpa using hP)
  · have hP : its.toArray[_]? = some v := hP
    rw [hsz, List.getElem?_toArray] at hP
    obtain ⟨tk', rfl⟩ := int_at t vv hP
    rw [best_max hm hle]
    refine ⟨.int _, H, I.kept (t' := tk) fun b o e => hk b o ?_ (Heap.get?_push_of_some _ e), ⟨tk', rfl⟩, q⟩
    simp only [List.mem_singleton]
    exact Nat.ne_of_lt (Heap.lt_size e)
theorem prim_ok (p : Prim) (hc : X.calm = true) : CallR X (primVal p) (rP X.K p) := by
  intro pins s σ H xs us Q I r hq_
  obtain ⟨ρ, S, ds, d, S', rs, rd, e, fin⟩ := hq_
  cases p with
  | len =>
    rcases ds with _ | ⟨x, _ | ⟨y, ds⟩⟩ <;> try (first | exact absurd e bad_ne | (cases x <;> exact absurd e bad_ne) | (cases x <;> first | exact absurd e bad_ne | (cases y <;> exact absurd e bad_ne)))
    all_goals simp only [rprimD_0] at e
    obtain ⟨v, rfl, rv⟩ := rd.one
    split at e
    · rename_i es hs
      cases e
      obtain ⟨a, ys, rfl, sq, t⟩ := rs.seq rv hs
      refine call_len_seq pins s σ H _ us Q I r ⟨a, ys, rfl, sq, ?_⟩
      rw [← t.length]
      exact fin.now rs (RelD.int _)
    · split at e
      · split at e
        · rename_i hl
          cases e
          cases rv.str_inv
          exact call_len_str pins s σ H _ us Q I r ⟨_, rfl, by rw [← line_eq]; exact hl, fin.now rs (RelD.int _)⟩
        · cases e
      · cases e
  | int1 =>
    rcases ds with _ | ⟨x, _ | ⟨y, ds⟩⟩ <;> try (first | exact absurd e bad_ne | (cases x <;> exact absurd e bad_ne) | (cases x <;> first | exact absurd e bad_ne | (cases y <;> exact absurd e bad_ne)))
    obtain ⟨v, rfl, rv⟩ := rd.one
    cases x <;> try (exact absurd e bad_ne)
    all_goals simp only [rprimD_4, rprimD_5] at e
    · cases e
      cases rv.bl_inv
      exact call_int1 pins s σ H _ us Q I r (.inr ⟨_, rfl, fin.now rs (RelD.int _)⟩)
    · cases e
      cases rv.int_inv
      exact call_int1 pins s σ H _ us Q I r (.inl ⟨_, rfl, fin.now rs (RelD.int _)⟩)
  | list1 =>
    rcases ds with _ | ⟨x, _ | ⟨y, ds⟩⟩ <;> try (first | exact absurd e bad_ne | (cases x <;> exact absurd e bad_ne) | (cases x <;> first | exact absurd e bad_ne | (cases y <;> exact absurd e bad_ne)))
    all_goals simp only [rprimD_7] at e
    obtain ⟨v, rfl, rv⟩ := rd.one
    split at e
    · rename_i l
      cases hd : dctAt S l with
      | none => rw [hd] at e; cases e
      | some kvs =>
        rw [hd] at e
        cases e
        obtain ⟨a, ws, rfl, _, ea, q⟩ := rs.dct rv hd
        exact call_list_dct hc pins s σ H _ us Q I r ⟨a, ws, rfl, ea, fin.newL rs q.keys⟩
    · cases e
  | max1 =>
    rcases ds with _ | ⟨x, _ | ⟨y, ds⟩⟩ <;> try (first | exact absurd e bad_ne | (cases x <;> exact absurd e bad_ne) | (cases x <;> first | exact absurd e bad_ne | (cases y <;> exact absurd e bad_ne)))
    cases x <;> try (exact absurd e bad_ne)
    all_goals simp only [rprimD_13] at e
    obtain ⟨v, rfl, rv⟩ := rd.one
    split at e
    · rename_i es hs
      split at e
      · rename_i b hb
        cases e
        exact call_max_seq hc pins s σ H _ us Q I r ⟨ρ, S, _, es, b, rs, v, rfl, rv, seqAt_lst hs, hb, fin.now rs (RelD.int _)⟩
      · cases e
    · cases e
noncomputable def methNm : Meth → String
  | .append => "append"
noncomputable def methId : Meth → String
  | .append => "list.append"
noncomputable def rM (K : PySem.W.Frag) (p : Meth) : V → List V → Hp → VK → Prop := fun x xs H Q => ∃ ρ S o ds d S', RelS K ρ S H ∧ RelD K ρ H o x ∧ RelDs K ρ H ds xs ∧ methD p o ds S = .ok d S' ∧ Fin K ρ H d S' Q
theorem meth_ok (p : Meth) (hu : X.A.units + 64 < cLine) : MtR X (methId p) (rM X.K p) := by
  intro pins s σ H x xs v us Q I rx rvs hq_
  obtain ⟨ρ, S, o, ds, d, S', rs, ro, rd, e, fin⟩ := hq_
  cases p with
  | append =>
    cases o <;> rcases ds with _ | ⟨y, _ | ⟨z, ds⟩⟩ <;> try (exact absurd e bad_ne)
    all_goals simp only [rmethD_0] at e
    split at e
    · rename_i ys hy
      split at e
      · rename_i hl
        cases e
        obtain ⟨a, zs, rfl, ha, q, t⟩ := rs.lst ro hy
        obtain ⟨w, rfl, rw'⟩ := rd.one
        exact mt_append pins s σ H _ _ v us Q I rx rvs ⟨a, zs, w, rfl, rfl, q, by rw [← t.length, ← line_eq]; exact hl, fin ρ _ _ (fut_set q) (rs.set ha q (t.append (RelDs.cons rw' RelDs.nil))) RelD.non⟩
      · cases e
    · cases e
end
end Mi

namespace Mi
open PySem L2

structure Ow where
  mt : List (String × String × String)
  fd : List (String × String)
  nw : List (String × String)
  /-- classes that are raised; defs whose exceptions are followed; caught as, raised, what isinstance says -/
  rs : List String
  rz : List String
  ex : List (String × String × List (String × Bool))
structure Ck where
  N : List Str
  names : List (Str × NameKind)
  fn : Bool
  B : List String
  F : List String
  O : Ow
  rs : Bool
noncomputable def dbg (x : Str) : Bool := !(x == ("__debug__" : Str)) && !(x == ("__classdict__" : Str))
noncomputable def Ck.vis (c : Ck) (x : Str) : Bool := c.names.lookup x == some .local || c.names.lookup x == some .cell || c.names.lookup x == some .free
noncomputable def Ck.own (c : Ck) (x : Str) : Bool := if c.fn then c.names.lookup x == some .local || c.names.lookup x == some .cell else c.names.lookup x == some .local
noncomputable def Ck.gl (c : Ck) (x : Str) : Bool := c.names.lookup x == some .globalImplicit
noncomputable def relab (inner outer : List (Str × NameKind)) : List (Str × NameKind) := inner.map fun (n, k) => if (k == .free && outer.lookup n == some .cell) then (n, .cell) else (n, k)
noncomputable def Ck.inner (c : Ck) (N : List String) (scope : Scope) : Ck := { c with N := N.map Str.ofString, names := relab scope.names c.names, fn := false }
noncomputable def Ck.comp (c : Ck) (N : List String) (k : Nat) (keep : List Nat) (scope : Scope) : Bool :=
  scope.kind == .function && scope.names.all (fun y => y.2 != .cell) && scope.names.all (fun y => y.2 != .local || scope.names.lookup y.1 == some .local)
    && scope.names.all (fun y => y.2 != .free || c.names.lookup y.1 == some .cell || c.names.lookup y.1 == some .free)
    && N.length == k + keep.length && decide ((N.map Str.ofString).Nodup)
    && (List.range keep.length).all (fun j => match keep[j]?, (N.map Str.ofString)[k + j]? with
      | some i, some x => c.N[i]? == some x && scope.names.lookup x == some .free
      | _, _ => false)
noncomputable def isCall0 : Expr → Bool
  | .Call (.Name ..) [] [] _ => true
  | _ => false
noncomputable def isNm : Expr → Bool
  | .Name .. => true
  | _ => false
noncomputable def isComp : Expr → Bool
  | .ListComp .. => true | .SetComp .. => true | .DictComp .. => true
  | _ => false
noncomputable def tgOwn (k : Nat) : M → Bool
  | .tvar i => decide (i < k)
  | .ttup ts => tgOwn k ts
  | .nul => true
  | .cns a b => tgOwn k a && tgOwn k b
  | _ => false
noncomputable def okRecv : Meth → M → Bool
  | _, _ => true
noncomputable def noSetE : Expr → Bool
  | .Set .. => false
  | _ => true
noncomputable def constIs (o : Cop) (e : Expr) : Bool := match o with
  | _ => noSetE e
noncomputable def itT : M → Expr → Bool
  | .enm _, .Tuple _ _ _ => true
  | .enm _, _ => false
  | _, _ => true
noncomputable def noTT : Expr → Expr → Bool
  | .Tuple .., .Tuple .. => false
  | _, _ => true
noncomputable def xM : M → Bool
  | .nul => true
  | .cns a b => xM a && xM b
  | .ifx _ a b => xM a && xM b
  | .rsx _ => true
  | .rtk _ => true
  | .asx _ _ _ => true
  | .exx _ => true
  | .asq _ _ => true
  | .rtx _ => true
  | .whx _ b => xM b
  | .kls _ => true
  | _ => false
noncomputable def sim : M → Bool
  | .cst _ => true
  | .var _ => true
  | .glb _ => true
  | .idx a b => sim a && sim b
  | .fld _ _ a => sim a
  | _ => false
noncomputable def simA : M → Bool
  | .nul => true
  | .cns a b => sim a && simA b
  | _ => false
noncomputable def xE (Z : List String) : M → Bool
  | .mcl _ _ f o as => Z.contains f && sim o && simA as
  | .idx a b => xE Z a && sim b
  | .revl a => xE Z a
  | _ => false
noncomputable def xT (Z : List String) : M → Bool
  | .cmp _ a b => (xE Z a || sim a) && (xE Z b || sim b)
  | _ => false
structure TrX where
  body : List Stmt
  y : Str
  yp : Pos
  nm : Str
  v : Str
  vp : Pos
  es : List Expr
  lp : Pos
  sp : Pos
  hp : Pos
  pos : Pos
noncomputable def trX : Stmt → Option TrX
  | .Try body [.ExceptHandler (some (.Name y yp)) (some nm) [.Assign [.Name v vp] (.List es lp) sp] hp] [] [] pos => some ⟨body, y, yp, nm, v, vp, es, lp, sp, hp, pos⟩
  | _ => none
theorem trX_eq {x : Stmt} {q : TrX} (h : trX x = some q) : x = .Try q.body [.ExceptHandler (some (.Name q.y q.yp)) (some q.nm) [.Assign [.Name q.v q.vp] (.List q.es q.lp) q.sp] q.hp] [] [] q.pos := by
  unfold trX at h
  split at h
  · cases h; rfl
  · cases h
structure RsX where
  x : Str
  np : Pos
  y : Str
  j : Nat
  cp : Pos
  cpos : Pos
  pos : Pos
noncomputable def rsX : Stmt → Option RsX
  | .Raise (some (.Call (.Name x np) [.Constant (.str y) j cp] [] cpos)) none pos => some ⟨x, np, y, j, cp, cpos, pos⟩
  | _ => none
theorem rsX_eq {x : Stmt} {q : RsX} (h : rsX x = some q) : x = .Raise (some (.Call (.Name q.x q.np) [.Constant (.str q.y) q.j q.cp] [] q.cpos)) none q.pos := by
  unfold rsX at h
  split at h
  · cases h; rfl
  · cases h
structure AsX where
  y : Str
  yp : Pos
  x : Str
  xp : Pos
  e : Expr
  cp : Pos
  pos : Pos
noncomputable def asX : Stmt → Option AsX
  | .Assign [.Name y yp] (.Call (.Name x xp) [e] [] cp) pos => some ⟨y, yp, x, xp, e, cp, pos⟩
  | _ => none
theorem asX_eq {x : Stmt} {q : AsX} (h : asX x = some q) : x = .Assign [.Name q.y q.yp] (.Call (.Name q.x q.xp) [q.e] [] q.cp) q.pos := by
  unfold asX at h
  split at h
  · cases h; rfl
  · cases h
noncomputable def chkIs (c : Ck) (n : Nat) : List String → List Expr → Bool
  | [], [] => true
  | t :: ts, .Call (.Name f _) [.Name x _, .Name y _] [] _ :: es => Str.ofString "isinstance" == f && c.gl f && c.B.contains "isinstance" && c.N[n]? == some x && c.vis x && dbg x && Str.ofString t == y && c.gl y && dbg y && chkIs c n ts es
  | _, _ => false
noncomputable def keyIs' (k : Option Str) : Bool := k == some (Str.ofString "key")
mutual
noncomputable def chkE : M → Ck → Expr → Bool
  | .cst .non, _, .Constant .none _ _ => true
  | .cst (.bl b), _, .Constant (.bool b') _ _ => b == b'
  | .cst (.int i), _, .Constant (.int j) _ _ => i == j
  | .cst (.str x), _, .Constant (.str y) _ _ => x == y
  | .var i, c, .Name x _ => c.N[i]? == some x && c.vis x && dbg x
  | .glb g, c, .Name x _ => Str.ofString g == x && c.gl x && dbg x
  | .bin o a b, c, .BinOp e p f _ => opOf o == p && chkE a c e && chkE b c f
  | .neg a, c, .UnaryOp .USub e _ => chkE a c e
  | .nott a, c, .UnaryOp .Not e _ => chkE a c e
  | .bo true as, c, .BoolOp .And es _ => chkA as c es
  | .bo false as, c, .BoolOp .Or es _ => chkA as c es
  | .cmp o a b, c, .Compare e [p] [f] _ => copOf o == p && chkE a c e && chkE b c f && constIs o f
  | .tup as, c, .Tuple es _ _ => chkA as c es
  | .lst as, c, .List es _ => chkA as c es
  | .idx a b, c, .Subscript e f _ => chkE a c e && chkE b c f
  | .sli a lo hi, c, .Subscript e (.Slice l h none _) _ => chkE a c e && chkO lo c l && chkO hi c h
  | .call f as, c, .Call (.Name x _) es [] _ => Str.ofString f == x && c.gl x && dbg x && c.F.contains f && chkA as c es
  | .prim p as, c, .Call (.Name x _) (e :: es) [] _ => Str.ofString (primNm p) == x && c.gl x && c.B.contains (primNm p) && chkA as c (e :: es)
  | .isi a t, c, .Call (.Name x _) [e, .Name y _] [] _ => Str.ofString "isinstance" == x && Str.ofString t == y && c.gl x && c.gl y && c.B.contains "isinstance" && c.B.contains t && clNames.contains t && chkE a c e
  | .meth p o as, c, .Call (.Attribute e x ap) es [] cp => Str.ofString (methNm p) == x && !isCall0 e && ap.endLine == cp.line && decide (es.length < 20) && chkE o c e && chkA as c es && okRecv p o
  | .comp N k keep tg it cd el, c, .ListComp elt [⟨t, i, fs, asy⟩] scope _ => asy == 0 && c.comp N k keep scope && tgOwn k tg && chkG tg (c.inner N scope) t && chkI it c i && chkC cd (c.inner N scope) fs && chkE el (c.inner N scope) elt && itT it t
  | .revl a, c, .Call (.Name x _) [.Call (.Name y _) [e] [] _] [] _ => Str.ofString "list" == x && Str.ofString "reversed" == y && c.gl x && c.gl y && c.B.contains "list" && c.B.contains "reversed" && chkE a c e
  | .dnil, _, .Dict [] [] _ => true
  | .dlit a b, c, .Dict [some e] [f] _ => chkE a c e && chkE b c f
  | .fld cl f a, c, .Attribute e x _ => Str.ofString f == x && isNm e && c.O.fd.contains (cl, f) && chkE a c e
  | .mcl cl m f o as, c, .Call (.Attribute e x ap) es [] cp => Str.ofString m == x && isNm e && ap.endLine == cp.line && decide (es.length < 20) && c.O.mt.contains (cl, m, f) && chkE o c e && chkA as c es
  | .new cl f, c, .Call (.Name x _) [] [] _ => Str.ofString cl == x && c.gl x && dbg x && c.O.nw.contains (cl, f)
  | .mink cl m f o a b, c, .Call (.Name x _) [e1, e2] [⟨k, .Attribute e y _, _⟩] _ => Str.ofString "min" == x && c.gl x && c.B.contains "min" && keyIs' k && Str.ofString m == y && isNm e && c.O.mt.contains (cl, m, f) && chkE a c e1 && chkE b c e2 && chkE o c e
  | _, _, _ => false
noncomputable def chkA : M → Ck → List Expr → Bool
  | .nul, _, [] => true
  | .cns a b, c, e :: es => chkE a c e && chkA b c es
  | _, _, _ => false
noncomputable def chkO : M → Ck → Option Expr → Bool
  | .nul, _, none => true
  | .cns a .nul, c, some e => chkE a c e
  | _, _, _ => false
noncomputable def chkC : M → Ck → List Expr → Bool
  | .nul, _, [] => true
  | .cns a .nul, c, [e] => chkE a c e
  | _, _, _ => false
noncomputable def chkI : M → Ck → Expr → Bool
  | .cns a .nul, c, e => chkE a c e
  | .enm a, c, .Call (.Name x _) [e] [] _ => Str.ofString "enumerate" == x && c.gl x && c.B.contains "enumerate" && chkE a c e
  | _, _, _ => false
noncomputable def chkG : M → Ck → Expr → Bool
  | .tvar i, c, .Name x _ => c.N[i]? == some x && c.own x
  | .ttup ts, c, .Tuple es _ _ => chkGs ts c es
  | .tsub a b, c, .Subscript e f _ => chkE a c e && chkE b c f
  | _, _, _ => false
noncomputable def chkGs : M → Ck → List Expr → Bool
  | .nul, _, [] => true
  | .cns a b, c, e :: es => chkG a c e && chkGs b c es
  | _, _, _ => false
noncomputable def chkS : M → Ck → Stmt → Bool
  | .asg t e, c, .Assign [tg] v _ => chkG t c tg && chkE e c v && (noTT tg v && !isComp v)
  | .ifs t a b, c, .If x y z _ => chkE t c x && chkB a c y && chkB b c z
  | .forr t i b, c, .For tg it body [] _ => chkG t c tg && chkI i c it && chkB b c body && itT i tg
  | .whl t b, c, .While x body [] _ => chkE t c x && chkB b c body
  | .ret e, c, .Return (some v) _ => chkE e c v
  | .exp e, c, .Expr v _ => chkE e c v && !isComp v
  | .rse, _, .Raise (some _) none _ => true
  | .ifx t a b, c, .If x y z _ => chkE t c x && chkB a c y && chkB b c z
  | .rsx cl, c, s => (match rsX s with | some q => Str.ofString cl == q.x && c.gl q.x && dbg q.x && c.rs && c.fn && c.O.rs.contains cl | none => false)
  | .rtk e, c, .Return (some v) _ => chkE e c v
  | .exx e, c, .Expr v _ => chkE e c v && !isComp v && xE c.O.rz e
  | .asq i e, c, .Assign [.Name y _] v _ => c.N[i]? == some y && c.own y && !isComp v && chkE e c v && xE c.O.rz e
  | .rtx e, c, .Return (some v) _ => chkE e c v && xE c.O.rz e
  | .whx t b, c, .While x body [] _ => chkE t c x && chkB b c body && xT c.O.rz t
  | .kls s, c, x => chkS s c x
  | .asx i f a, c, s => (match asX s with | some q => c.N[i]? == some q.y && c.own q.y && Str.ofString f == q.x && c.gl q.x && dbg q.x && c.fn && c.F.contains f && c.O.rz.contains f && chkE a c q.e | none => false)
  | .tri b cl n j ts tab, c, s => (match trX s with | some q => c.fn && xM b && chkB b { c with rs := false } q.body && Str.ofString cl == q.y && c.gl q.y && dbg q.y && c.N[n]? == some q.nm && c.names.lookup q.nm == some .local && c.N[j]? == some q.v && c.own q.v && chkIs c n ts q.es && tab.all (fun r => r.2.length == ts.length && c.O.ex.contains (cl, r.1, ts.zip r.2)) | none => false)
  | .sfd cl f o v, c, .Assign [.Attribute e x _] w _ => Str.ofString f == x && !isComp w && c.O.fd.contains (cl, f) && chkE o c e && chkE v c w
  | _, _, _ => false
noncomputable def chkB : M → Ck → List Stmt → Bool
  | .nul, _, [] => true
  | .cns a b, c, s :: ss => chkS a c s && chkB b c ss
  | _, _, _ => false
end
theorem cE_1 : chkE (.cst (.bl b)) (u1') (.Constant (.bool b') u2' u3') = (b == b') := rfl
theorem cE_2 : chkE (.cst (.int i)) (u1') (.Constant (.int j) u2' u3') = (i == j) := rfl
theorem cE_3 : chkE (.cst (.str x)) (u1') (.Constant (.str y) u2' u3') = (x == y) := rfl
theorem cE_4 : chkE (.var i) (c) (.Name x u1') = (c.N[i]? == some x && c.vis x && dbg x) := rfl
theorem cE_5 : chkE (.glb g) (c) (.Name x u1') = (Str.ofString g == x && c.gl x && dbg x) := rfl
theorem cE_6 : chkE (.bin o a b) (c) (.BinOp e p f u1') = (opOf o == p && chkE a c e && chkE b c f) := rfl
theorem cE_7 : chkE (.neg a) (c) (.UnaryOp .USub e u1') = (chkE a c e) := rfl
theorem cE_8 : chkE (.nott a) (c) (.UnaryOp .Not e u1') = (chkE a c e) := rfl
theorem cE_9 : chkE (.bo true as) (c) (.BoolOp .And es u1') = (chkA as c es) := rfl
theorem cE_10 : chkE (.bo false as) (c) (.BoolOp .Or es u1') = (chkA as c es) := rfl
theorem cE_11 : chkE (.cmp o a b) (c) (.Compare e [p] [f] u1') = (copOf o == p && chkE a c e && chkE b c f && constIs o f) := rfl
theorem cE_14 : chkE (.tup as) (c) (.Tuple es u1' u2') = (chkA as c es) := rfl
theorem cE_15 : chkE (.lst as) (c) (.List es u1') = (chkA as c es) := rfl
theorem cE_16 : chkE (.idx a b) (c) (.Subscript e f u1') = (chkE a c e && chkE b c f) := rfl
theorem cE_17 : chkE (.sli a lo hi) (c) (.Subscript e (.Slice l h none u1') u2') = (chkE a c e && chkO lo c l && chkO hi c h) := rfl
theorem cE_18 : chkE (.call f as) (c) (.Call (.Name x u1') es [] u2') = (Str.ofString f == x && c.gl x && dbg x && c.F.contains f && chkA as c es) := rfl
theorem cE_19 : chkE (.prim p as) (c) (.Call (.Name x u1') (e :: es) [] u2') = (Str.ofString (primNm p) == x && c.gl x && c.B.contains (primNm p) && chkA as c (e :: es)) := rfl
theorem cE_20 : chkE (.isi a t) (c) (.Call (.Name x u1') [e, .Name y u2'] [] u3') = (Str.ofString "isinstance" == x && Str.ofString t == y && c.gl x && c.gl y && c.B.contains "isinstance" && c.B.contains t && clNames.contains t && chkE a c e) := rfl
theorem cE_21 : chkE (.meth p o as) (c) (.Call (.Attribute e x ap) es [] cp) = (Str.ofString (methNm p) == x && !isCall0 e && ap.endLine == cp.line && decide (es.length < 20) && chkE o c e && chkA as c es && okRecv p o) := rfl
theorem cE_22 : chkE (.comp N k keep tg it cd el) (c) (.ListComp elt [⟨t, i, fs, asy⟩] scope u1') = (asy == 0 && c.comp N k keep scope && tgOwn k tg && chkG tg (c.inner N scope) t && chkI it c i && chkC cd (c.inner N scope) fs && chkE el (c.inner N scope) elt && itT it t) := rfl
theorem cE_23 : chkE (.revl a) (c) (.Call (.Name x u1') [.Call (.Name y u2') [e] [] u3'] [] u4') = (Str.ofString "list" == x && Str.ofString "reversed" == y && c.gl x && c.gl y && c.B.contains "list" && c.B.contains "reversed" && chkE a c e) := rfl
theorem cE_25 : chkE (.dlit a b) c (.Dict [some e] [f] u1') = (chkE a c e && chkE b c f) := rfl
theorem cE_26 : chkE (.fld cl f a) c (.Attribute e x u1') = (Str.ofString f == x && isNm e && c.O.fd.contains (cl, f) && chkE a c e) := rfl
theorem cE_27 : chkE (.mcl cl m f o as) c (.Call (.Attribute e x ap) es [] cp) = (Str.ofString m == x && isNm e && ap.endLine == cp.line && decide (es.length < 20) && c.O.mt.contains (cl, m, f) && chkE o c e && chkA as c es) := rfl
theorem cE_28 : chkE (.new cl f) c (.Call (.Name x u1') [] [] u2') = (Str.ofString cl == x && c.gl x && dbg x && c.O.nw.contains (cl, f)) := rfl
theorem cE_29 : chkE (.mink cl m f o a b) c (.Call (.Name x u1') [e1, e2] [⟨k, .Attribute e y u2', u3'⟩] u4') = (Str.ofString "min" == x && c.gl x && c.B.contains "min" && keyIs' k && Str.ofString m == y && isNm e && c.O.mt.contains (cl, m, f) && chkE a c e1 && chkE b c e2 && chkE o c e) := rfl
theorem cA_1 : chkA (.cns a b) c (e :: es) = (chkE a c e && chkA b c es) := rfl
theorem cGs_1 : chkGs (.cns a b) c (e :: es) = (chkG a c e && chkGs b c es) := rfl
theorem cB_1 : chkB (.cns a b) c (s :: ss) = (chkS a c s && chkB b c ss) := rfl
theorem cI_2 : chkI (.cns a .nul) (c) (e) = (chkE a c e) := rfl
theorem cI_3 : chkI (.enm a) (c) (.Call (.Name x u1') [e] [] u2') = (Str.ofString "enumerate" == x && c.gl x && c.B.contains "enumerate" && chkE a c e) := rfl
theorem cG_0 : chkG (.tvar i) (c) (.Name x u1') = (c.N[i]? == some x && c.own x) := rfl
theorem cG_1 : chkG (.ttup ts) (c) (.Tuple es u1' u2') = (chkGs ts c es) := rfl
theorem cG_2 : chkG (.tsub a b) (c) (.Subscript e f u1') = (chkE a c e && chkE b c f) := rfl
theorem cS_0 : chkS (.asg t e) (c) (.Assign [tg] v u1') = (chkG t c tg && chkE e c v && (noTT tg v && !isComp v)) := rfl
theorem cS_1 : chkS (.ifs t a b) (c) (.If x y z u1') = (chkE t c x && chkB a c y && chkB b c z) := rfl
theorem cS_2 : chkS (.forr t i b) (c) (.For tg it body [] u1') = (chkG t c tg && chkI i c it && chkB b c body && itT i tg) := rfl
theorem cS_3 : chkS (.whl t b) (c) (.While x body [] u1') = (chkE t c x && chkB b c body) := rfl
theorem cS_4 : chkS (.ret e) (c) (.Return (some v) u1') = (chkE e c v) := rfl
theorem cS_6 : chkS (.exp e) (c) (.Expr v u1') = (chkE e c v && !isComp v) := rfl

theorem cS_11 : chkS (.sfd cl f o v) c (.Assign [.Attribute e x u1'] w u2') = (Str.ofString f == x && !isComp w && c.O.fd.contains (cl, f) && chkE o c e && chkE v c w) := rfl
theorem cS_12 : chkS (.ifx t a b) (c) (.If x y z u1') = (chkE t c x && chkB a c y && chkB b c z) := rfl
theorem cS_13 {s : Stmt} : chkS (.rsx cl) c s = (match rsX s with | some q => Str.ofString cl == q.x && c.gl q.x && dbg q.x && c.rs && c.fn && c.O.rs.contains cl | none => false) := rfl
theorem cS_21 {x : Stmt} : chkS (.kls s) c x = chkS s c x := rfl
theorem cS_17 : chkS (.exx e) (c) (.Expr v u1') = (chkE e c v && !isComp v && xE c.O.rz e) := rfl
theorem cS_18 : chkS (.asq i e) (c) (.Assign [.Name y u1'] v u2') = (c.N[i]? == some y && c.own y && !isComp v && chkE e c v && xE c.O.rz e) := rfl
theorem cS_19 : chkS (.rtx e) (c) (.Return (some v) u1') = (chkE e c v && xE c.O.rz e) := rfl
theorem cS_20 : chkS (.whx t b) (c) (.While x body [] u1') = (chkE t c x && chkB b c body && xT c.O.rz t) := rfl
theorem cS_14 : chkS (.rtk e) (c) (.Return (some v) u1') = (chkE e c v) := rfl
theorem cS_15 {s : Stmt} : chkS (.asx i f a) c s = (match asX s with | some q => c.N[i]? == some q.y && c.own q.y && Str.ofString f == q.x && c.gl q.x && dbg q.x && c.fn && c.F.contains f && c.O.rz.contains f && chkE a c q.e | none => false) := rfl
theorem cS_16 {s : Stmt} : chkS (.tri b cl n j ts tab) c s = (match trX s with | some q => c.fn && xM b && chkB b { c with rs := false } q.body && Str.ofString cl == q.y && c.gl q.y && dbg q.y && c.N[n]? == some q.nm && c.names.lookup q.nm == some .local && c.N[j]? == some q.v && c.own q.v && chkIs c n ts q.es && tab.all (fun r => r.2.length == ts.length && c.O.ex.contains (cl, r.1, ts.zip r.2)) | none => false) := rfl
section
variable (K : PySem.W.Frag) (C : Pr)
noncomputable def tE (m : M) : TE := fun σ H Q => ∃ ρ S τ d S', RelS K ρ S H ∧ RelE K ρ H τ σ ∧ evE C m τ S = .ok d S' ∧ Fin K ρ H d S' Q
noncomputable def FinB (ρ : List Addr) (H : Hp) (S' : Store) (Q : Hp → Prop) : Prop := ∀ ρ' H', Fut K ρ H ρ' H' → RelS K ρ' S' H' → Q H'
noncomputable def tT (m : M) : TT := fun σ H Q => ∃ ρ S τ b S', RelS K ρ S H ∧ RelE K ρ H τ σ ∧ evT C m τ S = .ok b S' ∧ FinB K ρ H S' (Q b)
noncomputable def tC (m : M) : TT := fun σ H Q => ∃ ρ S τ b S', RelS K ρ S H ∧ RelE K ρ H τ σ ∧ evC C m τ S = .ok b S' ∧ FinB K ρ H S' (Q b)
noncomputable def tBV (w : Bool) (m : M) : TE := fun σ H Q => ∃ ρ S τ d S', RelS K ρ S H ∧ RelE K ρ H τ σ ∧ evBV C w m τ S = .ok d S' ∧ Fin K ρ H d S' Q
noncomputable def tBT (w : Bool) (m : M) : TT := fun σ H Q => ∃ ρ S τ b S', RelS K ρ S H ∧ RelE K ρ H τ σ ∧ evBT C w m τ S = .ok b S' ∧ FinB K ρ H S' (Q b)
noncomputable def tA (m : M) : TA := fun σ H Q => ∃ ρ S τ ds S', RelS K ρ S H ∧ RelE K ρ H τ σ ∧ evA C m τ S = .ok ds S' ∧ ∀ ρ' vs H', Fut K ρ H ρ' H' → RelS K ρ' S' H' → RelDs K ρ' H' ds vs → Q vs H'
noncomputable def tO (m : M) : TO := fun σ H Q => ∃ ρ S τ o S', RelS K ρ S H ∧ RelE K ρ H τ σ ∧ evO C m τ S = .ok o S' ∧ FinB K ρ H S' (Q o)
structure ItOk (ρ0 : List Addr) (H0 : Hp) (J : It) (g : Wk) (ds : List D) : Prop where
  go : ∀ ρ H S i d, Fut K ρ0 H0 ρ H → RelS K ρ S H → sameAt S g ds.length = true → nth S g ds i = some d → J.go i H ∧ ∀ x H', J.yld i H x H' → Fut K ρ H ρ H' ∧ RelS K ρ S H' ∧ RelD K ρ H' d x
  stop : ∀ ρ H S, Fut K ρ0 H0 ρ H → RelS K ρ S H → sameAt S g ds.length = true → J.stop ds.length H
noncomputable def tI (m : M) : TI := fun σ H R => ∃ ρ S τ g ds S', RelS K ρ S H ∧ RelE K ρ H τ σ ∧ evI C m τ S = .ok (g, ds) S' ∧ ∀ ρ' H' J, Fut K ρ H ρ' H' → RelS K ρ' S' H' → ItOk K ρ' H' J g ds → R J H'
noncomputable def FinG (ρ : List Addr) (H : Hp) (τ' : En) (S' : Store) (Q : L2.St → Hp → Prop) : Prop := ∀ ρ' σ' H', Fut K ρ H ρ' H' → RelS K ρ' S' H' → RelE K ρ' H' τ' σ' → Q σ' H'
noncomputable def tG (m : M) : TG := fun v σ H Q => ∃ ρ S τ d τ' S', RelS K ρ S H ∧ RelE K ρ H τ σ ∧ RelD K ρ H d v ∧ evG C m d τ S = .ok τ' S' ∧ FinG K ρ H τ' S' Q
noncomputable def tGs (m : M) : TGs := fun vs σ H Q => ∃ ρ S τ ds τ' S', RelS K ρ S H ∧ RelE K ρ H τ σ ∧ RelDs K ρ H ds vs ∧ evGs C m ds τ S = .ok τ' S' ∧ FinG K ρ H τ' S' Q
noncomputable def FlOk (ρ : List Addr) (H : Hp) (fl : Fl) (S' : Store) (D : Ends) : Prop := match fl with
  | .nx τ' => FinG K ρ H τ' S' D.nx
  | .bk τ' => FinG K ρ H τ' S' D.bk
  | .ct τ' => FinG K ρ H τ' S' D.ct
  | .rt d => Fin K ρ H d S' D.rt
noncomputable def tS (m : M) : TS := fun D σ H => ∃ ρ S τ fl S', RelS K ρ S H ∧ RelE K ρ H τ σ ∧ evS C m τ S = .ok fl S' ∧ FlOk K ρ H fl S' D
noncomputable def tB' (m : M) : TS := fun D σ H => ∃ ρ S τ fl S', RelS K ρ S H ∧ RelE K ρ H τ σ ∧ evB C m τ S = .ok fl S' ∧ FlOk K ρ H fl S' D
noncomputable def spM (f : String) : Sp := fun vs H Q _ => ∃ ρ S ds d S', RelS K ρ S H ∧ RelDs K ρ H ds vs ∧ C.call f ds S = .ok d S' ∧ Fin K ρ H d S' Q
noncomputable def ClsOf (c : String) (Cv : Value) : Prop := PySem.W.nsIn K mainGlobals (Str.ofString c) = some (some Cv)
noncomputable def spX (Z : List String) (f : String) : Sp := fun vs H Q E => spM K C f vs H Q E ∨ (f ∈ Z ∧ ∃ ρ S ds c τ S', RelS K ρ S H ∧ RelDs K ρ H ds vs ∧ C.call f ds S = .err c τ S' ∧ ∀ ρ' H' Cv, Fut K ρ H ρ' H' → RelS K ρ' S' H' → ClsOf K c Cv → E Cv none H')
noncomputable def tSX (W : Value → L2.St → Hp → Prop) (m : M) : TS := fun _ σ H => ∃ ρ S τ c τx S', RelS K ρ S H ∧ RelE K ρ H τ σ ∧ evS C m τ S = .err c τx S' ∧ ∀ ρ' σ' H' Cv, Fut K ρ H ρ' H' → RelS K ρ' S' H' → RelE K ρ' H' τx σ' → ClsOf K c Cv → W Cv σ' H'
noncomputable def tBX (W : Value → L2.St → Hp → Prop) (m : M) : TS := fun _ σ H => ∃ ρ S τ c τx S', RelS K ρ S H ∧ RelE K ρ H τ σ ∧ evB C m τ S = .err c τx S' ∧ ∀ ρ' σ' H' Cv, Fut K ρ H ρ' H' → RelS K ρ' S' H' → RelE K ρ' H' τx σ' → ClsOf K c Cv → W Cv σ' H'
noncomputable def IsC (mg : Str → Option Value) (Ca : Addr) (t : String) (b : Bool) : Prop := (∃ Ct, mg (Str.ofString t) = some (.ref Ct) ∧ PySem.W.kitOne K (.ref Ca) (.ref Ct) = some b) ∨ (t = "ValueError" ∧ mg (Str.ofString t) = none ∧ PySem.W.kitOne K (.ref Ca) (.type t) = some b)
end
structure Tp (P : Program) (w : World) (K : PySem.W.Frag) (mg : Str → Option Value) (base : Heap) (A : Around) (C : Pr) (B F : List String) (O : Ow) : Prop where
  fns : ∀ f ∈ F, ∃ k a fd ps, Room k A ∧ mg (Str.ofString f) = some (.ref a) ∧ FnOk P w K mg base (CX1 P w) k a fd ps (spX K C O.rz f) ∧ Binds K fd ps [] ∧ PySem.W.keepIn K (.ref a) = true
  blt : ∀ x ∈ B, mg (Str.ofString x) = none
  gl : ∀ x d, C.glob x = some d → ∃ v u, mg (Str.ofString x) = some u ∧ RelV v u ∧ (∀ ρ H, RelD K ρ H d v) ∧ ∀ ds, d = .tup ds → ∃ a o, v = .ref a ∧ K.lookup a = some o ∧ o.cls = .type "tuple" ∧ o.dict = none
  un : A.units + 64 < cLine
  mts : ∀ c m f, (c, m, f) ∈ O.mt → ∃ k a fd ps Ca, Room (k + 1) A ∧ PySem.W.nsIn K mainGlobals (Str.ofString c) = some (some (.ref Ca)) ∧ L2.Cls K Ca ∧ L2.Meth K Ca (Str.ofString m) a ∧ L2.MethB K (Str.ofString m) a ∧ FnOk P w K mg base (CX1 P w) k a fd ps (spX K C O.rz f) ∧ Binds K fd ps []
  fds : ∀ c f, (c, f) ∈ O.fd → ∃ Ca, PySem.W.nsIn K mainGlobals (Str.ofString c) = some (some (.ref Ca)) ∧ L2.Cls K Ca ∧ L2.NoAttr K Ca (Str.ofString f)
  nws : ∀ c f, (c, f) ∈ O.nw → ∃ k a fd ps Ca, Room (k + 1) A ∧ PySem.W.nsIn K mainGlobals (Str.ofString c) = some (some (.ref Ca)) ∧ mg (Str.ofString c) = some (.ref Ca) ∧ L2.Mk K Ca a ∧ FnOk P w K mg base (CX1 P w) k a fd ps (spX K C O.rz f) ∧ Binds K fd ps []
  rss : ∀ c ∈ O.rs, ∃ Ca, PySem.W.nsIn K mainGlobals (Str.ofString c) = some (some (.ref Ca)) ∧ mg (Str.ofString c) = some (.ref Ca) ∧ PySem.W.excIn K Ca bmVal "ValueError.__new__" = true
  exs : ∀ x c ts, (x, c, ts) ∈ O.ex → ∃ Cx Ca, mg (Str.ofString x) = some Cx ∧ PySem.W.nsIn K mainGlobals (Str.ofString c) = some (some (.ref Ca)) ∧ PySem.W.exmOne K (.ref Ca) Cx = some true ∧ L2.ExcCl K Ca ∧ (PySem.W.clsIn K Ca).isSome = true ∧ ∀ t b, (t, b) ∈ ts → IsC K mg Ca t b
structure Gd (X : Cx) (C : Pr) (c : Ck) : Prop where
  N : X.N = c.N
  nd : X.N.Nodup
  names : X.env.scope.names = c.names
  sk : X.env.scope.kind = .function
  fn : ∀ x, X.fn x = c.fn
  calm : X.calm = true
  xe : PassesOwn (model X.prog X.w) X.A X.env X.xe
  body : c.fn = true → Body X
  top : Tp X.prog X.w X.K X.mg X.base X.A C c.B c.F c.O
section
variable {X : Cx} {C : Pr} {c : Ck}
theorem PE.imp {e : Expr} {t t' : TE} (h : PE X e t) (hi : ∀ σ H Q, t' σ H Q → t σ H Q) : PE X e t' := fun pins s σ H Q I q => h pins s σ H Q I (hi _ _ _ q)
theorem PT.imp {e : Expr} {t t' : TT} (h : PT X e t) (hi : ∀ σ H Q, t' σ H Q → t σ H Q) : PT X e t' := fun pins s σ H Q I q => h pins s σ H Q I (hi _ _ _ q)
theorem PA.imp {e : List Expr} {t t' : TA} (h : PA X e t) (hi : ∀ σ H Q, t' σ H Q → t σ H Q) : PA X e t' := fun pos pins s σ H Q I q => h pos pins s σ H Q I (hi _ _ _ q)
theorem PI.imp {tg e : Expr} {t t' : TI} (h : PI X tg e t) (hi : ∀ σ H Q, t' σ H Q → t σ H Q) : PI X tg e t' := fun pins s σ H Q I q => h pins s σ H Q I (hi _ _ _ q)
theorem PO.imp {e : Option Expr} {t t' : TO} (h : PO X e t) (hi : ∀ σ H Q, t' σ H Q → t σ H Q) : PO X e t' := fun pins s σ H Q I q => h pins s σ H Q I (hi _ _ _ q)
theorem PG.imp {e : Expr} {t t' : TG} (h : PG X e t) (hi : ∀ v σ H Q, t' v σ H Q → t v σ H Q) : PG X e t' := fun pins s σ H v u Q I r q => h pins s σ H v u Q I r (hi _ _ _ _ q)
theorem PGs.imp {e : List Expr} {t t' : TGs} (h : PGs X e t) (hi : ∀ v σ H Q, t' v σ H Q → t v σ H Q) : PGs X e t' := fun pins s σ H v u Q I r q => h pins s σ H v u Q I r (hi _ _ _ _ q)
theorem PS.imp {e : Stmt} {t t' : TS} (h : PS X e t) (hi : ∀ D σ H, t' D σ H → t D σ H) : PS X e t' := fun pins s σ H D I q => h pins s σ H D I (hi _ _ _ q)
theorem PSs.imp {e : List Stmt} {t t' : TS} (h : PSs X e t) (hi : ∀ D σ H, t' D σ H → t D σ H) : PSs X e t' := fun pins s σ H D I q => h pins s σ H D I (hi _ _ _ q)
theorem PTs.imp {e : List Expr} {t t' : TT} (h : PTs X e t) (hi : ∀ σ H Q, t' σ H Q → t σ H Q) : PTs X e t' := fun pins s σ H Q I q => h pins s σ H Q I (hi _ _ _ q)
theorem PS.or {e : Stmt} {t u : TS} (h : PS X e t) (k : PS X e u) : PS X e (fun D σ H => t D σ H ∨ u D σ H) := fun pins s σ H D I q => q.elim (h pins s σ H D I) (k pins s σ H D I)
theorem PSs.or {e : List Stmt} {t u : TS} (h : PSs X e t) (k : PSs X e u) : PSs X e (fun D σ H => t D σ H ∨ u D σ H) := fun pins s σ H D I q => q.elim (h pins s σ H D I) (k pins s σ H D I)
structure Xg (X : Cx) (c : Ck) (W : Value → L2.St → Hp → Prop) : Prop where
  fly : ∀ pins σ H s s' e (E : XK), Inv X pins σ H s → CX1 X.prog X.w X.stack H s E e s' → (∀ Cv H', E Cv none H' → W Cv σ H') → X.xe e s'
  made : c.rs = true → ∀ pins σ H s h1 ea Ca us, Inv X pins σ H s → Heap.MadeExcOf s.heap h1 ea (.ref Ca) us → W (.ref Ca) σ H → X.xe (.ref ea) { s with heap := h1 }
theorem FnOk.ok0 {K : PySem.W.Frag} {P : Program} {w : World} {mg : Str → Option Value} {base : Heap} {k : Nat} {a : Addr} {fd : FuncData} {ps : List Str} {Z : List String} {f : String} (F : FnOk P w K mg base (CX1 P w) k a fd ps (spX K C Z f)) : FnOk P w K mg base CX0 k a fd ps (spM K C f) := F.to0 fun _ _ _ _ q => .inl q
theorem dbg1 {x : Str} (h : dbg x = true) : (x == ("__debug__" : Str)) = false := by unfold dbg at h; simp only [Bool.and_eq_true, Bool.not_eq_true'] at h; exact h.1
theorem dbg2 {x : Str} (h : dbg x = true) : (x == ("__classdict__" : Str)) = false := by unfold dbg at h; simp only [Bool.and_eq_true, Bool.not_eq_true'] at h; exact h.2
theorem Gd.vis (g : Gd X C c) {x : Str} (h : c.vis x = true) : Vis X.env.scope x := by
  unfold Ck.vis at h
  simp only [Bool.or_eq_true, beq_iff_eq] at h
  unfold Vis
  rw [g.names]
  rcases h with (h | h) | h
  · exact .inl h
  · exact .inr (.inl h)
  · exact .inr (.inr h)
theorem Gd.own (g : Gd X C c) {x : Str} (h : c.own x = true) : L2.Loc X.env.scope x ∧ (X.fn x = true ∨ X.env.scope.names.lookup x = some .local) := by
  unfold Ck.own at h
  unfold L2.Loc
  rw [g.names, g.fn]
  split at h
  · rename_i hf
    simp only [Bool.or_eq_true, beq_iff_eq] at h
    exact ⟨h, .inl hf⟩
  · simp only [beq_iff_eq] at h
    exact ⟨.inl h, .inr h⟩
theorem Gd.glo (g : Gd X C c) {x : Str} (h : c.gl x = true) : Gl X x := by
  unfold Ck.gl at h
  simp only [beq_iff_eq] at h
  unfold Gl Env.kindOf
  rw [g.names]
  exact h
theorem noStar : ∀ {m : M} {c : Ck} {e : Expr}, chkE m c e = true → ∀ x p, e ≠ .Starred x p := by
  intro m c e h x p z
  subst z
  cases m <;> first | (exact absurd h Bool.false_ne_true) | (rename_i d; cases d <;> exact absurd h Bool.false_ne_true) | (rename_i w _; cases w <;> exact absurd h Bool.false_ne_true)
theorem star_cons {e : Expr} {es : List Expr} {env : Env} (h : ∀ x p, e ≠ .Starred x p) : starEach (e :: es) env = (false, eval e env) :: starEach es env := by
  cases e <;> first | rfl | exact absurd rfl (h _ _)
theorem assign_cons {e : Expr} {es : List Expr} {env : Env} (h : ∀ x p, e ≠ .Starred x p) : assignEach (e :: es) env = (false, assign e env) :: assignEach es env := by
  cases e <;> first | rfl | exact absurd rfl (h _ _)
theorem noStars : ∀ {m : M} {c : Ck} {es : List Expr} {env : Env}, chkA m c es = true → (starEach es env).any (·.1) = false := by
  intro m
  induction m with
  | nul => intro c es env h; cases es <;> first | rfl | exact absurd h Bool.false_ne_true
  | cns a b _ ihb =>
    intro c es env h
    cases es with
    | nil => exact absurd h Bool.false_ne_true
    | cons e es =>
      simp only [cA_1, Bool.and_eq_true] at h
      rw [star_cons (noStar h.1), List.any_cons, ihb h.2]
      rfl
  | _ => intro c es env h; exact absurd h Bool.false_ne_true
theorem backTo_any (pos : Pos) (l : List (Bool × Sem Value)) : (backTo pos l).any (·.1) = l.any (·.1) := by
  unfold backTo
  rw [List.any_map]
  rfl
theorem backTo_all (pos : Pos) (l : List (Bool × Sem Value)) (h : l.any (·.1) = false) : (backTo pos l).all (fun x => !x.1) = true := by
  unfold backTo
  rw [List.all_map]
  rw [List.any_eq_false] at h
  rw [List.all_eq_true]
  intro x hx
  have := h x hx
  simpa using this
theorem plainIx : ∀ {m : M} {c : Ck} {e : Expr}, chkE m c e = true → PlainIx e := by
  intro m c e h o i
  cases e <;> first | rfl | (exfalso; cases m <;> first | (exact absurd h Bool.false_ne_true) | (rename_i d; cases d <;> exact absurd h Bool.false_ne_true) | (rename_i w _; cases w <;> exact absurd h Bool.false_ne_true))
theorem mem_contains {l : List String} {x : String} (h : l.contains x = true) : x ∈ l := by simpa using h
theorem marks {o : Cop} {e : Expr} (h : constIs o e = true) (p : CmpOp) : behindInMarks p e = false := by
  cases e <;> first | rfl | (cases o <;> exact absurd h Bool.false_ne_true)
end
end Mi

namespace Mi
open PySem L2
structure Snd (C : Pr) (m : M) : Prop where
  e : ∀ (X : Cx) (c : Ck) (x : Expr), Gd X C c → chkE m c x = true → PE X x (tE X.K C m)
  t : ∀ (X : Cx) (c : Ck) (x : Expr), Gd X C c → chkE m c x = true → PT X x (tT X.K C m)
  a : ∀ (X : Cx) (c : Ck) (x : List Expr), Gd X C c → chkA m c x = true → PA X x (tA X.K C m)
  bv : ∀ (X : Cx) (c : Ck) (w : Bool) (x : List Expr) (pos : Pos), Gd X C c → chkA m c x = true → PE X (.BoolOp (if w then .And else .Or) x pos) (tBV X.K C w m)
  bt : ∀ (X : Cx) (c : Ck) (w : Bool) (x : List Expr) (pos : Pos), Gd X C c → chkA m c x = true → PW X (.BoolOp (if w then .And else .Or) x pos) (tBT X.K C w m)
  o : ∀ (X : Cx) (c : Ck) (x : Option Expr), Gd X C c → chkO m c x = true → PO X x (tO X.K C m)
  cd : ∀ (X : Cx) (c : Ck) (x : List Expr), Gd X C c → chkC m c x = true → PTs X x (tC X.K C m)
  i : ∀ (X : Cx) (c : Ck) (tg x : Expr), Gd X C c → chkI m c x = true → itT m tg = true → PI X tg x (tI X.K C m) ∧ ∀ v, foldedSetIterable x X.env v = pure v
  g : ∀ (X : Cx) (c : Ck) (x : Expr), Gd X C c → chkG m c x = true → PG X x (tG X.K C m)
  gs : ∀ (X : Cx) (c : Ck) (x : List Expr), Gd X C c → chkGs m c x = true → PGs X x (tGs X.K C m)
  s : ∀ (X : Cx) (c : Ck) (x : Stmt), Gd X C c → chkS m c x = true → PS X x (tS X.K C m)
  b : ∀ (X : Cx) (c : Ck) (x : List Stmt), Gd X C c → chkB m c x = true → PSs X x (tB' X.K C m)
section
variable {C : Pr} {X : Cx} {c : Ck}
theorem pe_no {e : Expr} {t : TE} (h : ∀ σ H Q, ¬ t σ H Q) : PE X e t := fun pins s σ H Q _ q => absurd q (h _ _ _)
theorem pt_no {e : Expr} {t : TT} (h : ∀ σ H Q, ¬ t σ H Q) : PT X e t := fun pins s σ H Q _ q => absurd q (h _ _ _)
theorem tE_no {m : M} {K : PySem.W.Frag} (h : ∀ τ S, evE C m τ S = .bad) : ∀ σ H Q, ¬ tE K C m σ H Q := by
  rintro σ H Q ⟨ρ, S, τ, d, S', _, _, e, _⟩
  rw [h] at e
  cases e
theorem tT_no {m : M} {K : PySem.W.Frag} (h : ∀ τ S, evT C m τ S = .bad) : ∀ σ H Q, ¬ tT K C m σ H Q := by
  rintro σ H Q ⟨ρ, S, τ, d, S', _, _, e, _⟩
  rw [h] at e
  cases e
theorem foldset {e : Expr} {env : Env} (h : ∀ a b p, e ≠ .Set a b p) (v : Value) : foldedSetIterable e env v = pure v := by
  cases e <;> first | rfl | exact absurd rfl (h _ _ _)
theorem noSet : ∀ {m : M} {c : Ck} {e : Expr}, chkE m c e = true → ∀ a b p, e ≠ .Set a b p := by
  intro m c e h x q p z
  subst z
  cases m <;> first | (exact absurd h Bool.false_ne_true) | (rename_i d; cases d <;> exact absurd h Bool.false_ne_true) | (rename_i w _; cases w <;> exact absurd h Bool.false_ne_true)
theorem pt_of {m : M} {x : Expr} (h : PE X x (tE X.K C m)) (he : ∀ whole, isTrue x X.env whole = (do let v ← whole; standAt x.pos; holding [v] (truthy v)))
    (hv : ∀ τ S b S', evT C m τ S = .ok b S' → ∃ d, evE C m τ S = .ok d S' ∧ tru S' d = some b) : PT X x (tT X.K C m) := by
  refine PT.imp (pt_truth h he) fun σ H Q hq_ => ?_
  obtain ⟨ρ, S, τ, b, S', rs, re, e, fin⟩ := hq_
  obtain ⟨d, e1, e2⟩ := hv τ S b S' e
  exact ⟨ρ, S, τ, d, S', rs, re, e1, fun ρ' v H' f r q => ⟨b, tru_rel r q e2, fin ρ' H' f r⟩⟩
theorem snd_bin {o : Bop} {a b : M} (ha : Snd C a) (hb : Snd C b) : ∀ (X : Cx) (c : Ck) (x : Expr), Gd X C c → chkE (.bin o a b) c x = true → PE X x (tE X.K C (.bin o a b)) := by
  intro X c x g h
  cases x <;> try (exact absurd h Bool.false_ne_true)
  simp only [cE_6, Bool.and_eq_true, beq_iff_eq] at h
  obtain ⟨⟨rfl, h1⟩, h2⟩ := h
  refine PE.imp (pe_op (bop_ok o) (ha.e X c _ g h1) (hb.e X c _ g h2)) fun σ H Q hq_ => ?_
  obtain ⟨ρ, S, τ, d, S', rs, re, e, fin⟩ := hq_
  simp only [revE_3] at e
  obtain ⟨x1, S1, e1, e⟩ := Res.bind_eq_ok e
  obtain ⟨x2, S2, e2, e⟩ := Res.bind_eq_ok e
  refine ⟨ρ, S, τ, x1, S1, rs, re, e1, fun ρ1 v1 H1 f1 r1 q1 => ⟨ρ1, S1, τ, x2, S2, r1, re.fut f1, e2, fun ρ2 v2 H2 f2 r2 q2 => ?_⟩⟩
  exact ⟨ρ2, S2, x1, x2, d, S', r2, q1.fut f2, q2, e, fun ρ3 v3 H3 f3 r3 q3 => fin ρ3 v3 H3 (f1.trans (f2.trans f3)) r3 q3⟩
theorem snd_neg {a : M} (ha : Snd C a) : ∀ (X : Cx) (c : Ck) (x : Expr), Gd X C c → chkE (.neg a) c x = true → PE X x (tE X.K C (.neg a)) := by
  intro X c x g h
  cases x <;> try (exact absurd h Bool.false_ne_true)
  rename_i op e pos
  cases op <;> try (exact absurd h Bool.false_ne_true)
  simp only [cE_7] at h
  refine PE.imp (pe_un un_neg (ha.e X c _ g h)) fun σ H Q hq_ => ?_
  obtain ⟨ρ, S, τ, d, S', rs, re, e, fin⟩ := hq_
  simp only [revE_4] at e
  obtain ⟨x1, S1, e1, e⟩ := Res.bind_eq_ok e
  refine ⟨ρ, S, τ, x1, S1, rs, re, e1, fun ρ1 v1 H1 f1 r1 q1 => ?_⟩
  cases x1 <;> simp only at e <;> try (cases e; done)
  cases e
  exact ⟨_, q1.int_inv, fin ρ1 _ H1 f1 r1 (RelD.int _)⟩
theorem pe_notT {a : Expr} {ta : TE} {pos : Pos} (ha : PE X a ta) : PE X (.UnaryOp .Not a pos) (fun σ H Q => ta σ H fun x H1 => ∃ k, TruV X.K x H1 k ∧ Q (.bl (!k)) H1) := by
  intro pins s σ H Q I h
  refine PyProof.Rows.UnaryOp_ (thn (ha pins s σ H _ I h) fun v s1 ⟨x, H1, I1, r1, q1⟩ => ?_)
  obtain ⟨k, hk, q⟩ := q1
  refine PyProof.Rows.not_of (thn (tru_ok pins s1 σ H1 x v (fun b H2 => Q (.bl (!b)) H2) I1 r1 ⟨k, hk, q⟩) fun b s2 ⟨H2, I2, q2⟩ => ?_)
  exact ⟨.bl (!b), H2, I2, rfl, q2⟩
theorem snd_not {a : M} (ha : Snd C a) : ∀ (X : Cx) (c : Ck) (x : Expr), Gd X C c → chkE (.nott a) c x = true → PE X x (tE X.K C (.nott a)) ∧ PT X x (tT X.K C (.nott a)) := by
  intro X c x g h
  cases x <;> try (exact absurd h Bool.false_ne_true)
  rename_i op e pos
  cases op <;> try (exact absurd h Bool.false_ne_true)
  simp only [cE_8] at h
  constructor
  · refine PE.imp (pe_notT (ha.e X c _ g h)) fun σ H Q hq_ => ?_
    obtain ⟨ρ, S, τ, d, S', rs, re, e, fin⟩ := hq_
    simp only [revE_5] at e
    obtain ⟨x1, S1, e1, e⟩ := Res.bind_eq_ok e
    refine ⟨ρ, S, τ, x1, S1, rs, re, e1, fun ρ1 v1 H1 f1 r1 q1 => ?_⟩
    split at e
    · rename_i b hb
      cases e
      exact ⟨b, tru_rel r1 q1 hb, fin ρ1 _ H1 f1 r1 (RelD.bl _)⟩
    · cases e
  · refine PT.imp (pt_not (ha.t X c _ g h)) fun σ H Q hq_ => ?_
    obtain ⟨ρ, S, τ, d, S', rs, re, e, fin⟩ := hq_
    simp only [revT_0] at e
    obtain ⟨x1, S1, e1, e⟩ := Res.bind_eq_ok e
    cases e
    exact ⟨ρ, S, τ, x1, _, rs, re, e1, fin⟩
theorem snd_cmp {o : Cop} {a b : M} (ha : Snd C a) (hb : Snd C b) : ∀ (X : Cx) (c : Ck) (x : Expr), Gd X C c → chkE (.cmp o a b) c x = true → PE X x (tE X.K C (.cmp o a b)) ∧ PT X x (tT X.K C (.cmp o a b)) := by
  intro X c x g h
  cases x <;> try (exact absurd h Bool.false_ne_true)
  rename_i l ops cs pos
  rcases ops with _ | ⟨p, _ | ⟨p2, ops⟩⟩ <;> rcases cs with _ | ⟨f, _ | ⟨f2, cs⟩⟩ <;> try (exact absurd h Bool.false_ne_true)
  simp only [cE_11] at h
  simp only [Bool.and_eq_true, beq_iff_eq] at h
  obtain ⟨⟨⟨rfl, h1⟩, h2⟩, h3⟩ := h
  have key : ∀ {ρ S τ k S' H σ} {Q : VK}, RelS X.K ρ S H → RelE X.K ρ H τ σ → (evE C a τ S).bind (fun x S1 => (evE C b τ S1).bind fun y S2 => match cop o x y S2 with | some k => (.ok (.bl k) S2 : Res D) | none => .bad) = .ok (.bl k) S' →
      FinB X.K ρ H S' (fun H' => Q (.bl k) H') → tOp (rC X.K o) (tE X.K C a) (tE X.K C b) σ H Q := fun {ρ S τ k S' H σ Q} rs re e fin => by
    obtain ⟨x1, S1, e1, e⟩ := Res.bind_eq_ok e
    obtain ⟨x2, S2, e2, e⟩ := Res.bind_eq_ok e
    refine ⟨ρ, S, τ, x1, S1, rs, re, e1, fun ρ1 v1 H1 f1 r1 q1 => ⟨ρ1, S1, τ, x2, S2, r1, re.fut f1, e2, fun ρ2 v2 H2 f2 r2 q2 => ?_⟩⟩
    split at e
    · rename_i k' hk
      cases e
      exact ⟨ρ2, _, x1, x2, _, r2, q1.fut f2, q2, hk, fin ρ2 H2 (f1.trans f2) r2⟩
    · cases e
  constructor
  · refine PE.imp (pe_cmpR (cop_ok o g.top.un) (ha.e X c _ g h1) (hb.e X c _ g h2) (marks h3 _)) fun σ H Q hq_ => ?_
    obtain ⟨ρ, S, τ, d, S', rs, re, e, fin⟩ := hq_
    simp only [revE_7] at e
    have hd : ∃ k, d = .bl k := by
      obtain ⟨x1, S1, e1, e⟩ := Res.bind_eq_ok e
      obtain ⟨x2, S2, e2, e⟩ := Res.bind_eq_ok e
      split at e
      · cases e; exact ⟨_, rfl⟩
      · cases e
    obtain ⟨k, rfl⟩ := hd
    exact key rs re e fun ρ' H' f r => fin ρ' _ H' f r (RelD.bl _)
  · refine PT.imp (pt_cmpR (cop_ok o g.top.un) (ha.e X c _ g h1) (hb.e X c _ g h2) (marks h3 _)) fun σ H Q hq_ => ?_
    obtain ⟨ρ, S, τ, k, S', rs, re, e, fin⟩ := hq_
    simp only [revT_2] at e
    have e' : (evE C a τ S).bind (fun x S1 => (evE C b τ S1).bind fun y S2 => match cop o x y S2 with | some k => (.ok (.bl k) S2 : Res D) | none => .bad) = .ok (.bl k) S' := by
      obtain ⟨x1, S1, e1, e⟩ := Res.bind_eq_ok e
      obtain ⟨x2, S2, e2, e⟩ := Res.bind_eq_ok e
      rw [e1, Res.bind_ok, e2, Res.bind_ok]
      split at e
      · rename_i hk; cases e; first | rfl | rw [hk]
      · cases e
    exact key rs re e' fun ρ' H' f r => ⟨k, rfl, fin ρ' H' f r⟩
end
end Mi

namespace Mi
open PySem L2
section
variable {C : Pr}
theorem snd_tup {as : M} (ha : Snd C as) : ∀ (X : Cx) (c : Ck) (x : Expr), Gd X C c → chkE (.tup as) c x = true → PE X x (tE X.K C (.tup as)) := by
  intro X c x g h
  cases x <;> try (exact absurd h Bool.false_ne_true)
  simp only [cE_14] at h
  refine PE.imp (pe_tup (ha.a X c _ g h)) fun σ H Q hq_ => ?_
  obtain ⟨ρ, S, τ, d, S', rs, re, e, fin⟩ := hq_
  simp only [revE_10] at e
  obtain ⟨ds, S1, e1, e⟩ := Res.bind_eq_ok e
  refine ⟨ρ, S, τ, ds, S1, rs, re, e1, fun ρ1 vs H1 f1 r1 q1 => ?_⟩
  split at e
  · rename_i hl
    cases e
    exact ⟨by rw [← q1.length, ← line_eq]; exact hl, Fin.newT (ρ := ρ1) (fun ρ2 v2 H2 f2 => fin ρ2 v2 H2 (f1.trans f2)) r1 q1⟩
  · cases e
theorem snd_lst {as : M} (ha : Snd C as) : ∀ (X : Cx) (c : Ck) (x : Expr), Gd X C c → chkE (.lst as) c x = true → PE X x (tE X.K C (.lst as)) := by
  intro X c x g h
  cases x <;> try (exact absurd h Bool.false_ne_true)
  simp only [cE_15] at h
  refine PE.imp (pe_lst (ha.a X c _ g h)) fun σ H Q hq_ => ?_
  obtain ⟨ρ, S, τ, d, S', rs, re, e, fin⟩ := hq_
  simp only [revE_11] at e
  obtain ⟨ds, S1, e1, e⟩ := Res.bind_eq_ok e
  refine ⟨ρ, S, τ, ds, S1, rs, re, e1, fun ρ1 vs H1 f1 r1 q1 => ?_⟩
  split at e
  · rename_i hl
    cases e
    exact ⟨by rw [← q1.length, ← line_eq]; exact hl, Fin.newL (ρ := ρ1) (fun ρ2 v2 H2 f2 => fin ρ2 v2 H2 (f1.trans f2)) r1 q1⟩
  · cases e
theorem snd_revl {a : M} (ha : Snd C a) : ∀ (X : Cx) (c : Ck) (x : Expr), Gd X C c → chkE (.revl a) c x = true → PE X x (tE X.K C (.revl a)) := by
  intro X c x g h
  cases x <;> try (exact absurd h Bool.false_ne_true)
  rename_i fn es kws pos
  cases fn <;> try (exact absurd h Bool.false_ne_true)
  rename_i y pp
  rcases es with _ | ⟨e0, es⟩ <;> try (exact absurd h Bool.false_ne_true)
  cases e0 <;> try (exact absurd h Bool.false_ne_true)
  rename_i fn2 es2 kws2 pos2
  cases fn2 <;> try (exact absurd h Bool.false_ne_true)
  rename_i z pz
  rcases es2 with _ | ⟨e0, _ | ⟨e1, es2⟩⟩ <;> cases kws2 <;> cases es <;> cases kws <;> try (exact absurd h Bool.false_ne_true)
  simp only [cE_23, Bool.and_eq_true, beq_iff_eq] at h
  obtain ⟨⟨⟨⟨⟨⟨rfl, rfl⟩, h1⟩, h2⟩, h3⟩, h4⟩, h5⟩ := h
  refine PE.imp (pe_listrev2 g.calm (g.glo h1) (g.top.blt _ (mem_contains h3)) (g.glo h2) (g.top.blt _ (mem_contains h4)) (pa_cons (ha.e X c _ g h5) pa_nil (star_cons (noStar h5))) (star_cons (noStar h5))) fun σ H Q hq_ => ?_
  obtain ⟨ρ, S, τ, d, S', rs, re, e, fin⟩ := hq_
  simp only [revE_19] at e
  obtain ⟨x, S1, e1, e⟩ := Res.bind_eq_ok e
  refine ⟨ρ, S, τ, x, S1, rs, re, e1, fun ρ1 v1 H1 f1 r1 q1 => ?_⟩
  cases x <;> try (exact absurd e bad_ne)
  · simp only at e
    split at e
    · rename_i es he
      cases e
      obtain ⟨p, xs, rfl, hl, hx, t⟩ := r1.lst q1 (seqAt_lst he)
      exact ⟨p, xs, rfl, .inr (SqL.of hx), Fin.newL (ρ := ρ1) (fun ρ2 v2 H2 f2 => fin ρ2 v2 H2 (f1.trans f2)) r1 t.reverse⟩
    · cases e
theorem snd_idx {a b : M} (ha : Snd C a) (hb : Snd C b) : ∀ (X : Cx) (c : Ck) (x : Expr), Gd X C c → chkE (.idx a b) c x = true → PE X x (tE X.K C (.idx a b)) ∧ PT X x (tT X.K C (.idx a b)) := by
  intro X c x g h
  cases x <;> try (exact absurd h Bool.false_ne_true)
  rename_i vx sx px
  simp only [cE_16, Bool.and_eq_true] at h
  have pe : PE X (.Subscript vx sx px) (tE X.K C (.idx a b)) := by
    refine PE.imp (pe_ix (idx_ok (Nat.lt_of_le_of_lt (Nat.add_le_add_left (by decide : 1 ≤ 64) _) g.top.un)) (ha.e X c _ g h.1) (hb.e X c _ g h.2) (plainIx h.2)) fun σ H Q hq_ => ?_
    obtain ⟨ρ, S, τ, d, S', rs, re, e, fin⟩ := hq_
    simp only [revE_12] at e
    obtain ⟨x1, S1, e1, e⟩ := Res.bind_eq_ok e
    obtain ⟨x2, S2, e2, e⟩ := Res.bind_eq_ok e
    refine ⟨ρ, S, τ, x1, S1, rs, re, e1, fun ρ1 v1 H1 f1 r1 q1 => ⟨ρ1, S1, τ, x2, S2, r1, re.fut f1, e2, fun ρ2 v2 H2 f2 r2 q2 => ?_⟩⟩
    split at e
    · rename_i d' hd
      cases e
      exact ⟨ρ2, _, x1, x2, d, r2, q1.fut f2, q2, hd, fun ρ3 v3 H3 f3 r3 q3 => fin ρ3 v3 H3 (f1.trans (f2.trans f3)) r3 q3⟩
    · cases e
  refine ⟨pe, pt_of pe (fun _ => rfl) fun τ S b S' e => ?_⟩
  simp only [revT_5] at e
  obtain ⟨x1, S1, e1, e⟩ := Res.bind_eq_ok e
  obtain ⟨x2, S2, e2, e⟩ := Res.bind_eq_ok e
  split at e
  · rename_i d hd
    split at e
    · rename_i k hk
      cases e
      exact ⟨d, by simp only [revE_12]; rw [e1, Res.bind_ok, e2, Res.bind_ok, hd], hk⟩
    · cases e
  · cases e
theorem snd_sli {a l u : M} (ha : Snd C a) (hl : Snd C l) (hu : Snd C u) : ∀ (X : Cx) (c : Ck) (x : Expr), Gd X C c → chkE (.sli a l u) c x = true → PE X x (tE X.K C (.sli a l u)) := by
  intro X c x g h
  cases x <;> try (exact absurd h Bool.false_ne_true)
  rename_i e0 sl pos
  cases sl <;> try (exact absurd h Bool.false_ne_true)
  rename_i lo up st p2
  cases st <;> try (exact absurd h Bool.false_ne_true)
  simp only [cE_17, Bool.and_eq_true] at h
  refine PE.imp (pe_slice sli_ok (ha.e X c _ g h.1.1) (hl.o X c _ g h.1.2) (hu.o X c _ g h.2)) fun σ H Q hq_ => ?_
  obtain ⟨ρ, S, τ, d, S', rs, re, e, fin⟩ := hq_
  simp only [revE_13] at e
  obtain ⟨x1, S1, e1, e⟩ := Res.bind_eq_ok e
  obtain ⟨x2, S2, e2, e⟩ := Res.bind_eq_ok e
  obtain ⟨x3, S3, e3, e⟩ := Res.bind_eq_ok e
  refine ⟨ρ, S, τ, x1, S1, rs, re, e1, fun ρ1 v1 H1 f1 r1 q1 => ⟨ρ1, S1, τ, x2, S2, r1, re.fut f1, e2, fun ρ2 H2 f2 r2 => ⟨ρ2, S2, τ, x3, S3, r2, re.fut (f1.trans f2), e3, fun ρ3 H3 f3 r3 => ?_⟩⟩⟩
  exact ⟨ρ3, S3, x1, d, S', r3, q1.fut (f2.trans f3), e, fun ρ4 v4 H4 f4 r4 q4 => fin ρ4 v4 H4 (f1.trans (f2.trans (f3.trans f4))) r4 q4⟩
theorem snd_call {f : String} {as : M} (ha : Snd C as) : ∀ (X : Cx) (c : Ck) (x : Expr), Gd X C c → chkE (.call f as) c x = true → PE X x (tE X.K C (.call f as)) ∧ PT X x (tT X.K C (.call f as)) := by
  intro X c x g h
  cases x <;> try (exact absurd h Bool.false_ne_true)
  rename_i fn es kws pos
  cases fn <;> try (exact absurd h Bool.false_ne_true)
  rename_i y p
  cases kws <;> try (exact absurd h Bool.false_ne_true)
  simp only [cE_18, Bool.and_eq_true, beq_iff_eq] at h
  obtain ⟨⟨⟨⟨rfl, h1⟩, h2⟩, h3⟩, h4⟩ := h
  obtain ⟨k, a, fd, ps, hr, hm, F, hb, hk⟩ := g.top.fns f (mem_contains h3)
  have F := FnOk.ok0 F
  have pe : PE X (.Call (.Name (Str.ofString f) p) es [] pos) (tE X.K C (.call f as)) := by
    have rd : ∀ {t : TA}, (∀ σ H Q, tA X.K C as σ H Q → t σ H Q) → ∀ σ H Q, tE X.K C (.call f as) σ H Q → tCall (spM X.K C f) [] E0 t σ H Q := fun ht σ H Q ⟨ρ, S, τ, d, S', rs, re, e, fin⟩ => by
      simp only [revE_14] at e
      obtain ⟨ds, S1, e1, e⟩ := Res.bind_eq_ok e
      refine ht σ H _ ⟨ρ, S, τ, ds, S1, rs, re, e1, fun ρ1 vs H1 f1 r1 q1 => ?_⟩
      show spM X.K C f (vs ++ []) H1 Q E0
      rw [List.append_nil]
      exact ⟨ρ1, S1, ds, d, S', r1, q1, e, fun ρ2 v2 H2 f2 r2 q2 => fin ρ2 v2 H2 (f1.trans f2) r2 q2⟩
    cases es with
    | nil =>
      refine PE.imp (pe_call0 F hr (g.glo h1) hm hk hb .nil pass0 (dbg1 h2)) (rd fun σ H Q ⟨ρ, S, τ, ds, S', rs, re, e, fin⟩ => ?_)
      cases as <;> try (exact absurd h4 Bool.false_ne_true)
      simp only [revA_0] at e
      cases e
      exact fin ρ [] H Fut.refl rs RelDs.nil
    | cons e es =>
      cases as <;> try (exact absurd h4 Bool.false_ne_true)
      have h4' := h4
      simp only [cA_1, Bool.and_eq_true] at h4
      refine PE.imp (pe_call F hr (g.glo h1) hm hk hb .nil pass0 (ha.a X c _ g h4') (dbg1 h2) (star_cons (noStar h4.1)) (by rw [backTo_any]; exact noStars h4.2)) (rd fun σ H Q z => z)
  refine ⟨pe, pt_of pe (fun _ => rfl) fun τ S b S' e => ?_⟩
  simp only [revT_6] at e
  obtain ⟨ds, S1, e1, e⟩ := Res.bind_eq_ok e
  obtain ⟨d, S2, e2, e⟩ := Res.bind_eq_ok e
  split at e
  · rename_i k hk
    cases e
    exact ⟨d, by simp only [revE_14]; rw [e1, Res.bind_ok, e2], hk⟩
  · cases e
theorem snd_prim {p : Prim} {as : M} (ha : Snd C as) : ∀ (X : Cx) (c : Ck) (x : Expr), Gd X C c → chkE (.prim p as) c x = true → PE X x (tE X.K C (.prim p as)) ∧ PT X x (tT X.K C (.prim p as)) := by
  intro X c x g h
  cases x <;> try (exact absurd h Bool.false_ne_true)
  rename_i fn es kws pos
  cases fn <;> try (exact absurd h Bool.false_ne_true)
  rename_i y pp
  cases kws <;> cases es <;> try (exact absurd h Bool.false_ne_true)
  rename_i e0 es
  simp only [cE_19, Bool.and_eq_true, beq_iff_eq] at h
  obtain ⟨⟨⟨rfl, h1⟩, h2⟩, h3⟩ := h
  have hm := g.top.blt _ (mem_contains h2)
  have hs : (∀ x p, e0 ≠ .Starred x p) ∧ (starEach es X.env).any (·.1) = false := by
    cases as <;> try (exact absurd h3 Bool.false_ne_true)
    simp only [cA_1, Bool.and_eq_true] at h3
    exact ⟨noStar h3.1, noStars h3.2⟩
  have rd : ∀ σ H Q, tE X.K C (.prim p as) σ H Q → tCB (rP X.K p) (tA X.K C as) σ H Q := fun σ H Q ⟨ρ, S, τ, d, S', rs, re, e, fin⟩ => by
    simp only [revE_15] at e
    obtain ⟨ds, S1, e1, e⟩ := Res.bind_eq_ok e
    refine ⟨ρ, S, τ, ds, S1, rs, re, e1, fun ρ1 vs H1 f1 r1 q1 => ?_⟩
    exact ⟨ρ1, S1, ds, d, S', r1, q1, e, fun ρ2 v2 H2 f2 r2 q2 => fin ρ2 v2 H2 (f1.trans f2) r2 q2⟩
  have pe : PE X (.Call (.Name (Str.ofString (primNm p)) pp) (e0 :: es) [] pos) (tE X.K C (.prim p as)) := by
    have hp := prim_ok (X := X) p g.calm
    have hb := boot_prim p
    unfold primVal at hp hb
    by_cases ht : primTy p = true
    · rw [if_pos ht] at hp hb
      exact PE.imp (pe_callTy hp (g.glo h1) hm hb (ha.a X c _ g h3) (name_prim p) (debug_prim p) (star_cons hs.1) (by rw [backTo_any]; exact hs.2)) rd
    · rw [if_neg ht] at hp hb
      exact PE.imp (pe_callB hp (g.glo h1) hm hb (ha.a X c _ g h3) (name_prim p) (debug_prim p) (star_cons hs.1) (by rw [backTo_any]; exact hs.2)) rd
  refine ⟨pe, pt_of pe (fun _ => rfl) fun τ S b S' e => ?_⟩
  simp only [revT_7] at e
  obtain ⟨ds, S1, e1, e⟩ := Res.bind_eq_ok e
  obtain ⟨d, S2, e2, e⟩ := Res.bind_eq_ok e
  split at e
  · rename_i k hk
    cases e
    exact ⟨d, by simp only [revE_15]; rw [e1, Res.bind_ok, e2], hk⟩
  · cases e
theorem boot_cl : ∀ t ∈ clNames, bootBuiltins (Str.ofString t) = some (.type t) ∧ Str.ofString t ≠ "__name__" ∧ (Str.ofString t == ("__debug__" : Str)) = false := by
  intro t ht
  simp only [clNames, List.mem_cons, List.not_mem_nil, or_false] at ht
  rcases ht with rfl | rfl | rfl <;> exact ⟨by kernel_rfl, by decide +kernel, by decide +kernel⟩
theorem snd_isi {a : M} {t : String} (ha : Snd C a) : ∀ (X : Cx) (c : Ck) (x : Expr), Gd X C c → chkE (.isi a t) c x = true → PE X x (tE X.K C (.isi a t)) ∧ PT X x (tT X.K C (.isi a t)) := by
  intro X c x g h
  cases x <;> try (exact absurd h Bool.false_ne_true)
  rename_i fn es kws pos
  cases fn <;> try (exact absurd h Bool.false_ne_true)
  rename_i y pp
  rcases es with _ | ⟨e0, _ | ⟨e1, _ | ⟨e2, es⟩⟩⟩ <;> cases kws <;> try (exact absurd h Bool.false_ne_true)
  all_goals (cases e1 <;> try (exact absurd h Bool.false_ne_true))
  rename_i y2 p2
  simp only [cE_20, Bool.and_eq_true, beq_iff_eq] at h
  obtain ⟨⟨⟨⟨⟨⟨⟨rfl, rfl⟩, h1⟩, h2⟩, h3⟩, h4⟩, h5⟩, h6⟩ := h
  have ht : t ∈ clNames := by simpa using h5
  obtain ⟨b1, b2, b3⟩ := boot_cl t ht
  have py : PE X (.Name (Str.ofString t) p2) (L2.tC (.ty t)) := pe_bltn (g.glo h2) (g.top.blt _ (mem_contains h4)) b1 rfl b2 b3
  have pa : PA X [e0, .Name (Str.ofString t) p2] (tCons (tE X.K C a) (tCons (L2.tC (.ty t)) tNil)) := pa_cons (ha.e X c _ g h6) (pa_cons py pa_nil) (star_cons (noStar h6))
  have pe : PE X (.Call (.Name (Str.ofString "isinstance") pp) [e0, .Name (Str.ofString t) p2] [] pos) (tE X.K C (.isi a t)) := by
    refine PE.imp (pe_callB (isi_ok ht) (g.glo h1) (g.top.blt _ (mem_contains h3)) (by kernel_rfl) pa (by decide +kernel) (by decide +kernel) (star_cons (noStar h6)) (by rw [backTo_any]; rfl)) fun σ H Q hq_ => ?_
    obtain ⟨ρ, S, τ, d, S', rs, re, e, fin⟩ := hq_
    simp only [revE_16] at e
    obtain ⟨x1, S1, e1, e⟩ := Res.bind_eq_ok e
    refine ⟨ρ, S, τ, x1, S1, rs, re, e1, fun ρ1 v1 H1 f1 r1 q1 => ?_⟩
    split at e
    · rename_i ty hy
      cases e
      exact ⟨ρ1, _, x1, v1, ty, r1, rfl, q1, hy, fin ρ1 _ H1 f1 r1 (RelD.bl _)⟩
    · cases e
  refine ⟨pe, pt_of pe (fun _ => rfl) fun τ S b S' e => ?_⟩
  simp only [revT_8] at e
  obtain ⟨x1, S1, e1, e⟩ := Res.bind_eq_ok e
  split at e
  · rename_i ty hy
    cases e
    exact ⟨_, by simp only [revE_16]; rw [e1, Res.bind_ok, hy], rfl⟩
  · cases e
theorem chkA_cons {as : M} {c : Ck} {e : Expr} {es : List Expr} (h : chkA as c (e :: es) = true) : ∃ a b, as = .cns a b := by
  cases as <;> first | exact ⟨_, _, rfl⟩ | exact absurd h Bool.false_ne_true
theorem chkA_nil {as : M} {c : Ck} (h : chkA as c [] = true) : as = .nul := by
  cases as <;> first | rfl | exact absurd h Bool.false_ne_true
theorem snd_meth {p : Meth} {o as : M} (ho : Snd C o) (ha : Snd C as) : ∀ (X : Cx) (c : Ck) (x : Expr), Gd X C c → chkE (.meth p o as) c x = true → PE X x (tE X.K C (.meth p o as)) := by
  intro X c x g h
  cases x <;> try (exact absurd h Bool.false_ne_true)
  rename_i fn es kws pos
  cases fn <;> try (exact absurd h Bool.false_ne_true)
  rename_i e0 y ap
  cases kws <;> try (exact absurd h Bool.false_ne_true)
  simp only [cE_21, Bool.and_eq_true, beq_iff_eq, decide_eq_true_eq] at h
  obtain ⟨⟨⟨⟨⟨⟨rfl, h1⟩, h2⟩, h3⟩, h4⟩, h5⟩, h6⟩ := h
  have hbase : ∀ nm, attributeBase e0 nm X.env (eval e0 X.env) = eval e0 X.env := fun nm => by
    cases e0 <;> try rfl
    rename_i f0 a0 k0 p0
    cases f0 <;> try rfl
    cases a0 <;> try rfl
    cases k0 <;> try rfl
    simp [isCall0] at h1
  have hline : (ap.endLine == pos.line) = true := by simpa using h2
  have few : ∀ {e1 : Expr} {es' : List Expr}, es = e1 :: es' → chkA as c (e1 :: es') = true → ((backTo pos (starEach (e1 :: es') X.env)).all (fun x => !x.1) && (backToKw pos (keywordEach [] X.env)).all (fun x => x.1.isSome) && decide ((e1 :: es').length + ([] : List Keyword).length + (if ([] : List Keyword).isEmpty then 0 else 1) < 30)) = true := fun {e1 es'} ee h5' => by
    subst ee
    rw [backTo_all _ _ (noStars (env := X.env) h5')]
    simp only [Bool.true_and, Bool.and_eq_true, decide_eq_true_eq]
    exact ⟨rfl, by simp only [List.length_nil, List.isEmpty_nil, if_true]; omega⟩
  -- the reading: the receiver is a list
  have rd : (True ∧ True) → ∀ {t : TA}, (∀ σ H Q, tA X.K C as σ H Q → t σ H Q) → ∀ σ H Q, tE X.K C (.meth p o as) σ H Q → (tE X.K C o σ H fun x H1 => tyV X.K "list" x H1 ∧ t σ H1 fun xs H2 => rM X.K p x xs H2 Q) := fun hp {t} ht σ H Q ⟨ρ, S, τ, d, S', rs, re, e, fin⟩ => by
    simp only [revE_17] at e
    obtain ⟨x1, S1, e1, e⟩ := Res.bind_eq_ok e
    split at e <;> try (exact absurd e bad_ne)
    rename_i hrc
    obtain ⟨ds, S2, e2, e⟩ := Res.bind_eq_ok e
    refine ⟨ρ, S, τ, x1, S1, rs, re, e1, fun ρ1 v1 H1 f1 r1 q1 => ⟨?_, ht σ H1 _ ⟨ρ1, S1, τ, ds, S2, r1, re.fut f1, e2, fun ρ2 vs H2 f2 r2 q2 => ?_⟩⟩⟩
    · have hl : ∃ l, x1 = .loc l := by
        cases p <;> first | (cases x1 <;> first | exact ⟨_, rfl⟩ | exact absurd e bad_ne | (rcases ds with _ | ⟨y, _ | ⟨z, ds⟩⟩ <;> exact absurd e bad_ne))
      obtain ⟨l, rfl⟩ := hl
      obtain ⟨es, he⟩ := Option.isSome_iff_exists.mp (show (seqAt S1 l).isSome = true from hrc)
      obtain ⟨p, xs, rfl, hl, hx, t⟩ := r1.lst q1 (seqAt_lst he)
      exact .inl ⟨rfl, xs, SqL.of hx⟩
    · exact ⟨ρ2, S2, x1, ds, d, S', r2, q1.fut f2, q2, e, fun ρ3 v3 H3 f3 r3 q3 => fin ρ3 v3 H3 (f1.trans (f2.trans f3)) r3 q3⟩
  have run : (True ∧ True) → ∀ (slot : Slot "list" (Str.ofString (methNm p)) (methId p)) (hty : typeOf (.builtin (methId p)) = pure (.type "method_descriptor")), PE X (.Call (.Attribute e0 (Str.ofString (methNm p)) ap) es [] pos) (tE X.K C (.meth p o as)) := fun hp slot hty => by
    cases es with
    | nil =>
      refine PE.imp (pe_bm0 PySem.F.plainAttrs_list slot hty (meth_ok p g.top.un) (ho.e X c _ g h4) (hbase _) hline) fun σ H Q z => rd hp (t := fun _ H Q => Q [] H) (fun σ H Q ⟨ρ, S, τ, ds, S', rs, re, e, fin⟩ => ?_) σ H Q z
      obtain rfl := chkA_nil h5
      simp only [revA_0] at e
      cases e
      exact fin ρ [] H Fut.refl rs RelDs.nil
    | cons e1 es =>
      obtain ⟨a0, b0, rfl⟩ := chkA_cons h5
      have h5' := h5
      simp only [cA_1, Bool.and_eq_true] at h5
      exact PE.imp (pe_bm PySem.F.plainAttrs_list slot hty (meth_ok p g.top.un) (ho.e X c _ g h4) (ha.a X c _ g h5') (hbase _) (few rfl h5') hline (star_cons (noStar h5.1)) (by rw [backTo_any]; exact noStars h5.2)) (rd hp fun σ H Q z => z)
  cases p with
  | append => exact run ⟨trivial, trivial⟩ PySem.F.slot_list_append PySem.F.type_list_append
end
end Mi

namespace Mi
open PySem L2
section
variable {C : Pr}
theorem snd_cst {d : D} : ∀ (X : Cx) (c : Ck) (x : Expr), Gd X C c → chkE (.cst d) c x = true → PE X x (tE X.K C (.cst d)) := by
  intro X c x g h
  cases d <;> cases x <;> try (exact absurd h Bool.false_ne_true)
  all_goals (rename_i k _ _; cases k <;> try (exact absurd h Bool.false_ne_true))
  · refine PE.imp pe_non fun σ H Q hq_ => ?_
    obtain ⟨ρ, S, τ, d, S', rs, re, e, fin⟩ := hq_
    simp only [revE_0] at e
    cases e
    exact fin.now rs RelD.non
  · simp only [cE_1, beq_iff_eq] at h
    subst h
    refine PE.imp pe_bl fun σ H Q hq_ => ?_
    obtain ⟨ρ, S, τ, d, S', rs, re, e, fin⟩ := hq_
    simp only [revE_0] at e
    cases e
    exact fin.now rs (RelD.bl _)
  · simp only [cE_2, beq_iff_eq] at h
    subst h
    refine PE.imp pe_int fun σ H Q hq_ => ?_
    obtain ⟨ρ, S, τ, d, S', rs, re, e, fin⟩ := hq_
    simp only [revE_0] at e
    cases e
    exact fin.now rs (RelD.int _)
  · simp only [cE_3, beq_iff_eq] at h
    subst h
    refine PE.imp pe_str fun σ H Q hq_ => ?_
    obtain ⟨ρ, S, τ, d, S', rs, re, e, fin⟩ := hq_
    simp only [revE_0] at e
    cases e
    exact fin.now rs (RelD.str _)
theorem snd_var {i : Nat} : ∀ (X : Cx) (c : Ck) (x : Expr), Gd X C c → chkE (.var i) c x = true → PE X x (tE X.K C (.var i)) ∧ PT X x (tT X.K C (.var i)) := by
  intro X c x g h
  cases x <;> try (exact absurd h Bool.false_ne_true)
  rename_i y p
  simp only [cE_4, Bool.and_eq_true, beq_iff_eq] at h
  obtain ⟨⟨h1, h2⟩, h3⟩ := h
  have pe : PE X (.Name y p) (tE X.K C (.var i)) := by
    refine PE.imp (pe_var (i := i) (by rw [g.N]; exact h1) (g.vis h2) (dbg1 h3) (dbg2 h3)) fun σ H Q hq_ => ?_
    obtain ⟨ρ, S, τ, d, S', rs, re, e, fin⟩ := hq_
    simp only [revE_1] at e
    split at e
    · rename_i d' hd
      cases e
      obtain ⟨v, hv, q⟩ := re.at' i _ hd
      exact ⟨v, hv, fin.now rs q⟩
    · cases e
  refine ⟨pe, pt_of pe (fun _ => rfl) fun τ S b S' e => ?_⟩
  simp only [revT_4] at e
  split at e
  · rename_i d hd
    split at e
    · rename_i b' hb
      cases e
      exact ⟨d, by simp only [revE_1]; rw [hd], hb⟩
    · cases e
  · cases e
theorem snd_glb {n : String} : ∀ (X : Cx) (c : Ck) (x : Expr), Gd X C c → chkE (.glb n) c x = true → PE X x (tE X.K C (.glb n)) := by
  intro X c x g h
  cases x <;> try (exact absurd h Bool.false_ne_true)
  rename_i y p
  simp only [cE_5, Bool.and_eq_true, beq_iff_eq] at h
  obtain ⟨⟨rfl, h2⟩, h3⟩ := h
  cases e0 : C.glob n with
  | none => exact pe_no (tE_no fun τ S => by simp only [revE_2]; rw [e0])
  | some d =>
    obtain ⟨v, u, hm, r, hr, _⟩ := g.top.gl n d e0
    refine PE.imp (pe_glob (g.glo h2) hm r (dbg1 h3)) fun σ H Q hq_ => ?_
    obtain ⟨ρ, S, τ, d, S', rs, re, e, fin⟩ := hq_
    simp only [revE_2] at e
    rw [e0] at e
    cases e
    exact fin.now rs (hr ρ H)
theorem snd_bv {a b : M} (ha : Snd C a) (hb : Snd C b) : ∀ (X : Cx) (c : Ck) (w : Bool) (x : List Expr) (pos : Pos), Gd X C c → chkA (.cns a b) c x = true → PE X (.BoolOp (if w then .And else .Or) x pos) (tBV X.K C w (.cns a b)) := by
  intro X c w x pos g h
  cases x with
  | nil => exact absurd h Bool.false_ne_true
  | cons e es =>
    have h0 := h
    simp only [cA_1, Bool.and_eq_true] at h
    cases b <;> try (exact absurd h.2 Bool.false_ne_true)
    · cases es with
      | cons e1 es => exact absurd h.2 Bool.false_ne_true
      | nil =>
        refine PE.imp (pe_one (ha.e X c e g h.1)) fun σ H Q hq_ => ?_
        obtain ⟨ρ, S, τ, d, S', rs, re, e, fin⟩ := hq_
        simp only [revBV_0] at e
        exact ⟨ρ, S, τ, d, S', rs, re, e, fin⟩
    · rename_i a' b'
      cases es with
      | nil => exact absurd h.2 Bool.false_ne_true
      | cons e1 es =>
        have hbv := hb.bv X c w (e1 :: es) pos g h.2
        cases w with
        | true =>
          refine PE.imp (pe_and (ha.e X c e g h.1) hbv) fun σ H Q hq_ => ?_
          obtain ⟨ρ, S, τ, d, S', rs, re, e, fin⟩ := hq_
          simp only [revBV_1] at e
          obtain ⟨x1, S1, e1, e⟩ := Res.bind_eq_ok e
          refine ⟨ρ, S, τ, x1, S1, rs, re, e1, fun ρ1 v1 H1 f1 r1 q1 => ?_⟩
          cases x1 <;> simp only at e <;> try (cases e; done)
          rename_i k
          refine ⟨k, q1.bl_inv, ?_⟩
          cases k with
          | true =>
            rw [if_pos rfl] at e ⊢
            exact ⟨ρ1, S1, τ, d, S', r1, re.fut f1, e, fun ρ2 v2 H2 f2 => fin ρ2 v2 H2 (f1.trans f2)⟩
          | false =>
            rw [if_neg Bool.false_ne_true] at e ⊢
            cases e
            exact fin ρ1 _ H1 f1 r1 (RelD.bl _)
        | false =>
          refine PE.imp (pe_or (ha.e X c e g h.1) hbv) fun σ H Q hq_ => ?_
          obtain ⟨ρ, S, τ, d, S', rs, re, e, fin⟩ := hq_
          simp only [revBV_1] at e
          obtain ⟨x1, S1, e1, e⟩ := Res.bind_eq_ok e
          refine ⟨ρ, S, τ, x1, S1, rs, re, e1, fun ρ1 v1 H1 f1 r1 q1 => ?_⟩
          cases x1 <;> simp only at e <;> try (cases e; done)
          rename_i k
          refine ⟨k, q1.bl_inv, ?_⟩
          cases k with
          | false =>
            rw [if_pos rfl] at e
            rw [if_neg Bool.false_ne_true]
            exact ⟨ρ1, S1, τ, d, S', r1, re.fut f1, e, fun ρ2 v2 H2 f2 => fin ρ2 v2 H2 (f1.trans f2)⟩
          | true =>
            rw [if_neg (by decide)] at e
            rw [if_pos rfl]
            cases e
            exact fin ρ1 _ H1 f1 r1 (RelD.bl _)
theorem snd_bt {a b : M} (ha : Snd C a) (hb : Snd C b) : ∀ (X : Cx) (c : Ck) (w : Bool) (x : List Expr) (pos : Pos), Gd X C c → chkA (.cns a b) c x = true → PW X (.BoolOp (if w then .And else .Or) x pos) (tBT X.K C w (.cns a b)) := by
  intro X c w x pos g h
  cases x with
  | nil => exact absurd h Bool.false_ne_true
  | cons e es =>
    simp only [cA_1, Bool.and_eq_true] at h
    cases b <;> try (exact absurd h.2 Bool.false_ne_true)
    · cases es with
      | cons e1 es => exact absurd h.2 Bool.false_ne_true
      | nil =>
        have hi : ∀ σ H Q, tBT X.K C w (.cns a .nul) σ H Q → tT X.K C a σ H Q := fun σ H Q ⟨ρ, S, τ, d, S', rs, re, e, fin⟩ => by
          simp only [revBT_0] at e
          exact ⟨ρ, S, τ, d, S', rs, re, e, fin⟩
        cases w with
        | true => exact fun wh pins s σ H Q I q => pw_and1 (ha.t X c e g h.1) wh pins s σ H Q I (hi _ _ _ q)
        | false => exact fun wh pins s σ H Q I q => pw_or1 (ha.t X c e g h.1) wh pins s σ H Q I (hi _ _ _ q)
    · rename_i a' b'
      cases es with
      | nil => exact absurd h.2 Bool.false_ne_true
      | cons e1 es =>
        have hbv := hb.bt X c w (e1 :: es) pos g h.2
        cases w with
        | true =>
          refine fun wh pins s σ H Q I q => pw_and (ha.t X c e g h.1) hbv wh pins s σ H Q I ?_
          obtain ⟨ρ, S, τ, d, S', rs, re, e, fin⟩ := q
          simp only [revBT_1] at e
          obtain ⟨k, S1, e1, e⟩ := Res.bind_eq_ok e
          refine ⟨ρ, S, τ, k, S1, rs, re, e1, fun ρ1 H1 f1 r1 => ?_⟩
          cases k with
          | true =>
            rw [if_pos rfl] at e ⊢
            exact ⟨ρ1, S1, τ, d, S', r1, re.fut f1, e, fun ρ2 H2 f2 => fin ρ2 H2 (f1.trans f2)⟩
          | false =>
            rw [if_neg Bool.false_ne_true] at e ⊢
            cases e
            exact fin ρ1 H1 f1 r1
        | false =>
          refine fun wh pins s σ H Q I q => pw_or (ha.t X c e g h.1) hbv wh pins s σ H Q I ?_
          obtain ⟨ρ, S, τ, d, S', rs, re, e, fin⟩ := q
          simp only [revBT_1] at e
          obtain ⟨k, S1, e1, e⟩ := Res.bind_eq_ok e
          refine ⟨ρ, S, τ, k, S1, rs, re, e1, fun ρ1 H1 f1 r1 => ?_⟩
          cases k with
          | false =>
            rw [if_pos rfl] at e
            rw [if_neg Bool.false_ne_true]
            exact ⟨ρ1, S1, τ, d, S', r1, re.fut f1, e, fun ρ2 H2 f2 => fin ρ2 H2 (f1.trans f2)⟩
          | true =>
            rw [if_neg (by decide)] at e
            rw [if_pos rfl]
            cases e
            exact fin ρ1 H1 f1 r1
theorem snd_bo {w : Bool} {as : M} (ha : Snd C as) : ∀ (X : Cx) (c : Ck) (x : Expr), Gd X C c → chkE (.bo w as) c x = true → PE X x (tE X.K C (.bo w as)) ∧ PT X x (tT X.K C (.bo w as)) := by
  intro X c x g h
  have main : ∀ es pos, chkA as c es = true → PE X (.BoolOp (if w then .And else .Or) es pos) (tE X.K C (.bo w as)) ∧ PT X (.BoolOp (if w then .And else .Or) es pos) (tT X.K C (.bo w as)) := fun es pos h => by
    refine ⟨PE.imp (ha.bv X c w es pos g h) fun σ H Q ⟨ρ, S, τ, d, S', rs, re, e, fin⟩ => ?_, PT.imp (ha.bt X c w es pos g h).pt fun σ H Q ⟨ρ, S, τ, d, S', rs, re, e, fin⟩ => ?_⟩
    · simp only [revE_6] at e
      exact ⟨ρ, S, τ, d, S', rs, re, e, fin⟩
    · simp only [revT_1] at e
      exact ⟨ρ, S, τ, d, S', rs, re, e, fin⟩
  cases w <;> cases x <;> try (exact absurd h Bool.false_ne_true)
  all_goals (rename_i op es pos; cases op <;> try (exact absurd h Bool.false_ne_true))
  all_goals (simp only [cE_9, cE_10] at h; exact main es pos h)
noncomputable def iSeq (K : PySem.W.Frag) (tl : TE) : TI := fun σ H R => tl σ H fun x H1 => ∃ a, x = .ref a ∧ (((∃ xs, SqL K H1 a xs) ∧ R (Itl K a) H1) ∨ False)
theorem pi_seq {X : Cx} {tg l : Expr} {tl : TE} (hl : PE X l tl) : PI X tg l (iSeq X.K tl) := by
  intro pins s σ H R I h
  refine thn (hl pins s σ H _ I h) fun v s1 hq_ => ?_
  obtain ⟨x, H1, I1, r1, q1⟩ := hq_
  obtain ⟨a, e, q1⟩ := q1
  subst e
  cases r1
  rcases q1 with ⟨⟨xs, hq⟩, q⟩ | z
  · obtain ⟨its, rv, p, hz⟩ := I1.list hq
    refine wpAny_pyIter_list p.isList ?_
    refine ⟨s1.heap.objs.size, [s1.heap.objs.size], _, _, H1, rfl, I1.kept (t' := s1.toks) fun b o e => Heap.get?_push_of_some _ e, turn_list a _, ⟨_, Heap.get?_push_size _ rfl, rfl, rfl⟩, fun b hb => ?_, q⟩
    have e : b = s1.heap.objs.size := by simpa using hb
    subst e
    exact I1.fpOk (Nat.le_refl _) (I1.hok.fresh (Nat.le_refl _))
  · exact z.elim
theorem itok_lst {K : PySem.W.Frag} {ρ : List Addr} {H : Hp} {l : Nat} {a : Addr} (hl : ρ[l]? = some a) (ds : List D) : ItOk K ρ H (Itl K a) (some (l, .lst)) ds where
  go := fun ρ' H' S i d f r s e => by
    simp only [nth] at e
    split at e
    · rename_i es he
      have ha := f.get hl
      obtain ⟨xs, hx, q⟩ := r.ob l a _ ha (seqAt_lst he)
      obtain ⟨v, hv, rv⟩ := q.get e
      refine ⟨⟨xs, v, SqL.of hx, hv⟩, fun x H2 ⟨e1, e2⟩ => ?_⟩
      subst e1
      refine ⟨Fut.refl, r, ?_⟩
      have := e2 xs (SqL.of hx)
      rw [hv] at this
      cases this
      exact rv
    · cases e
  stop := fun ρ' H' S f r s => by
    simp only [sameAt] at s
    split at s
    · rename_i es he
      obtain ⟨xs, hx, q⟩ := r.ob l a _ (f.get hl) he
      refine ⟨xs, SqL.of hx, ?_⟩
      rw [← q.length]
      simp only [beq_iff_eq] at s
      omega
    · cases s
theorem itok_enm {K : PySem.W.Frag} {ρ : List Addr} {H : Hp} {l : Nat} {a : Addr} (hl : ρ[l]? = some a) (ds : List D) : ItOk K ρ H (Ite K a) (some (l, .enm)) ds where
  go := fun ρ' H' S i d f r s e => by
    simp only [nth] at e
    split at e
    · rename_i es he
      simp only [Option.map_eq_some_iff] at e
      obtain ⟨d0, e, rfl⟩ := e
      have ha := f.get hl
      obtain ⟨xs, hx, q⟩ := r.ob l a _ ha (seqAt_lst he)
      obtain ⟨v, hv, rv⟩ := q.get e
      refine ⟨⟨xs, v, SqL.of hx, hv⟩, fun x H2 ⟨p, y, hp, e1, e2, e3⟩ => ?_⟩
      subst e1 e2
      have := e3 xs (SqL.of hx)
      rw [hv] at this
      cases this
      refine ⟨fut_new0 hp, r.new hp, ?_⟩
      simp only [RelD]
      exact ⟨p, _, rfl, .inl (.inl upd_same), RelDs.cons (by simp only [RelD]) (RelDs.cons (rv.fut (fut_new0 hp)) RelDs.nil)⟩
    · cases e
  stop := fun ρ' H' S f r s => by
    simp only [sameAt] at s
    split at s
    · rename_i es he
      obtain ⟨xs, hx, q⟩ := r.ob l a _ (f.get hl) he
      refine ⟨xs, SqL.of hx, ?_⟩
      rw [← q.length]
      simp only [beq_iff_eq] at s
      omega
    · cases s
theorem snd_i_seq {a : M} (ha : Snd C a) : ∀ (X : Cx) (c : Ck) (tg x : Expr), Gd X C c → chkE a c x = true → PI X tg x (tI X.K C (.cns a .nul)) := by
  intro X c tg x g h
  refine PI.imp (pi_seq (ha.e X c x g h)) fun σ H R hq_ => ?_
  obtain ⟨ρ, S, τ, gg, ds, S', rs, re, e, fin⟩ := hq_
  simp only [revI_2] at e
  obtain ⟨d, S1, e1, e⟩ := Res.bind_eq_ok e
  refine ⟨ρ, S, τ, d, S1, rs, re, e1, fun ρ1 v1 H1 f1 r1 q1 => ?_⟩
  split at e
  · split at e
    · rename_i es he
      cases e
      obtain ⟨p, xs, rfl, hl, hx, t⟩ := r1.lst q1 (seqAt_lst he)
      exact ⟨p, rfl, .inl ⟨⟨xs, SqL.of hx⟩, fin ρ1 H1 _ f1 r1 (itok_lst hl _)⟩⟩
    · cases e
  · cases e
theorem snd_i_enm {a : M} (ha : Snd C a) : ∀ (X : Cx) (c : Ck) (tg x : Expr), Gd X C c → chkI (.enm a) c x = true → itT (.enm a) tg = true → PI X tg x (tI X.K C (.enm a)) := by
  intro X c tg x g h ht
  cases x <;> try (exact absurd h Bool.false_ne_true)
  rename_i fn es kws pos
  cases fn <;> try (exact absurd h Bool.false_ne_true)
  rename_i y pp
  rcases es with _ | ⟨e0, _ | ⟨e1, es⟩⟩ <;> cases kws <;> try (exact absurd h Bool.false_ne_true)
  cases tg <;> try (exact absurd ht Bool.false_ne_true)
  simp only [cI_3, Bool.and_eq_true, beq_iff_eq] at h
  obtain ⟨⟨⟨rfl, h1⟩, h2⟩, h3⟩ := h
  refine PI.imp (pi_enum (g.glo h1) (g.top.blt _ (mem_contains h2)) (pa_cons (ha.e X c _ g h3) pa_nil (star_cons (noStar h3))) (star_cons (noStar h3))) fun σ H R hq_ => ?_
  obtain ⟨ρ, S, τ, gg, ds, S', rs, re, e, fin⟩ := hq_
  simp only [revI_3] at e
  obtain ⟨d, S1, e1, e⟩ := Res.bind_eq_ok e
  refine ⟨ρ, S, τ, d, S1, rs, re, e1, fun ρ1 v1 H1 f1 r1 q1 => ?_⟩
  split at e
  · split at e
    · rename_i es he
      cases e
      obtain ⟨p, xs, rfl, hl, hx, t⟩ := r1.lst q1 (seqAt_lst he)
      exact ⟨p, rfl, ⟨xs, SqL.of hx⟩, fin ρ1 H1 _ f1 r1 (itok_enm hl _)⟩
    · cases e
  · cases e
end
end Mi

namespace Mi
open PySem L2
section
variable {C : Pr}
theorem noStarG : ∀ {m : M} {c : Ck} {e : Expr}, chkG m c e = true → ∀ x p, e ≠ .Starred x p := by
  intro m c e h x p z
  subst z
  cases m <;> exact absurd h Bool.false_ne_true
theorem gs_len : ∀ {m : M} {c : Ck} {es : List Expr} {env : Env}, chkGs m c es = true → (assignEach es env).length = es.length ∧ (assignEach es env).findIdx? (·.1) = none := by
  intro m
  induction m with
  | nul => intro c es env h; cases es <;> first | exact ⟨rfl, rfl⟩ | exact absurd h Bool.false_ne_true
  | cns a b _ ihb =>
    intro c es env h
    cases es with
    | nil => exact absurd h Bool.false_ne_true
    | cons e es =>
      simp only [cGs_1, Bool.and_eq_true] at h
      rw [assign_cons (noStarG h.1)]
      obtain ⟨h1, h2⟩ := ihb (env := env) h.2
      refine ⟨by rw [List.length_cons, List.length_cons, h1], ?_⟩
      rw [List.findIdx?_cons, h2]
      rfl
  | _ => intro c es env h; exact absurd h Bool.false_ne_true
theorem gs_ev : ∀ {m : M} {c : Ck} {es : List Expr} {ds : List D} {τ τ' : En} {S S' : Store}, chkGs m c es = true → evGs C m ds τ S = .ok τ' S' → ds.length = es.length := by
  intro m
  induction m with
  | nul =>
    intro c es ds τ τ' S S' h e
    cases es <;> try (exact absurd h Bool.false_ne_true)
    cases ds <;> simp only [revGs_0] at e
    · rfl
    · cases e
  | cns a b _ ihb =>
    intro c es ds τ τ' S S' h e
    cases es with
    | nil => exact absurd h Bool.false_ne_true
    | cons x es =>
      simp only [cGs_1, Bool.and_eq_true] at h
      cases ds with
      | nil => simp only [revGs_1] at e; cases e
      | cons d ds =>
        simp only [revGs_1] at e
        obtain ⟨τ1, S1, e1, e⟩ := Res.bind_eq_ok e
        rw [List.length_cons, List.length_cons, ihb h.2 e]
  | _ => intro c es ds τ τ' S S' h; exact absurd h Bool.false_ne_true
theorem snd_g_var {i : Nat} : ∀ (X : Cx) (c : Ck) (x : Expr), Gd X C c → chkG (.tvar i) c x = true → PG X x (tG X.K C (.tvar i)) := by
  intro X c x g h
  cases x <;> try (exact absurd h Bool.false_ne_true)
  rename_i y p
  simp only [cG_0, Bool.and_eq_true, beq_iff_eq] at h
  obtain ⟨h1, h2⟩ := h
  obtain ⟨o1, o2⟩ := g.own h2
  refine PG.imp (pg_name (i := i) g.nd (by rw [g.N]; exact h1) o1 o2) fun v σ H Q hq_ => ?_
  obtain ⟨ρ, S, τ, d, τ', S', rs, re, rd, e, fin⟩ := hq_
  simp only [revG_0] at e
  split at e
  · cases e
    exact fin ρ _ H Fut.refl rs (re.set rd i)
  · cases e
theorem snd_g_tup {ts : M} (ha : Snd C ts) : ∀ (X : Cx) (c : Ck) (x : Expr), Gd X C c → chkG (.ttup ts) c x = true → PG X x (tG X.K C (.ttup ts)) := by
  intro X c x g h
  cases x <;> try (exact absurd h Bool.false_ne_true)
  rename_i es k p
  simp only [cG_1] at h
  refine PG.imp (pg_tup g.calm (ha.gs X c _ g h) (gs_len h).1 (gs_len h).2) fun v σ H Q hq_ => ?_
  obtain ⟨ρ, S, τ, d, τ', S', rs, re, rd, e, fin⟩ := hq_
  simp only [revG_1] at e
  split at e
  · rename_i ds
    obtain ⟨a, xs, rfl, sq, t⟩ := rd.tup_inv
    exact ⟨a, xs, rfl, sq, by rw [← t.length]; exact gs_ev h e, ρ, S, τ, ds, τ', S', rs, re, t, e, fin⟩
  · cases e
theorem snd_g_sub {a b : M} (ha : Snd C a) (hb : Snd C b) : ∀ (X : Cx) (c : Ck) (x : Expr), Gd X C c → chkG (.tsub a b) c x = true → PG X x (tG X.K C (.tsub a b)) := by
  intro X c x g h
  cases x <;> try (exact absurd h Bool.false_ne_true)
  rename_i o i p
  simp only [cG_2, Bool.and_eq_true] at h
  have nsl : ∀ l u t p, i ≠ .Slice l u t p := by
    intro l u t p z
    subst z
    have h2 := h.2
    cases b <;> first | (exact absurd h2 Bool.false_ne_true) | (rename_i d; cases d <;> exact absurd h2 Bool.false_ne_true) | (rename_i w _; cases w <;> exact absurd h2 Bool.false_ne_true)
  refine PG.imp (pg_sub (ha.e X c _ g h.1) (hb.e X c _ g h.2) (set_ok (Nat.lt_of_le_of_lt (Nat.add_le_add_left (by decide : 1 ≤ 64) _) g.top.un)) (by
    intro v
    cases i <;> first | rfl | exact absurd rfl (nsl _ _ _ _))) fun v σ H Q ⟨ρ, S, τ, d, τ', S', rs, re, rd, e, fin⟩ => ?_
  simp only [revG_2] at e
  obtain ⟨d1, S1, e1, e⟩ := Res.bind_eq_ok e
  obtain ⟨d2, S2, e2, e⟩ := Res.bind_eq_ok e
  obtain ⟨_, S3, e3, e⟩ := Res.bind_eq_ok e
  cases e
  refine ⟨ρ, S, τ, d1, S1, rs, re, e1, fun ρ1 v1 H1 f1 r1 q1 => ⟨ρ1, S1, τ, d2, S2, r1, re.fut f1, e2, fun ρ2 v2 H2 f2 r2 q2 => ?_⟩⟩
  refine ⟨ρ2, S2, d1, d2, d, S', r2, q1.fut f2, q2, rd.fut (f1.trans f2), e3, fun H3 f3 r3 => ?_⟩
  have f := f1.trans (f2.trans f3)
  exact fin ρ2 σ H3 f r3 (re.fut f)
theorem snd_gs_cns {a b : M} (ha : Snd C a) (hb : Snd C b) : ∀ (X : Cx) (c : Ck) (x : List Expr), Gd X C c → chkGs (.cns a b) c x = true → PGs X x (tGs X.K C (.cns a b)) := by
  intro X c x g h
  cases x with
  | nil => exact absurd h Bool.false_ne_true
  | cons e es =>
    simp only [cGs_1, Bool.and_eq_true] at h
    refine PGs.imp (pgs_cons (ha.g X c _ g h.1) (hb.gs X c _ g h.2) (by rw [assign_cons (noStarG h.1)]; rfl)) fun vs σ H Q hq_ => ?_
    obtain ⟨ρ, S, τ, ds, τ', S', rs, re, rd, e, fin⟩ := hq_
    cases ds with
    | nil => simp only [revGs_1] at e; cases e
    | cons d ds =>
      simp only [revGs_1] at e
      obtain ⟨τ1, S1, e1, e⟩ := Res.bind_eq_ok e
      obtain ⟨v, r, rfl, q, t⟩ := rd.inv_cons
      refine ⟨v, r, rfl, ρ, S, τ, d, τ1, S1, rs, re, q, e1, fun ρ1 σ1 H1 f1 r1 q1 => ?_⟩
      exact ⟨ρ1, S1, τ1, ds, τ', S', r1, q1, t.fut f1, e, fun ρ2 σ2 H2 f2 => fin ρ2 σ2 H2 (f1.trans f2)⟩
theorem snd_gs_nul : ∀ (X : Cx) (c : Ck) (x : List Expr), Gd X C c → chkGs .nul c x = true → PGs X x (tGs X.K C .nul) := by
  intro X c x g h
  cases x with
  | cons e es => exact absurd h Bool.false_ne_true
  | nil =>
    refine PGs.imp pgs_nil fun vs σ H Q hq_ => ?_
    obtain ⟨ρ, S, τ, ds, τ', S', rs, re, rd, e, fin⟩ := hq_
    cases ds with
    | cons d ds => simp only [revGs_0] at e; cases e
    | nil =>
      simp only [revGs_0] at e
      cases e
      exact ⟨rd.inv_nil, fin ρ σ H Fut.refl rs re⟩
theorem Ck.compOk {X : Cx} {c : Ck} {N : List String} {k : Nat} {keep : List Nat} {scope : Scope} (g : Gd X C c) (h : c.comp N k keep scope = true) : CompOk X (N.map Str.ofString) k keep scope ∧ (N.map Str.ofString).Nodup := by
  unfold Ck.comp at h
  simp only [Bool.and_eq_true, List.all_eq_true, beq_iff_eq, bne_iff_ne, Bool.or_eq_true, decide_eq_true_eq] at h
  obtain ⟨⟨⟨⟨⟨⟨h1, h2⟩, h3⟩, h4⟩, h5⟩, h6⟩, h7⟩ := h
  refine ⟨⟨h1, h2, fun y hy hl => ?_, fun y hy hf => ?_, by rw [List.length_map]; exact h5, fun j i hj => ?_⟩, h6⟩
  · rcases h3 y hy with z | z
    · exact absurd hl z
    · exact z
  · rw [g.names]
    rcases h4 y hy with (z | z) | z
    · exact absurd hf z
    · exact .inl z
    · exact .inr z
  · have hlt := (List.getElem?_eq_some_iff.mp hj).1
    have := h7 j (by simpa using hlt)
    rw [hj] at this
    split at this
    · rename_i i' x e1 e2
      cases e1
      simp only [Bool.and_eq_true, beq_iff_eq] at this
      exact ⟨x, e2, by rw [g.N]; exact this.1, this.2⟩
    · cases this
theorem Gd.inner {X : Cx} {c : Ck} {N : List String} {k : Nat} {keep : List Nat} {scope : Scope} (g : Gd X C c) (h : c.comp N k keep scope = true) (s₃ : Shared) (H : Hp) (ex : List Addr) (pins : List (Addr × PySem.Obj)) :
    Gd (compCx X (N.map Str.ofString) scope s₃ H ex pins) C (c.inner N scope) := by
  obtain ⟨ok, nd⟩ := Ck.compOk g h
  refine ⟨rfl, nd, ?_, ok.kind, fun x => rfl, g.calm, PassesOwn.never, fun z => absurd z Bool.false_ne_true, g.top⟩
  show (relabel scope X.env).names = relab scope.names c.names
  unfold relabel relab
  show scope.names.map _ = scope.names.map _
  refine List.map_congr_left fun p hp => ?_
  obtain ⟨n, q⟩ := p
  have e1 : (X.env.scope.kind == ScopeKind.function) = true := by rw [g.sk]; rfl
  have e2 : X.env.kindOf n = c.names.lookup n := by
    show X.env.scope.names.lookup n = _
    rw [g.names]
  simp only [e1, e2, Bool.and_true]
noncomputable def OwnE (k : Nat) (τ0 τ : En) : Prop := τ.length = τ0.length ∧ ∀ i, k ≤ i → τ[i]? = τ0[i]?
theorem evG_own {k : Nat} : ∀ {m : M}, tgOwn k m = true → (∀ {d : D} {τ0 τ τ' : En} {S S' : Store}, OwnE k τ0 τ → evG C m d τ S = .ok τ' S' → OwnE k τ0 τ' ∧ S' = S) ∧ (∀ {ds : List D} {τ0 τ τ' : En} {S S' : Store}, OwnE k τ0 τ → evGs C m ds τ S = .ok τ' S' → OwnE k τ0 τ' ∧ S' = S) := by
  intro m
  induction m with
  | tvar i =>
    intro h
    simp only [tgOwn, decide_eq_true_eq] at h
    refine ⟨fun {d τ0 τ τ' S S'} o e => ?_, fun {ds τ0 τ τ' S S'} o e => ?_⟩
    · simp only [revG_0] at e
      split at e
      · cases e
        refine ⟨⟨by rw [List.length_set]; exact o.1, fun j hj => ?_⟩, rfl⟩
        rw [List.getElem?_set_ne (by omega)]
        exact o.2 j hj
      · cases e
    · exact absurd e bad_ne
  | ttup ts ih =>
    intro h
    simp only [tgOwn] at h
    refine ⟨fun {d τ0 τ τ' S S'} o e => ?_, fun {ds τ0 τ τ' S S'} o e => ?_⟩
    · simp only [revG_1] at e
      split at e
      · exact (ih h).2 o e
      · cases e
    · exact absurd e bad_ne
  | nul =>
    intro h
    refine ⟨fun {d τ0 τ τ' S S'} o e => ?_, fun {ds τ0 τ τ' S S'} o e => ?_⟩
    · exact absurd e bad_ne
    · cases ds <;> simp only [revGs_0] at e
      · cases e; exact ⟨o, rfl⟩
      · cases e
  | cns a b iha ihb =>
    intro h
    simp only [tgOwn, Bool.and_eq_true] at h
    refine ⟨fun {d τ0 τ τ' S S'} o e => ?_, fun {ds τ0 τ τ' S S'} o e => ?_⟩
    · exact absurd e bad_ne
    · cases ds <;> simp only [revGs_1] at e
      · cases e
      · obtain ⟨τ1, S1, e1, e2⟩ := Res.bind_eq_ok e
        obtain ⟨o1, rfl⟩ := (iha h.1).1 o e1
        exact (ihb h.2).2 o1 e2
  | _ => intro h; simp [tgOwn] at h
noncomputable abbrev turnC (C : Pr) (tg cd el : M) : D → En → Store → Res (Option D) := fun d τ1 S2 => (evG C tg d τ1 S2).bind fun τ2 S3 => (evC C cd τ2 S3).bind fun b S4 => if b then (evE C el τ2 S4).bind fun y S5 => .ok (some y) S5 else .ok none S4
theorem inEn_none {k : Nat} {keep : List Nat} {τ : En} {i : Nat} {d : D} (h : (inEn k keep τ)[i]? = some (some d)) : k ≤ i := by
  unfold inEn at h
  by_cases hi : i < k
  · rw [List.getElem?_append_left (by simpa using hi), List.getElem?_replicate, if_pos hi] at h
    cases h
  · omega
theorem compW_of {K : PySem.W.Frag} {tg cd el : M} {J : It} {ρ0 : List Addr} {H0 : Hp} {g : Wk} {ds : List D} {ys : List D} {S0 S' : Store} {Q : List V → Hp → Prop} {k : Nat} {keep : List Nat} {τ0 : En} {σ0 : L2.St} (hown : tgOwn k tg = true) (it : ItOk K ρ0 H0 J g ds)
    (rs0 : RelS K ρ0 S0 H0) (re0 : RelE K ρ0 H0 (inEn k keep τ0) σ0) (e0 : compL (turnC C tg cd el) g ds ds.length 0 (inEn k keep τ0) S0 [] = .ok ys S') (fin : ∀ ρ H xs, Fut K ρ0 H0 ρ H → RelS K ρ S' H → RelDs K ρ H ys xs → Q xs H) :
    CompW J (tG K C tg) (tC K C cd) (tE K C el) Q σ0 H0 := by
  refine ⟨fun i m xs σ H => ∃ ρ S acc, Fut K ρ0 H0 ρ H ∧ RelS K ρ S H ∧ RelE K ρ H (inEn k keep τ0) σ ∧ RelDs K ρ H acc xs ∧ i + m = ds.length ∧ acc.length ≤ Line ∧ compL (turnC C tg cd el) g ds m i (inEn k keep τ0) S acc = .ok ys S', ⟨ds.length, ρ0, S0, [], Fut.refl, rs0, re0, RelDs.nil, Nat.zero_add _, Nat.zero_le _, e0⟩, ?_⟩
  rintro i m xs σ H ⟨ρ, S, acc, f, rs, re, ra, hi, hl, e⟩
  refine ⟨by rw [← ra.length, ← line_eq]; exact hl, ?_⟩
  cases m with
  | zero =>
    simp only [compL] at e
    split at e
    · rename_i hs
      cases e
      refine .inl ⟨?_, fin ρ H xs f rs ra⟩
      have : i = ds.length := by omega
      rw [this]
      exact it.stop ρ H _ f rs hs
    · cases e
  | succ m =>
    simp only [compL] at e
    split at e
    · rename_i hs
      split at e
      · cases e
      · rename_i d hd
        obtain ⟨hgo, hy⟩ := it.go ρ H S i d f rs hs hd
        refine .inr ⟨hgo, fun x H' hyl => ?_⟩
        obtain ⟨f0, rs, rd⟩ := hy x H' hyl
        replace re := re.fut f0
        replace ra := ra.fut f0
        replace f := f.trans f0
        obtain ⟨o, S1, e1, e⟩ := Res.bind_eq_ok e
        obtain ⟨τ2, S2, eG, e1⟩ := Res.bind_eq_ok e1
        obtain ⟨b, S3, eC, e1⟩ := Res.bind_eq_ok e1
        have own : OwnE k (inEn k keep τ0) τ2 := ((evG_own (C := C) hown).1 (τ0 := inEn k keep τ0) ⟨rfl, fun _ _ => rfl⟩ eG).1
        have less : Less τ2 (inEn k keep τ0) := ⟨own.1.symm, fun j d hj => by rw [own.2 j (inEn_none hj)]; exact hj⟩
        refine ⟨ρ, S, _, d, τ2, S2, rs, re, rd, eG, fun ρ1 σ1 H1 f1 r1 q1 => ⟨ρ1, S2, τ2, b, S3, r1, q1, eC, fun ρ2 H2 f2 r2 => ?_⟩⟩
        cases b with
        | true =>
          rw [if_pos rfl] at e1 ⊢
          obtain ⟨y, S4, eE, e1⟩ := Res.bind_eq_ok e1
          cases e1
          simp only at e
          split at e
          · rename_i hlt
            refine ⟨ρ2, S3, τ2, y, S1, r2, q1.fut f2, eE, fun ρ3 v3 H3 f3 r3 q3 => ⟨m, Nat.lt_succ_self m, ?_⟩⟩
            have f13 := f1.trans (f2.trans f3)
            exact ⟨ρ3, S1, acc ++ [y], f.trans f13, r3, (q1.fut (f2.trans f3)).less less, (ra.fut f13).append (RelDs.cons q3 RelDs.nil), by omega, by rw [List.length_append]; exact hlt, e⟩
          · cases e
        | false =>
          rw [if_neg Bool.false_ne_true] at e1 ⊢
          cases e1
          simp only at e
          have f12 := f1.trans f2
          exact ⟨m, Nat.lt_succ_self m, ρ2, S1, acc, f.trans f12, r2, (q1.fut f2).less less, ra.fut f12, by omega, hl, e⟩
    · cases e
theorem comp_read {X : Cx} {N : List String} {k : Nat} {keep : List Nat} {tg it cd el : M} (hown : tgOwn k tg = true) {σ : L2.St} {H : Hp} {Q : VK} (h : tE X.K C (.comp N k keep tg it cd el) σ H Q) : tComp k keep (tI X.K C it) (tG X.K C tg) (tC X.K C cd) (tE X.K C el) σ H Q := by
  obtain ⟨ρ, S, τ, d, S', rs, re, e, fin⟩ := h
  simp only [revE_18] at e
  obtain ⟨w, S1, e1, e⟩ := Res.bind_eq_ok e
  obtain ⟨ys, S2, e2, e⟩ := Res.bind_eq_ok e
  cases e
  obtain ⟨g, ds⟩ := w
  refine ⟨ρ, S, τ, g, ds, S1, rs, re, e1, fun ρ1 H1 J f1 r1 itk => ?_⟩
  refine compW_of hown itk r1 ((re.fut f1).inner k keep) e2 fun ρ2 H2 xs f2 r2 q2 => ?_
  exact Fin.newL (ρ := ρ2) (fun ρ3 v3 H3 f3 r3 q3 => fin ρ3 v3 H3 (f1.trans (f2.trans f3)) r3 q3) r2 q2
theorem snd_comp {N : List String} {k : Nat} {keep : List Nat} {tg it cd el : M} (hg : Snd C tg) (hi : Snd C it) (hc : Snd C cd) (he : Snd C el) : ∀ (X : Cx) (c : Ck) (x : Expr), Gd X C c → chkE (.comp N k keep tg it cd el) c x = true → PE X x (tE X.K C (.comp N k keep tg it cd el)) := by
  intro X c x g h
  cases x <;> try (exact absurd h Bool.false_ne_true)
  rename_i elt gens scope pos
  rcases gens with _ | ⟨⟨t, i, fs, asy⟩, _ | ⟨g2, gens⟩⟩ <;> try (exact absurd h Bool.false_ne_true)
  simp only [cE_22, Bool.and_eq_true, beq_iff_eq] at h
  obtain ⟨⟨⟨⟨⟨⟨⟨rfl, h1⟩, h2⟩, h3⟩, h4⟩, h5⟩, h6⟩, h7⟩ := h
  obtain ⟨pi, fs0⟩ := hi.i X c t i g h4 h7
  refine PE.imp (pe_comp (Ck.compOk g h1).1 g.calm pi (fun s₃ H ex pins => hg.g _ _ _ (g.inner h1 s₃ H ex pins) h3) (fun s₃ H ex pins => hc.cd _ _ _ (g.inner h1 s₃ H ex pins) h5) (fun s₃ H ex pins => he.e _ _ _ (g.inner h1 s₃ H ex pins) h6) fs0) fun σ H Q q => comp_read h2 q
end
end Mi

namespace Mi
open PySem L2
section
variable {C : Pr}
theorem notComp_none {e : Expr} {n : Nat} {env : Env} (h : isComp e = false) : swapsWith e none n env = pure false := by
  cases e <;> first | rfl | (simp [isComp] at h)
theorem notComp_some {e t : Expr} {n : Nat} {env : Env} (h : isComp e = false) : swapsWith e (some t) n env = pure false := by
  cases e <;> first | rfl | (simp [isComp] at h)
theorem swapped_none {t e : Expr} {env : Env} (h : ∀ a b p, t = .Tuple a b p → ∀ a' b' p', e ≠ .Tuple a' b' p') (hl : ∀ a p, t ≠ .List a p) : swappedStores [t] e env = pure none := by
  cases t <;> first | rfl | exact absurd rfl (hl _ _) | skip
  rename_i a b p
  cases e <;> first | rfl | exact absurd rfl (h a b p rfl _ _ _)
theorem asg_read {K : PySem.W.Frag} {t e : M} {D : Ends} {σ : L2.St} {H : Hp} (h : tS K C (.asg t e) D σ H) : tAsg (tE K C e) (tG K C t) D σ H := by
  obtain ⟨ρ, S, τ, fl, S', rs, re, e0, fin⟩ := h
  simp only [revS_0] at e0
  obtain ⟨d, S1, e1, e0⟩ := Res.bind_eq_ok e0
  obtain ⟨τ1, S2, e2, e0⟩ := Res.bind_eq_ok e0
  cases e0
  exact ⟨ρ, S, τ, d, S1, rs, re, e1, fun ρ1 v1 H1 f1 r1 q1 => ⟨ρ1, S1, τ, d, τ1, S', r1, re.fut f1, q1, e2, fun ρ2 σ2 H2 f2 => fin ρ2 σ2 H2 (f1.trans f2)⟩⟩
theorem snd_asg {t e : M} (ht : Snd C t) (he : Snd C e) (hc : ∀ N k keep tg it cd el, e = .comp N k keep tg it cd el → Snd C tg ∧ Snd C it ∧ Snd C cd ∧ Snd C el) : ∀ (X : Cx) (c : Ck) (x : Stmt), Gd X C c → chkS (.asg t e) c x = true → PS X x (tS X.K C (.asg t e)) := by
  intro X c x g h
  cases x <;> try (exact absurd h Bool.false_ne_true)
  rename_i tgs v pos
  rcases tgs with _ | ⟨tg, _ | ⟨t2, tgs⟩⟩ <;> try (exact absurd h Bool.false_ne_true)
  simp only [cS_0, Bool.and_eq_true, Bool.not_eq_true'] at h
  obtain ⟨⟨h1, h2⟩, h3, hv⟩ := h
  have one : (assignEach [tg] X.env).map (·.2) = [assign tg X.env] := by rw [assign_cons (noStarG h1)]; rfl
  have nlist : ∀ a p, tg ≠ .List a p := by
    intro a p z
    subst z
    cases t <;> exact absurd h1 Bool.false_ne_true
  exact PS.imp (ps_asg (he.e X c _ g h2) (ht.g X c _ g h1) (by show swapsWith v (some tg) _ _ = _; exact notComp_some hv) (swapped_none (fun a b p z a' b' p' z' => by subst z; subst z'; simp [noTT] at h3) nlist) one) fun D σ H q => asg_read q
theorem snd_ifs {t a b : M} (ht : Snd C t) (ha : Snd C a) (hb : Snd C b) : ∀ (X : Cx) (c : Ck) (x : Stmt), Gd X C c → chkS (.ifs t a b) c x = true → PS X x (tS X.K C (.ifs t a b)) := by
  intro X c x g h
  cases x <;> try (exact absurd h Bool.false_ne_true)
  simp only [cS_1, Bool.and_eq_true] at h
  refine PS.imp (ps_if (ht.t X c _ g h.1.1) (ha.b X c _ g h.1.2) (hb.b X c _ g h.2)) fun D σ H hq_ => ?_
  obtain ⟨ρ, S, τ, fl, S', rs, re, e, fin⟩ := hq_
  simp only [revS_1] at e
  obtain ⟨k, S1, e1, e⟩ := Res.bind_eq_ok e
  refine ⟨ρ, S, τ, k, S1, rs, re, e1, fun ρ1 H1 f1 r1 => ?_⟩
  have fin' : FlOk X.K ρ1 H1 fl S' D := by
    cases fl with
    | nx τ' => exact fun ρ2 σ2 H2 f2 => fin ρ2 σ2 H2 (f1.trans f2)
    | rt d => exact fun ρ2 σ2 H2 f2 => fin ρ2 σ2 H2 (f1.trans f2)
    | bk τ' => exact fun ρ2 σ2 H2 f2 => fin ρ2 σ2 H2 (f1.trans f2)
    | ct τ' => exact fun ρ2 σ2 H2 f2 => fin ρ2 σ2 H2 (f1.trans f2)
  cases k with
  | true => exact iteT ⟨ρ1, S1, τ, fl, S', r1, re.fut f1, e, fin'⟩
  | false => exact iteF ⟨ρ1, S1, τ, fl, S', r1, re.fut f1, e, fin'⟩
theorem FlOk.fut {K : PySem.W.Frag} {ρ ρ1 : List Addr} {H H1 : Hp} {fl : Fl} {S' : Store} {D : Ends} (fin : FlOk K ρ H fl S' D) (f1 : Fut K ρ H ρ1 H1) : FlOk K ρ1 H1 fl S' D := by
  cases fl with
  | nx τ' => exact fun ρ2 σ2 H2 f2 => fin ρ2 σ2 H2 (f1.trans f2)
  | rt d => exact fun ρ2 σ2 H2 f2 => fin ρ2 σ2 H2 (f1.trans f2)
  | bk τ' => exact fun ρ2 σ2 H2 f2 => fin ρ2 σ2 H2 (f1.trans f2)
  | ct τ' => exact fun ρ2 σ2 H2 f2 => fin ρ2 σ2 H2 (f1.trans f2)
theorem snd_for {t i b : M} (ht : Snd C t) (hi : Snd C i) (hb : Snd C b) : ∀ (X : Cx) (c : Ck) (x : Stmt), Gd X C c → chkS (.forr t i b) c x = true → PS X x (tS X.K C (.forr t i b)) := by
  intro X c x g h
  cases x <;> try (exact absurd h Bool.false_ne_true)
  rename_i tg iter body els pos
  cases els <;> try (exact absurd h Bool.false_ne_true)
  simp only [cS_2, Bool.and_eq_true] at h
  obtain ⟨pi, fs0⟩ := hi.i X c tg iter g h.1.1.2 h.2
  refine PS.imp (ps_for g.xe g.calm pi (ht.g X c _ g h.1.1.1) (hb.b X c _ g h.1.2) fs0) fun D σ H hq_ => ?_
  obtain ⟨ρ, S, τ, fl, S', rs, re, e, fin⟩ := hq_
  simp only [revS_2] at e
  obtain ⟨w, S1, e1, e⟩ := Res.bind_eq_ok e
  obtain ⟨gg, ds⟩ := w
  refine ⟨ρ, S, τ, gg, ds, S1, rs, re, e1, fun ρ0 H0 J f0 r0 it => ?_⟩
  have fin0 := fin.fut f0
  let turn : Mi.D → En → Store → Res Fl := fun d τ1 S2 => (evG C t d τ1 S2).bind fun τ2 S3 => evB C b τ2 S3
  have e : forL turn gg ds ds.length 0 τ S1 = .ok fl S' := e
  refine ⟨fun i m σ H => ∃ ρ S τ, Fut X.K ρ0 H0 ρ H ∧ RelS X.K ρ S H ∧ RelE X.K ρ H τ σ ∧ i + m = ds.length ∧ forL turn gg ds m i τ S = .ok fl S', ⟨ds.length, ρ0, S1, τ, Fut.refl, r0, re.fut f0, Nat.zero_add _, e⟩, ?_⟩
  rintro i m σ H ⟨ρ, S, τ, f, rs, re, hi, e⟩
  cases m with
  | zero =>
    simp only [forL] at e
    split at e
    · rename_i hs
      cases e
      refine .inl ⟨?_, fin0 ρ σ H f rs re⟩
      have : i = ds.length := by omega
      rw [this]
      exact it.stop ρ H _ f rs hs
    · cases e
  | succ m =>
    simp only [forL] at e
    split at e
    · rename_i hs
      split at e
      · cases e
      · rename_i d hd
        obtain ⟨hgo, hy⟩ := it.go ρ H S i d f rs hs hd
        refine .inr ⟨hgo, fun σ' H' => ∃ ρ' S'' τ', Fut X.K ρ0 H0 ρ' H' ∧ RelS X.K ρ' S'' H' ∧ RelE X.K ρ' H' τ' σ' ∧ forL turn gg ds m (i + 1) τ' S'' = .ok fl S', fun σ' H' ⟨ρ', S'', τ', a1, a2, a3, a4⟩ => ⟨m, Nat.lt_succ_self m, ρ', S'', τ', a1, a2, a3, by omega, a4⟩, fun x H' hyl => ?_⟩
        obtain ⟨f0, rs, rd⟩ := hy x H' hyl
        replace re := re.fut f0
        replace f := f.trans f0
        obtain ⟨fl1, S1, e1, e⟩ := Res.bind_eq_ok e
        obtain ⟨τ2, S2, eG, eB⟩ := Res.bind_eq_ok e1
        refine ⟨ρ, S, τ, d, τ2, S2, rs, re, rd, eG, fun ρ1 σ1 H1 f1 r1 q1 => ⟨ρ1, S2, τ2, fl1, S1, r1, q1, eB, ?_⟩⟩
        cases fl1 with
        | nx τ1 => exact fun ρ2 σ2 H2 f2 r2 q2 => ⟨ρ2, S1, τ1, f.trans (f1.trans f2), r2, q2, e⟩
        | ct τ1 => exact fun ρ2 σ2 H2 f2 r2 q2 => ⟨ρ2, S1, τ1, f.trans (f1.trans f2), r2, q2, e⟩
        | bk τ1 =>
          simp only at e
          cases e
          exact fun ρ2 σ2 H2 f2 r2 q2 => fin0 ρ2 σ2 H2 (f.trans (f1.trans f2)) r2 q2
        | rt d =>
          simp only at e
          cases e
          exact fun ρ2 v2 H2 f2 r2 q2 => fin0 ρ2 v2 H2 (f.trans (f1.trans f2)) r2 q2
    · cases e
theorem snd_whl {t b : M} (ht : Snd C t) (hb : Snd C b) : ∀ (X : Cx) (c : Ck) (x : Stmt), Gd X C c → chkS (.whl t b) c x = true → PS X x (tS X.K C (.whl t b)) := by
  intro X c x g h
  cases x <;> try (exact absurd h Bool.false_ne_true)
  rename_i tst body els pos
  cases els <;> try (exact absurd h Bool.false_ne_true)
  simp only [cS_3, Bool.and_eq_true] at h
  refine PS.imp (ps_while g.xe (ht.t X c _ g h.1) (hb.b X c _ g h.2)) fun D σ0 H0 hq_ => ?_
  obtain ⟨ρ0, S, τ, fl, S', r0, re, e, fin0⟩ := hq_
  simp only [revS_3] at e
  refine ⟨fun m σ H => ∃ ρ S τ, Fut X.K ρ0 H0 ρ H ∧ RelS X.K ρ S H ∧ RelE X.K ρ H τ σ ∧ whlL (evT C t) (evB C b) m τ S = .ok fl S', ⟨C.W, ρ0, S, τ, Fut.refl, r0, re, e⟩, ?_⟩
  rintro m σ H ⟨ρ, S, τ, f, rs, re, e⟩
  cases m with
  | zero => simp only [whlL] at e; cases e
  | succ m =>
    simp only [whlL] at e
    obtain ⟨k, S1, e1, e⟩ := Res.bind_eq_ok e
    refine ⟨ρ, S, τ, k, S1, rs, re, e1, fun ρ1 H1 f1 r1 => ?_⟩
    cases k with
    | false =>
      rw [if_neg Bool.false_ne_true] at e
      refine iteF ?_
      cases e
      exact fin0 ρ1 σ H1 (f.trans f1) r1 (re.fut f1)
    | true =>
      rw [if_pos rfl] at e
      refine iteT ?_
      obtain ⟨fl1, S2, e2, e⟩ := Res.bind_eq_ok e
      refine ⟨fun σ' H' => ∃ ρ' S'' τ', Fut X.K ρ0 H0 ρ' H' ∧ RelS X.K ρ' S'' H' ∧ RelE X.K ρ' H' τ' σ' ∧ whlL (evT C t) (evB C b) m τ' S'' = .ok fl S', fun σ' H' ⟨ρ', S'', τ', a1, a2, a3, a4⟩ => ⟨m, Nat.lt_succ_self m, ρ', S'', τ', a1, a2, a3, a4⟩, ρ1, S1, τ, fl1, S2, r1, re.fut f1, e2, ?_⟩
      cases fl1 with
      | nx τ1 => exact fun ρ2 σ2 H2 f2 r2 q2 => ⟨ρ2, S2, τ1, f.trans (f1.trans f2), r2, q2, e⟩
      | ct τ1 => exact fun ρ2 σ2 H2 f2 r2 q2 => ⟨ρ2, S2, τ1, f.trans (f1.trans f2), r2, q2, e⟩
      | bk τ1 =>
        simp only at e
        cases e
        exact fun ρ2 σ2 H2 f2 r2 q2 => fin0 ρ2 σ2 H2 (f.trans (f1.trans f2)) r2 q2
      | rt d =>
        simp only at e
        cases e
        exact fun ρ2 v2 H2 f2 r2 q2 => fin0 ρ2 v2 H2 (f.trans (f1.trans f2)) r2 q2
theorem snd_ret {a : M} (ha : Snd C a) : ∀ (X : Cx) (c : Ck) (x : Stmt), Gd X C c → chkS (.ret a) c x = true → PS X x (tS X.K C (.ret a)) := by
  intro X c x g h
  cases x <;> try (exact absurd h Bool.false_ne_true)
  rename_i v pos
  cases v <;> try (exact absurd h Bool.false_ne_true)
  simp only [cS_4] at h
  refine PS.imp (ps_ret (ha.e X c _ g h)) fun D σ H hq_ => ?_
  obtain ⟨ρ, S, τ, fl, S', rs, re, e, fin⟩ := hq_
  simp only [revS_4] at e
  obtain ⟨d, S1, e1, e⟩ := Res.bind_eq_ok e
  cases e
  exact ⟨ρ, S, τ, d, _, rs, re, e1, fin⟩
theorem snd_exp {a : M} (ha : Snd C a) : ∀ (X : Cx) (c : Ck) (x : Stmt), Gd X C c → chkS (.exp a) c x = true → PS X x (tS X.K C (.exp a)) := by
  intro X c x g h
  cases x <;> try (exact absurd h Bool.false_ne_true)
  simp only [cS_6, Bool.and_eq_true, Bool.not_eq_true'] at h
  refine PS.imp (ps_expr (ha.e X c _ g h.1) (notComp_none h.2)) fun D σ H hq_ => ?_
  obtain ⟨ρ, S, τ, fl, S', rs, re, e, fin⟩ := hq_
  simp only [revS_6] at e
  obtain ⟨d, S1, e1, e⟩ := Res.bind_eq_ok e
  cases e
  exact ⟨ρ, S, τ, d, _, rs, re, e1, fun ρ1 v1 H1 f1 r1 q1 => fin ρ1 σ H1 f1 r1 (re.fut f1)⟩
theorem snd_b_nul : ∀ (X : Cx) (c : Ck) (x : List Stmt), Gd X C c → chkB .nul c x = true → PSs X x (tB' X.K C .nul) := by
  intro X c x g h
  cases x with
  | cons s ss => exact absurd h Bool.false_ne_true
  | nil =>
    refine PSs.imp pss_nil fun D σ H hq_ => ?_
    obtain ⟨ρ, S, τ, fl, S', rs, re, e, fin⟩ := hq_
    simp only [revB_0] at e
    cases e
    exact fin ρ _ H Fut.refl rs re
theorem snd_b_cns {a b : M} (ha : Snd C a) (hb : Snd C b) : ∀ (X : Cx) (c : Ck) (x : List Stmt), Gd X C c → chkB (.cns a b) c x = true → PSs X x (tB' X.K C (.cns a b)) := by
  intro X c x g h
  cases x with
  | nil => exact absurd h Bool.false_ne_true
  | cons s ss =>
    simp only [cB_1, Bool.and_eq_true] at h
    refine PSs.imp (pss_cons (ha.s X c _ g h.1) (hb.b X c _ g h.2)) fun D σ H hq_ => ?_
    obtain ⟨ρ, S, τ, fl, S', rs, re, e, fin⟩ := hq_
    simp only [revB_1] at e
    obtain ⟨fl1, S1, e1, e⟩ := Res.bind_eq_ok e
    refine ⟨ρ, S, τ, fl1, S1, rs, re, e1, ?_⟩
    cases fl1 with
    | nx τ1 => exact fun ρ1 σ1 H1 f1 r1 q1 => ⟨ρ1, S1, τ1, fl, S', r1, q1, e, fin.fut f1⟩
    | rt d => simp only at e; cases e; exact fin
    | bk τ1 => simp only at e; cases e; exact fin
    | ct τ1 => simp only at e; cases e; exact fin
end
end Mi

namespace Mi
open PySem L2
section
variable {C : Pr}
theorem snd_dnil : ∀ (X : Cx) (c : Ck) (x : Expr), Gd X C c → chkE .dnil c x = true → PE X x (tE X.K C .dnil) := by
  intro X c x g h
  cases x <;> try (exact absurd h Bool.false_ne_true)
  rename_i ks vs pos
  rcases ks with _ | ⟨k, ks⟩ <;> rcases vs with _ | ⟨v, vs⟩ <;> try (exact absurd h Bool.false_ne_true)
  refine PE.imp pe_dnewK fun σ H Q hq_ => ?_
  obtain ⟨ρ, S, τ, d, S', rs, re, e, fin⟩ := hq_
  simp only [revE_20] at e
  cases e
  intro p hp
  refine fin (ρ ++ [p]) _ _ (fut_new hp [p]) (rs.allocO hp ⟨[], upd_same, rfl⟩) ?_
  simp only [RelD]
  exact ⟨p, rfl, by rw [← rs.len]; simp⟩
theorem snd_dlit {a b : M} (ha : Snd C a) (hb : Snd C b) : ∀ (X : Cx) (c : Ck) (x : Expr), Gd X C c → chkE (.dlit a b) c x = true → PE X x (tE X.K C (.dlit a b)) := by
  intro X c x g h
  cases x <;> try (exact absurd h Bool.false_ne_true)
  rename_i ks vs pos
  rcases ks with _ | ⟨k, ks⟩ <;> try (exact absurd h Bool.false_ne_true)
  rcases k with _ | k <;> try (exact absurd h Bool.false_ne_true)
  rcases ks with _ | ⟨k2, ks⟩ <;> try (exact absurd h Bool.false_ne_true)
  rcases vs with _ | ⟨v, _ | ⟨v2, vs⟩⟩ <;> try (exact absurd h Bool.false_ne_true)
  simp only [cE_25, Bool.and_eq_true] at h
  refine PE.imp (pe_disp (pps_cons (ha.e X c _ g h.1) (hb.e X c _ g h.2) pps_nil) rfl rfl (by simp) (by simp)) fun σ H Q hq_ => ?_
  obtain ⟨ρ, S, τ, d, S', rs, re, e, fin⟩ := hq_
  simp only [revE_21] at e
  obtain ⟨x1, S1, e1, e⟩ := Res.bind_eq_ok e
  obtain ⟨x2, S2, e2, e⟩ := Res.bind_eq_ok e
  intro p hp
  have f0 : Fut X.K ρ H (ρ ++ [p]) (upd H p (.dK [])) := fut_new hp [p]
  have hpl : (ρ ++ [p])[S.length]? = some p := by rw [← rs.len]; simp
  have r0 : RelS X.K (ρ ++ [p]) (S ++ [.dct []]) (upd H p (.dK [])) := rs.allocO hp ⟨[], upd_same, rfl⟩
  refine ⟨ρ ++ [p], S ++ [.dct []], τ, x1, S1, r0, re.fut f0, e1, fun ρ1 v1 H1 f1 r1 q1 => ⟨ρ1, S1, τ, x2, S2, r1, re.fut (f0.trans f1), e2, fun ρ2 v2 H2 f2 r2 q2 => ?_⟩⟩
  cases x1 <;> try (exact absurd e bad_ne)
  rename_i i _
  simp only at e
  split at e <;> try (exact absurd e bad_ne)
  rename_i hd
  cases e
  have hp2 := f2.get (f1.get hpl)
  obtain ⟨a', ws, er, hp', ea, q⟩ := r2.dct (l := S.length) (v := .ref p) (by simp only [RelD]; exact ⟨p, rfl, hp2⟩) hd
  cases er
  cases (show ws = [] from q)
  cases (q1.fut f2).int_inv
  refine ⟨ea, [(.inl i, v2)], rfl, by simp, ?_⟩
  have fm : Fut X.K ρ2 H2 ρ2 (upd H2 p (.dK (mergeK [] [(.inl i, v2)]))) := fut_mut (o0 := .dK []) ea (fun _ z => by cases z) (fun _ _ z => by cases z)
  refine fin ρ2 _ _ (f0.trans (f1.trans (f2.trans fm))) (r2.setO (o0 := .dK []) hp2 fm ⟨_, upd_same, v2, [], rfl, q2.fut fm, rfl⟩) ?_
  simp only [RelD]
  exact ⟨p, rfl, hp2⟩
theorem insAt_ins {S : Store} {l : Nat} {c : String} {fs : List (String × D)} (h : insAt S l c = some fs) : S[l]? = some (.ins c fs) := by
  unfold insAt at h
  split at h
  · rename_i c' fs' e
    split at h
    · rename_i hc
      cases h
      rw [e, hc]
    · cases h
  · cases h
theorem RelS.ins {K : PySem.W.Frag} {ρ : List Addr} {S : Store} {H : Hp} {l : Nat} {x : V} {c : String} {fs : List (String × D)} (rs : RelS K ρ S H) (r : RelD K ρ H (.loc l) x) (h : insAt S l c = some fs) :
    ∃ a Ca dx ws, x = .ref a ∧ ρ[l]? = some a ∧ PySem.W.nsIn K mainGlobals (Str.ofString c) = some (some (.ref Ca)) ∧ H a = some (.ins Ca dx ws) ∧ RelF K ρ H fs ws := by
  obtain ⟨a, rfl, hl⟩ := r.loc_inv
  obtain ⟨Ca, dx, ws, n, e, q⟩ := rs.ob l a _ hl (insAt_ins h)
  exact ⟨a, Ca, dx, ws, rfl, hl, n, e, q⟩
theorem base_of {X : Cx} {e0 : Expr} (h1 : isNm e0 = true) : ∀ nm, attributeBase e0 nm X.env (eval e0 X.env) = eval e0 X.env := fun nm => by
  cases e0 <;> first | rfl | exact absurd h1 Bool.false_ne_true
theorem snd_fld {cl f : String} {a : M} (ha : Snd C a) : ∀ (X : Cx) (c : Ck) (x : Expr), Gd X C c → chkE (.fld cl f a) c x = true → PE X x (tE X.K C (.fld cl f a)) := by
  intro X c x g h
  cases x <;> try (exact absurd h Bool.false_ne_true)
  rename_i e0 y pos
  simp only [cE_26, Bool.and_eq_true, beq_iff_eq] at h
  obtain ⟨⟨⟨rfl, h1⟩, h2⟩, h3⟩ := h
  obtain ⟨Ca, n0, hc, hn⟩ := g.top.fds cl f (by simpa using h2)
  refine PE.imp (pe_fld (ha.e X c _ g h3) (base_of h1 _)) fun σ H Q hq_ => ?_
  obtain ⟨ρ, S, τ, d, S', rs, re, e, fin⟩ := hq_
  simp only [revE_22] at e
  obtain ⟨x1, S1, e1, e⟩ := Res.bind_eq_ok e
  refine ⟨ρ, S, τ, x1, S1, rs, re, e1, fun ρ1 v1 H1 f1 r1 q1 => ?_⟩
  split at e <;> try (exact absurd e bad_ne)
  rename_i d' hd
  cases e
  unfold fldAt at hd
  split at hd <;> try (cases hd; done)
  rename_i l
  split at hd <;> try (cases hd; done)
  rename_i fs hi
  obtain ⟨b, Cb, dx, ws, rfl, hl, n, eb, q⟩ := r1.ins q1 hi
  rw [n0] at n
  cases n
  rcases q.look f with ⟨z, _⟩ | ⟨d2, v2, z1, z2, z3⟩
  · rw [z] at hd; cases hd
  · rw [z1] at hd
    cases hd
    exact ⟨b, _, dx, ws, v2, rfl, eb, hc, hn, z2, fin ρ1 v2 H1 f1 r1 z3⟩
theorem snd_sfd {cl f : String} {o v : M} (ho : Snd C o) (hv : Snd C v) : ∀ (X : Cx) (c : Ck) (x : Stmt), Gd X C c → chkS (.sfd cl f o v) c x = true → PS X x (tS X.K C (.sfd cl f o v)) := by
  intro X c x g h
  cases x <;> try (exact absurd h Bool.false_ne_true)
  rename_i tgs w pos
  rcases tgs with _ | ⟨tg, tgs⟩ <;> try (exact absurd h Bool.false_ne_true)
  cases tg <;> try (exact absurd h Bool.false_ne_true)
  rename_i e0 y p0
  rcases tgs with _ | ⟨t2, tgs⟩ <;> try (exact absurd h Bool.false_ne_true)
  simp only [cS_11, Bool.and_eq_true, beq_iff_eq, Bool.not_eq_true'] at h
  obtain ⟨⟨⟨⟨rfl, h1⟩, h2⟩, h3⟩, h4⟩ := h
  obtain ⟨Ca, n0, hc, hn⟩ := g.top.fds cl f (by simpa using h2)
  refine PS.imp (ps_fld (ho.e X c _ g h3) (hv.e X c _ g h4) (notComp_some h1)) fun D σ H hq_ => ?_
  obtain ⟨ρ, S, τ, fl, S', rs, re, e, fin⟩ := hq_
  simp only [revS_11] at e
  obtain ⟨y1, S1, e1, e⟩ := Res.bind_eq_ok e
  obtain ⟨x1, S2, e2, e⟩ := Res.bind_eq_ok e
  refine ⟨ρ, S, τ, y1, S1, rs, re, e1, fun ρ1 v1 H1 f1 r1 q1 => ⟨ρ1, S1, τ, x1, S2, r1, re.fut f1, e2, fun ρ2 v2 H2 f2 r2 q2 => ?_⟩⟩
  split at e <;> try (exact absurd e bad_ne)
  rename_i S3 hs
  cases e
  unfold setF at hs
  split at hs <;> try (cases hs; done)
  rename_i l
  split at hs <;> try (cases hs; done)
  rename_i fs hi
  split at hs <;> try (cases hs; done)
  rename_i hl
  cases hs
  obtain ⟨b, Cb, dx, ws, rfl, hb, n, eb, q⟩ := r2.ins q2 hi
  rw [n0] at n
  cases n
  have fm : Fut X.K ρ2 H2 ρ2 (upd H2 b (.ins Ca dx (putF (Str.ofString f) v1 ws))) := fut_mut (o0 := .ins Ca dx ws) eb (fun _ z => by cases z) (fun _ _ z => by cases z)
  refine ⟨b, Ca, dx, ws, rfl, eb, hc, hn, by rw [← q.length]; exact hl, ?_⟩
  have ft := f1.trans (f2.trans fm)
  exact fin ρ2 σ _ ft (r2.setO (o0 := .ins Ca dx ws) hb fm ⟨Ca, dx, _, n0, upd_same, (q.put f (q1.fut f2)).fut fm⟩) (re.fut ft)
theorem meth_tree {X : Cx} {e0 : Expr} {m : Str} {ap pos : Pos} {es : List Expr} (hb : attributeBase e0 m X.env (eval e0 X.env) = eval e0 X.env) (hf : methodCallForm (es.length + ([] : List Keyword).length) (backTo pos (starEach es X.env)) (backToKw pos (keywordEach [] X.env)) = true)
    (hl : (ap.endLine == pos.line) = true) : eval (.Call (.Attribute e0 m ap) es [] pos) X.env = (do
      let ov ← eval e0 X.env
      standAt ap.atName
      let (f, first) ← holding [ov] (getMethod ov m (do return (← importBound e0 X.env).getD true))
      callWith pos f first (backTo pos (starEach es X.env)) (backToKw pos (keywordEach [] X.env))) := by
  show (do
    let ov ← attributeBase e0 m X.env (eval e0 X.env)
    standAt ap.atName
    methodCall e0 m ap pos X.env ov (es.length + ([] : List Keyword).length) (backTo pos (starEach es X.env)) (backToKw pos (keywordEach [] X.env))) = _
  rw [hb]
  unfold methodCall calleeOf methodCallPos
  rw [hf, hl]
  rfl
theorem snd_mcl {cl m f : String} {o as : M} (ho : Snd C o) (ha : Snd C as) : ∀ (X : Cx) (c : Ck) (x : Expr), Gd X C c → chkE (.mcl cl m f o as) c x = true → PE X x (tE X.K C (.mcl cl m f o as)) ∧ PT X x (tT X.K C (.mcl cl m f o as)) := by
  intro X c x g h
  cases x <;> try (exact absurd h Bool.false_ne_true)
  rename_i fn es kws pos
  cases fn <;> try (exact absurd h Bool.false_ne_true)
  rename_i e0 y ap
  cases kws <;> try (exact absurd h Bool.false_ne_true)
  simp only [cE_27, Bool.and_eq_true, beq_iff_eq, decide_eq_true_eq] at h
  obtain ⟨⟨⟨⟨⟨⟨rfl, h1⟩, hln⟩, hfw⟩, h2⟩, h3⟩, h4⟩ := h
  obtain ⟨k, a, fd, ps, Ca, hr', n0, hc, hm, _, F, hb⟩ := g.top.mts cl m f (by simpa using h2)
  have F := FnOk.ok0 F
  have hr := hr'.mono (Nat.le_succ k)
  have rd : ∀ {t : TA}, (∀ σ H Q, tA X.K C as σ H Q → t σ H Q) → ∀ σ H Q, tE X.K C (.mcl cl m f o as) σ H Q → tMeth Ca (Str.ofString m) (spM X.K C f) [] E0 (tE X.K C o) t σ H Q := fun {t} ht σ H Q ⟨ρ, S, τ, d, S', rs, re, e, fin⟩ => by
    simp only [revE_23] at e
    obtain ⟨x1, S1, e1, e⟩ := Res.bind_eq_ok e
    split at e <;> try (exact absurd e bad_ne)
    rename_i hrc
    obtain ⟨ds, S2, e2, e⟩ := Res.bind_eq_ok e
    refine ⟨ρ, S, τ, x1, S1, rs, re, e1, fun ρ1 v1 H1 f1 r1 q1 => ?_⟩
    unfold isRec at hrc
    split at hrc <;> try (cases hrc; done)
    rename_i l
    split at hrc <;> try (cases hrc; done)
    rename_i fs hi
    obtain ⟨b, Cb, dx, ws, rfl, hl, n, eb, q⟩ := r1.ins q1 hi
    rw [n0] at n
    cases n
    have hno : ws.lookup (Str.ofString m) = none := by
      rcases q.look m with ⟨_, z⟩ | ⟨d2, v2, z1, _, _⟩
      · exact z
      · rw [z1] at hrc; cases hrc
    refine ⟨b, dx, ws, rfl, eb, hno, ht σ H1 _ ⟨ρ1, S1, τ, ds, S2, r1, re.fut f1, e2, fun ρ2 vs H2 f2 r2 q2 => ?_⟩⟩
    show spM X.K C f (_ :: (vs ++ [])) H2 Q E0
    rw [List.append_nil]
    exact ⟨ρ2, S2, .loc _ :: ds, d, S', r2, RelDs.cons (q1.fut f2) q2, e, fun ρ3 v3 H3 f3 r3 q3 => fin ρ3 v3 H3 (f1.trans (f2.trans f3)) r3 q3⟩
  have hform : methodCallForm (es.length + ([] : List Keyword).length) (backTo pos (starEach es X.env)) (backToKw pos (keywordEach [] X.env)) = true := by
    unfold methodCallForm
    have hall : (backTo pos (starEach es X.env)).all (fun x => !x.1) = true := backTo_all _ _ (noStars (env := X.env) h4)
    rw [show (backTo pos (starEach es X.env)).all (!·.1) = true from hall]
    simp only [Bool.true_and, Bool.and_eq_true, decide_eq_true_eq]
    exact ⟨rfl, by show es.length + 0 + 0 < 30; omega⟩
  have hpl := meth_tree (X := X) (e0 := e0) (m := Str.ofString m) (ap := ap) (pos := pos) (es := es) (base_of h1 _) hform (by simpa using hln)
  have pe : PE X (.Call (.Attribute e0 (Str.ofString m) ap) es [] pos) (tE X.K C (.mcl cl m f o as)) := by
    cases es with
    | nil =>
      refine PE.imp (pe_meth0 (ho.e X c _ g h3) hc hm F hr hb .nil pass0 hpl) (rd fun σ H Q ⟨ρ, S, τ, ds, S', rs, re, e, fin⟩ => ?_)
      cases as <;> try (exact absurd h4 Bool.false_ne_true)
      simp only [revA_0] at e
      cases e
      exact fin ρ [] H Fut.refl rs RelDs.nil
    | cons e es =>
      cases as <;> try (exact absurd h4 Bool.false_ne_true)
      have h4' := h4
      simp only [cA_1, Bool.and_eq_true] at h4
      refine PE.imp (pe_meth (ho.e X c _ g h3) hc hm F hr hb .nil pass0 (ha.a X c _ g h4') (star_cons (noStar h4.1)) (by rw [backTo_any]; exact noStars h4.2) hpl) (rd fun σ H Q z => z)
  refine ⟨pe, pt_of pe (fun _ => rfl) fun τ S b S' e => ?_⟩
  simp only [revT_9] at e
  obtain ⟨x1, S1, e1, e⟩ := Res.bind_eq_ok e
  split at e <;> try (exact absurd e bad_ne)
  rename_i hrc
  obtain ⟨ds, S2, e2, e⟩ := Res.bind_eq_ok e
  obtain ⟨d, S3, e3, e⟩ := Res.bind_eq_ok e
  split at e
  · rename_i k hk
    cases e
    exact ⟨d, by simp only [revE_23]; rw [e1, Res.bind_ok, if_pos hrc, e2, Res.bind_ok, e3], hk⟩
  · cases e
theorem snd_new {cl f : String} : ∀ (X : Cx) (c : Ck) (x : Expr), Gd X C c → chkE (.new cl f) c x = true → PE X x (tE X.K C (.new cl f)) := by
  intro X c x g h
  cases x <;> try (exact absurd h Bool.false_ne_true)
  rename_i fn es kws pos
  cases fn <;> try (exact absurd h Bool.false_ne_true)
  rename_i y p
  cases es <;> cases kws <;> try (exact absurd h Bool.false_ne_true)
  simp only [cE_28, Bool.and_eq_true, beq_iff_eq] at h
  obtain ⟨⟨⟨rfl, h1⟩, h2⟩, h3⟩ := h
  obtain ⟨k, a, fd, ps, Ca, hr, n0, hm, mk, F, hb⟩ := g.top.nws cl f (by simpa using h3)
  have F := FnOk.ok0 F
  refine PE.imp (pe_make0 mk F hr (g.glo h1) hm hb .nil pass0 (dbg1 h2)) fun σ H Q hq_ => ?_
  obtain ⟨ρ, S, τ, d, S', rs, re, e, fin⟩ := hq_
  simp only [revE_24] at e
  obtain ⟨r, S1, e1, e⟩ := Res.bind_eq_ok e
  split at e <;> try (exact absurd e bad_ne)
  cases e
  intro x dx hx hdx hne
  have f1 : Fut X.K ρ H ρ (upd H dx (.own x)) := fut_new0 hdx
  have hx' : (upd H dx (.own x)) x = none := by rw [upd_ne (Ne.symm hne)]; exact hx
  have f2 : Fut X.K ρ (upd H dx (.own x)) (ρ ++ [x]) (upd (upd H dx (.own x)) x (.ins Ca dx [])) := fut_new hx' [x]
  have r2 : RelS X.K (ρ ++ [x]) (S ++ [.ins cl []]) (upd (upd H dx (.own x)) x (.ins Ca dx [])) := (rs.new hdx).allocO hx' ⟨Ca, dx, [], n0, upd_same, rfl⟩
  have hl : (ρ ++ [x])[S.length]? = some x := by rw [← rs.len]; simp
  refine ⟨ρ ++ [x], S ++ [.ins cl []], [.loc S.length], .non, S', r2, RelDs.cons (by simp only [RelD]; exact ⟨x, rfl, hl⟩) RelDs.nil, e1, fun ρ3 v3 H3 f3 r3 q3 => ⟨q3.non_inv, ?_⟩⟩
  refine fin ρ3 _ H3 (f1.trans (f2.trans f3)) r3 ?_
  simp only [RelD]
  exact ⟨x, rfl, f3.get hl⟩
theorem ltP_inv {u v : D} {k : Bool} (h : ltP u v = some k) : ∃ a b c d, u = .tup [.int a, .int b] ∧ v = .tup [.int c, .int d] ∧ k = LR.ltZ a b c d := by
  unfold ltP at h
  split at h
  · rename_i a b c d
    exact ⟨a, b, c, d, rfl, rfl, (Option.some.inj h).symm⟩
  · cases h
theorem tup2_inv {K : PySem.W.Frag} {ρ : List Addr} {H : Hp} {a b : Int} {v : V} (h : RelD K ρ H (.tup [.int a, .int b]) v) : ∃ p, v = .ref p ∧ SqT K H p [.int a, .int b] := by
  obtain ⟨p, xs, rfl, sq, t⟩ := h.tup_inv
  obtain ⟨v1, r1, rfl, q1, t⟩ := t.inv_cons
  obtain ⟨v2, r2, rfl, q2, t⟩ := t.inv_cons
  cases t.inv_nil
  cases q1.int_inv
  cases q2.int_inv
  exact ⟨p, rfl, sq⟩
theorem snd_mink {cl m f : String} {o a b : M} (ho : Snd C o) (ha : Snd C a) (hb : Snd C b) : ∀ (X : Cx) (c : Ck) (x : Expr), Gd X C c → chkE (.mink cl m f o a b) c x = true → PE X x (tE X.K C (.mink cl m f o a b)) := by
  intro X c x g h
  cases x <;> try (exact absurd h Bool.false_ne_true)
  rename_i fn es kws pos
  cases fn <;> try (exact absurd h Bool.false_ne_true)
  rename_i y p
  rcases es with _ | ⟨e1, _ | ⟨e2, _ | ⟨e3, es⟩⟩⟩ <;> try (exact absurd h Bool.false_ne_true)
  rcases kws with _ | ⟨⟨kn, ke, kp⟩, kws⟩ <;> try (exact absurd h Bool.false_ne_true)
  cases ke <;> try (exact absurd h Bool.false_ne_true)
  rename_i e0 z ap
  rcases kws with _ | ⟨k2, kws⟩ <;> try (exact absurd h Bool.false_ne_true)
  simp only [cE_29, Bool.and_eq_true, beq_iff_eq] at h
  obtain ⟨⟨⟨⟨⟨⟨⟨⟨⟨rfl, h1⟩, h2⟩, h3⟩, rfl⟩, h5⟩, h6⟩, h7⟩, h8⟩, h9⟩ := h
  have hk : kn = some (Str.ofString "key") := by simpa [keyIs'] using h3
  subst hk
  obtain ⟨k, ad, fd, ps, Ca, hr, n0, hc, hm, kb, F, hbd⟩ := g.top.mts cl m f (by simpa using h6)
  have F := FnOk.ok0 F
  refine PE.imp (pe_mink g.calm g.top.un F hr hbd hc hm kb (g.glo h1) (g.top.blt _ (mem_contains h2)) (pa_cons (ha.e X c _ g h7) (pa_cons (hb.e X c _ g h8) pa_nil (star_cons (noStar h8))) (star_cons (noStar h7))) (ho.e X c _ g h9) (base_of h5 _) (star_cons (noStar h7)) (star_cons (noStar h8))) fun σ H Q hq_ => ?_
  obtain ⟨ρ, S, τ, d, S', rs, re, e, fin⟩ := hq_
  simp only [revE_25] at e
  obtain ⟨x1, S1, q1, e⟩ := Res.bind_eq_ok e
  obtain ⟨x2, S2, q2, e⟩ := Res.bind_eq_ok e
  obtain ⟨x3, S3, q3, e⟩ := Res.bind_eq_ok e
  split at e <;> try (exact absurd e bad_ne)
  rename_i hrc
  obtain ⟨ku, S4, q4, e⟩ := Res.bind_eq_ok e
  obtain ⟨kv, S5, q5, e⟩ := Res.bind_eq_ok e
  split at e <;> try (exact absurd e bad_ne)
  rename_i kk hkk
  cases e
  obtain ⟨a2, b2, a1, b1, rfl, rfl, rfl⟩ := ltP_inv hkk
  refine ⟨ρ, S, τ, x1, S1, rs, re, q1, fun ρ1 v1 H1 f1 r1 w1 => ⟨ρ1, S1, τ, x2, S2, r1, re.fut f1, q2, fun ρ2 v2 H2 f2 r2 w2 => ⟨v1, v2, rfl, ρ2, S2, τ, x3, S3, r2, re.fut (f1.trans f2), q3, fun ρ3 v3 H3 f3 r3 w3 => ?_⟩⟩⟩
  unfold isRec at hrc
  split at hrc <;> try (cases hrc; done)
  rename_i l
  split at hrc <;> try (cases hrc; done)
  rename_i fs hi
  obtain ⟨bb, Cb, dx, ws, rfl, hl, n, eb, q⟩ := r3.ins w3 hi
  rw [n0] at n
  cases n
  have hno : ws.lookup (Str.ofString m) = none := by
    rcases q.look m with ⟨_, z⟩ | ⟨d2, v2, z1, _, _⟩
    · exact z
    · rw [z1] at hrc; cases hrc
  refine ⟨bb, dx, ws, rfl, eb, hno, ρ3, S3, [.loc _, x1], _, S4, r3, RelDs.cons w3 (RelDs.cons (w1.fut (f2.trans f3)) RelDs.nil), q4, fun ρ4 v4 H4 f4 r4 w4 => ?_⟩
  refine ⟨ρ4, S4, [.loc _, x2], _, _, r4, RelDs.cons (w3.fut f4) (RelDs.cons (w2.fut (f3.trans f4)) RelDs.nil), q5, fun ρ5 v5 H5 f5 r5 w5 => ?_⟩
  obtain ⟨p1, rfl, t1⟩ := tup2_inv (w4.fut f5)
  obtain ⟨p2, rfl, t2⟩ := tup2_inv w5
  refine ⟨p1, p2, a1, b1, a2, b2, rfl, rfl, t1, t2, fin ρ5 _ H5 (f1.trans (f2.trans (f3.trans (f4.trans f5)))) r5 ?_⟩
  cases LR.ltZ a2 b2 a1 b1 with
  | true => exact w2.fut (f3.trans (f4.trans f5))
  | false => exact w1.fut (f2.trans (f3.trans (f4.trans f5)))
theorem snd_rse : ∀ (X : Cx) (c : Ck) (x : Stmt), Gd X C c → chkS .rse c x = true → PS X x (tS X.K C .rse) := by
  intro X c x g h pins s σ H D I hq_
  obtain ⟨ρ, S, τ, fl, S', rs, re, e, fin⟩ := hq_
  exact absurd e bad_ne
end
end Mi

namespace Mi
open PySem L2
noncomputable def tEX (K : PySem.W.Frag) (C : Pr) (W : Value → L2.St → Hp → Prop) (m : M) : TE := fun σ H _ => ∃ ρ S τ c τ' S', RelS K ρ S H ∧ RelE K ρ H τ σ ∧ evE C m τ S = .err c τ' S' ∧ ∀ ρ' H' Cv, Fut K ρ H ρ' H' → RelS K ρ' S' H' → ClsOf K c Cv → W Cv σ H'
noncomputable def tTX (K : PySem.W.Frag) (C : Pr) (W : Value → L2.St → Hp → Prop) (m : M) : TT := fun σ H _ => ∃ ρ S τ c τ' S', RelS K ρ S H ∧ RelE K ρ H τ σ ∧ evT C m τ S = .err c τ' S' ∧ ∀ ρ' H' Cv, Fut K ρ H ρ' H' → RelS K ρ' S' H' → ClsOf K c Cv → W Cv σ H'
structure SndX (C : Pr) (m : M) : Prop where
  s : xM m = true → ∀ (X : Cx) (c : Ck) (W : Value → L2.St → Hp → Prop) (x : Stmt), Gd X C c → Xg X c W → chkS m c x = true → PS X x (tSX X.K C W m)
  b : xM m = true → ∀ (X : Cx) (c : Ck) (W : Value → L2.St → Hp → Prop) (x : List Stmt), Gd X C c → Xg X c W → chkB m c x = true → PSs X x (tBX X.K C W m)
  e : ∀ (X : Cx) (c : Ck) (W : Value → L2.St → Hp → Prop) (x : Expr), Gd X C c → Xg X c W → (xE c.O.rz m || sim m) = true → chkE m c x = true → PE X x (tEX X.K C W m)
  t : ∀ (X : Cx) (c : Ck) (W : Value → L2.St → Hp → Prop) (x : Expr), Gd X C c → Xg X c W → xT c.O.rz m = true → chkE m c x = true → PT X x (tTX X.K C W m)
theorem SndX.of {C : Pr} {m : M} (s : xM m = true → ∀ (X : Cx) (c : Ck) (W : Value → L2.St → Hp → Prop) (x : Stmt), Gd X C c → Xg X c W → chkS m c x = true → PS X x (tSX X.K C W m))
    (b : xM m = true → ∀ (X : Cx) (c : Ck) (W : Value → L2.St → Hp → Prop) (x : List Stmt), Gd X C c → Xg X c W → chkB m c x = true → PSs X x (tBX X.K C W m)) (h2 : ∀ Z, (xE Z m || sim m) = false := by exact fun _ => rfl) (h3 : ∀ Z, xT Z m = false := by exact fun _ => rfl) : SndX C m :=
  ⟨s, b, fun X c W x g xg z => absurd ((h2 _).symm.trans z) Bool.false_ne_true, fun X c W x g xg z => absurd ((h3 _).symm.trans z) Bool.false_ne_true⟩
theorem SndX.no {C : Pr} {m : M} (h : xM m = false) (h2 : ∀ Z, (xE Z m || sim m) = false := by exact fun _ => rfl) (h3 : ∀ Z, xT Z m = false := by exact fun _ => rfl) : SndX C m := .of (fun z => absurd (h.symm.trans z) Bool.false_ne_true) (fun z => absurd (h.symm.trans z) Bool.false_ne_true) h2 h3
section
variable {C : Pr}
theorem sx_nul : SndX C .nul := by
  refine .of (fun _ X c W x g xg h => absurd h Bool.false_ne_true) (fun _ X c W x g xg h => fun pins s σ H D I q => ?_)
  obtain ⟨ρ, S, τ, cl, τx, S', rs, re, e, fin⟩ := q
  cases e
theorem sx_cns {a b : M} (ha : Snd C a) (hb : Snd C b) (hax : SndX C a) (hbx : SndX C b) : SndX C (.cns a b) := by
  refine .of (fun _ X c W x g xg h => absurd h Bool.false_ne_true) (fun hx X c W x g xg h => ?_)
  obtain ⟨hxa, hxb⟩ := Bool.and_eq_true_iff.mp (show (xM a && xM b) = true from hx)
  cases x with
  | nil => exact absurd h Bool.false_ne_true
  | cons s ss =>
    simp only [cB_1, Bool.and_eq_true] at h
    refine PSs.imp (pss_cons (PS.or (ha.s X c _ g h.1) (hax.s hxa X c W _ g xg h.1)) (hbx.b hxb X c W _ g xg h.2)) fun D σ H hq_ => ?_
    obtain ⟨ρ, S, τ, cl, τx, S', rs, re, e, fin⟩ := hq_
    simp only [revB_1] at e
    rcases Res.bind_eq_err e with e1 | ⟨fl1, S1, e1, e⟩
    · exact .inr ⟨ρ, S, τ, cl, τx, S', rs, re, e1, fin⟩
    · refine .inl ⟨ρ, S, τ, fl1, S1, rs, re, e1, ?_⟩
      cases fl1 with
      | nx τ1 => exact fun ρ1 σ1 H1 f1 r1 q1 => ⟨ρ1, S1, τ1, cl, τx, S', r1, q1, e, fun ρ2 σ2 H2 Cv f2 => fin ρ2 σ2 H2 Cv (f1.trans f2)⟩
      | rt d => simp only at e; cases e
      | bk τ1 => simp only at e; cases e
      | ct τ1 => simp only at e; cases e
theorem snd_ifx {t a b : M} (ht : Snd C t) (ha : Snd C a) (hb : Snd C b) : ∀ (X : Cx) (c : Ck) (x : Stmt), Gd X C c → chkS (.ifx t a b) c x = true → PS X x (tS X.K C (.ifx t a b)) := by
  intro X c x g h
  cases x <;> try (exact absurd h Bool.false_ne_true)
  simp only [cS_12, Bool.and_eq_true] at h
  refine PS.imp (ps_if (ht.t X c _ g h.1.1) (ha.b X c _ g h.1.2) (hb.b X c _ g h.2)) fun D σ H hq_ => ?_
  obtain ⟨ρ, S, τ, fl, S', rs, re, e, fin⟩ := hq_
  simp only [revS_12] at e
  obtain ⟨k, S1, e1, e⟩ := Res.bind_eq_ok e
  refine ⟨ρ, S, τ, k, S1, rs, re, Res.kl_eq_ok e1, fun ρ1 H1 f1 r1 => ?_⟩
  cases k with
  | true => exact iteT ⟨ρ1, S1, τ, fl, S', r1, re.fut f1, e, fin.fut f1⟩
  | false => exact iteF ⟨ρ1, S1, τ, fl, S', r1, re.fut f1, e, fin.fut f1⟩
theorem sx_ifx {t a b : M} (ht : Snd C t) (hax : SndX C a) (hbx : SndX C b) : SndX C (.ifx t a b) := by
  refine .of (fun hx X c W x g xg h => ?_) (fun _ X c W x g xg h => absurd h Bool.false_ne_true)
  obtain ⟨hxa, hxb⟩ := Bool.and_eq_true_iff.mp (show (xM a && xM b) = true from hx)
  cases x <;> try (exact absurd h Bool.false_ne_true)
  simp only [cS_12, Bool.and_eq_true] at h
  refine PS.imp (ps_if (ht.t X c _ g h.1.1) (hax.b hxa X c W _ g xg h.1.2) (hbx.b hxb X c W _ g xg h.2)) fun D σ H hq_ => ?_
  obtain ⟨ρ, S, τ, cl, τx, S', rs, re, e, fin⟩ := hq_
  simp only [revS_12] at e
  rcases Res.bind_eq_err e with e1 | ⟨k, S1, e1, e⟩
  · exact absurd e1 Res.kl_ne
  refine ⟨ρ, S, τ, k, S1, rs, re, Res.kl_eq_ok e1, fun ρ1 H1 f1 r1 => ?_⟩
  cases k with
  | true => exact iteT ⟨ρ1, S1, τ, cl, τx, S', r1, re.fut f1, e, fun ρ2 σ2 H2 Cv f2 => fin ρ2 σ2 H2 Cv (f1.trans f2)⟩
  | false => exact iteF ⟨ρ1, S1, τ, cl, τx, S', r1, re.fut f1, e, fun ρ2 σ2 H2 Cv f2 => fin ρ2 σ2 H2 Cv (f1.trans f2)⟩
theorem snd_rtk {a : M} (ha : Snd C a) : ∀ (X : Cx) (c : Ck) (x : Stmt), Gd X C c → chkS (.rtk a) c x = true → PS X x (tS X.K C (.rtk a)) := by
  intro X c x g h
  cases x <;> try (exact absurd h Bool.false_ne_true)
  rename_i v pos
  cases v <;> try (exact absurd h Bool.false_ne_true)
  simp only [cS_14] at h
  refine PS.imp (ps_ret (ha.e X c _ g h)) fun D σ H hq_ => ?_
  obtain ⟨ρ, S, τ, fl, S', rs, re, e, fin⟩ := hq_
  simp only [revS_14] at e
  obtain ⟨d, S1, e1, e⟩ := Res.bind_eq_ok e
  cases e
  exact ⟨ρ, S, τ, d, _, rs, re, Res.kl_eq_ok e1, fin⟩
theorem sx_rtk {a : M} : SndX C (.rtk a) := by
  refine .of (fun hx X c W x g xg h => fun pins s σ H D I q => ?_) (fun _ X c W x g xg h => absurd h Bool.false_ne_true)
  obtain ⟨ρ, S, τ, cl, τx, S', rs, re, e, fin⟩ := q
  simp only [revS_14] at e
  rcases Res.bind_eq_err e with e1 | ⟨k, S1, e1, e⟩
  · exact absurd e1 Res.kl_ne
  · cases e
theorem snd_rsx {cl : String} : ∀ (X : Cx) (c : Ck) (x : Stmt), Gd X C c → chkS (.rsx cl) c x = true → PS X x (tS X.K C (.rsx cl)) := by
  intro X c x g h pins s σ H D I q
  obtain ⟨ρ, S, τ, fl, S', rs, re, e, fin⟩ := q
  cases e
theorem sx_rsx {cl : String} : SndX C (.rsx cl) := by
  refine .of (fun hx X c W x g xg h => ?_) (fun _ X c W x g xg h => absurd h Bool.false_ne_true)
  rw [cS_13] at h
  split at h <;> try (exact absurd h Bool.false_ne_true)
  rename_i q hq
  obtain rfl := rsX_eq hq
  obtain ⟨x, np, y, jj, cp, cpos, pos⟩ := q
  simp only [Bool.and_eq_true, beq_iff_eq] at h
  obtain ⟨⟨⟨⟨⟨rfl, h1⟩, h2⟩, h3⟩, h5⟩, h4⟩ := h
  obtain ⟨Ca, hn, hm, hq⟩ := g.top.rss cl (mem_contains h4)
  refine PS.imp (ps_raise (g.glo h1) hm hq g.calm (dbg1 h2)) fun D σ H hq_ => ?_
  obtain ⟨ρ, S, τ, cl', τx, S', rs, re, e, fin⟩ := hq_
  simp only [revS_13] at e
  cases e
  exact fun pins s h1' ea us I me => xg.made h3 pins σ H s h1' ea Ca us I me (fin ρ σ H (.ref Ca) Fut.refl rs re hn)
theorem run_fx {X : Cx} {CX : CXT} {E : XK} {k : Nat} {f : Addr} {fd : FuncData} {ps : List Str} {sp : Sp} {pins : List (Addr × PySem.Obj)} {σ : L2.St} {H : Hp} {s : Shared} {Q : VK} {us : List Value} {vs : List V} (F : FnOk X.prog X.w X.K X.mg X.base CX k f fd ps sp) (hr : Room k X.A) (hb : Binds X.K fd ps [])
    (hx : ∀ e s', CX X.stack H s E e s' → X.xe e s') (I : Inv X pins σ H s) (r : Vals vs us) (h : sp vs H Q E) : wpAny (model X.prog X.w) X.A (call (.ref f) us) (EP X pins σ Q) X.xe s := by
  have hl : (us ++ []).length = ps.length := by rw [List.append_nil, ← r.length]; exact F.len _ _ _ _ h
  have hb' := hb s us I.kIn hl
  rw [List.append_nil] at hb'
  refine wpAny_call (codeAny_mono (F.run X.A X.stack s H ⟨us, []⟩ us vs Q E hr I.env0 hb' r h) fun r s' hq => ?_)
  cases r with
  | error e => exact hx e s' hq
  | ok fl =>
    cases fl with
    | ret u => exact I.after hq
    | next => exact False.elim hq
    | brk => exact False.elim hq
    | cont => exact False.elim hq
theorem pe_callX {X : Cx} {CX : CXT} {E : L2.St → XK} {k : Nat} {f : Addr} {fd : FuncData} {ps : List Str} {sp : Sp} {x : Str} {p pos : Pos} {e : Expr} {es : List Expr} {t : TA} (F : FnOk X.prog X.w X.K X.mg X.base CX k f fd ps sp) (hr : Room k X.A) (hg : Gl X x) (hm : X.mg x = some (.ref f)) (hk : PySem.W.keepIn X.K (.ref f) = true) (hb : Binds X.K fd ps [])
    (hx : ∀ pins σ H s e s', Inv X pins σ H s → CX X.stack H s (E σ) e s' → X.xe e s') (ha : PA X (e :: es) t) (hdb : (x == ("__debug__" : Str)) = false) (he : starEach (e :: es) X.env = (false, eval e X.env) :: starEach es X.env) (hpl : (backTo pos (starEach es X.env)).any (·.1) = false) :
    PE X (.Call (.Name x p) (e :: es) [] pos) (fun σ H Q => t σ H fun vs H1 => sp vs H1 Q (E σ)) := by
  intro pins s σ H Q I h
  refine wpAny_Call_Name_kw (ld_glob I hg hm ?_ hdb)
  refine PySem.W.callWith_K (h₀ := X.base) I.ok.mod.kin hk (thn (ha pos pins s σ H _ I h) fun us s1 ⟨vs, H1, I1, r, q⟩ => ⟨I1.kIn, ?_⟩) he hpl
  exact run_fx F hr hb (fun e s' => hx pins σ H1 s1 e s' I1) I1 r q
theorem ps_asx {i : Nat} {f : String} {a : M} (ha : Snd C a) {X : Cx} {c : Ck} {x : Stmt} {E : L2.St → XK} (g : Gd X C c) (h : chkS (.asx i f a) c x = true) (hx : ∀ pins σ H s e s', Inv X pins σ H s → CX1 X.prog X.w X.stack H s (E σ) e s' → X.xe e s') :
    f ∈ c.O.rz ∧ PS X x (fun D σ H => tE X.K C a σ H fun v H1 => spX X.K C c.O.rz f [v] H1 (fun d H2 => D.nx (σ.set i (some d)) H2) (E σ)) := by
  rw [cS_15] at h
  split at h <;> try (exact absurd h Bool.false_ne_true)
  rename_i q hq
  obtain rfl := asX_eq hq
  obtain ⟨y, yp, z, zp, e0, cpos, pos⟩ := q
  simp only [Bool.and_eq_true, beq_iff_eq] at h
  obtain ⟨⟨⟨⟨⟨⟨⟨⟨h0, h1⟩, rfl⟩, h2⟩, h3⟩, h4⟩, h5⟩, h6⟩, h7⟩ := h
  obtain ⟨k, ad, fd, ps, hr, hm, F, hb, hk⟩ := g.top.fns f (mem_contains h5)
  obtain ⟨o1, o2⟩ := g.own h1
  refine ⟨mem_contains h6, PS.imp (ps_asg (pe_callX (E := E) F hr (g.glo h2) hm hk hb hx (pa_cons (ha.e X c _ g h7) pa_nil (star_cons (noStar h7))) (dbg1 h3) (star_cons (noStar h7)) rfl) (pg_name g.nd (by rw [g.N]; exact h0) o1 o2) rfl rfl rfl) fun D σ H q => q⟩
theorem snd_asx {i : Nat} {f : String} {a : M} (ha : Snd C a) : ∀ (X : Cx) (c : Ck) (x : Stmt), Gd X C c → chkS (.asx i f a) c x = true → PS X x (tS X.K C (.asx i f a)) := by
  intro X c x g h
  refine PS.imp (ps_asx (E := fun _ _ _ _ => False) ha g h fun pins σ H s e s' I cx => ?_).2 fun D σ H hq_ => ?_
  · obtain ⟨_, _, _, _, _, _, _, _, _, _, _, _, _, _, z⟩ := cx
    exact z.elim
  · obtain ⟨ρ, S, τ, fl, S', rs, re, e, fin⟩ := hq_
    simp only [revS_15] at e
    obtain ⟨d, S1, e1, e⟩ := Res.bind_eq_ok e
    obtain ⟨y, S2, e2, e⟩ := Res.bind_eq_ok e
    split at e
    · cases e
      refine ⟨ρ, S, τ, d, S1, rs, re, Res.kl_eq_ok e1, fun ρ1 v1 H1 f1 r1 q1 => .inl ⟨ρ1, S1, [d], y, _, r1, RelDs.cons q1 RelDs.nil, Res.at_eq_ok e2, fun ρ2 v2 H2 f2 r2 q2 => ?_⟩⟩
      exact fin ρ2 _ H2 (f1.trans f2) r2 ((re.fut (f1.trans f2)).set q2 i)
    · cases e
theorem sx_asx {i : Nat} {f : String} {a : M} (ha : Snd C a) : SndX C (.asx i f a) := by
  refine .of (fun hx X c W x g xg h => ?_) (fun _ X c W x g xg h => absurd h Bool.false_ne_true)
  obtain ⟨hz, ps⟩ := ps_asx (E := fun σ Cv _ H' => W Cv σ H') ha g h fun pins σ H s e s' I cx => xg.fly pins σ H s s' e _ I cx fun Cv H' z => z
  refine PS.imp ps fun D σ H hq_ => ?_
  obtain ⟨ρ, S, τ, cl, τx, S', rs, re, e, fin⟩ := hq_
  simp only [revS_15] at e
  rcases Res.bind_eq_err e with e1 | ⟨d, S1, e1, e⟩
  · exact absurd e1 Res.kl_ne
  rcases Res.bind_eq_err e with e2 | ⟨y, S2, e2, e⟩
  · obtain ⟨rfl, τ0, e2⟩ := Res.at_eq_err e2
    refine ⟨ρ, S, τx, d, S1, rs, re, Res.kl_eq_ok e1, fun ρ1 v1 H1 f1 r1 q1 => .inr ⟨hz, ρ1, S1, [d], cl, τ0, S', r1, RelDs.cons q1 RelDs.nil, e2, fun ρ2 H2 Cv f2 r2 hc => ?_⟩⟩
    exact fin ρ2 σ H2 Cv (f1.trans f2) r2 (re.fut (f1.trans f2)) hc
  · split at e <;> cases e
theorem sim_ne : ∀ (m : M), sim m = true → ∀ {τ : En} {S : Store} {c : String} {τ' : En} {S' : Store}, evE C m τ S ≠ .err c τ' S' := by
  intro m
  induction m with
  | cst d => intro _ τ S c τ' S' e; cases e
  | var i =>
    intro _ τ S c τ' S' e
    simp only [revE_1] at e
    split at e <;> cases e
  | glb x =>
    intro _ τ S c τ' S' e
    simp only [revE_2] at e
    split at e <;> cases e
  | idx a b ha hb =>
    intro h τ S c τ' S' e
    obtain ⟨h1, h2⟩ := Bool.and_eq_true_iff.mp (show (sim a && sim b) = true from h)
    simp only [revE_12] at e
    rcases Res.bind_eq_err e with e | ⟨x1, S1, _, e⟩
    · exact ha h1 e
    rcases Res.bind_eq_err e with e | ⟨x2, S2, _, e⟩
    · exact hb h2 e
    split at e <;> cases e
  | fld cl f a ha =>
    intro h τ S c τ' S' e
    simp only [revE_22] at e
    rcases Res.bind_eq_err e with e | ⟨x1, S1, _, e⟩
    · exact ha h e
    split at e <;> cases e
  | _ => intro h; exact absurd h Bool.false_ne_true
theorem simA_ne : ∀ (m : M), simA m = true → ∀ {τ : En} {S : Store} {c : String} {τ' : En} {S' : Store}, evA C m τ S ≠ .err c τ' S' := by
  intro m
  induction m with
  | nul => intro _ τ S c τ' S' e; cases e
  | cns a b _ hb =>
    intro h τ S c τ' S' e
    obtain ⟨h1, h2⟩ := Bool.and_eq_true_iff.mp (show (sim a && simA b) = true from h)
    simp only [revA_1] at e
    rcases Res.bind_eq_err e with e | ⟨x1, S1, _, e⟩
    · exact sim_ne a h1 e
    rcases Res.bind_eq_err e with e | ⟨x2, S2, _, e⟩
    · exact hb h2 e
    cases e
  | _ => intro h; exact absurd h Bool.false_ne_true
theorem PE.or {X : Cx} {e : Expr} {t u : TE} (h : PE X e t) (k : PE X e u) : PE X e (fun σ H Q => t σ H Q ∨ u σ H Q) := fun pins s σ H Q I q => q.elim (h pins s σ H Q I) (k pins s σ H Q I)
theorem ex_sim {m : M} (h : sim m = true) : ∀ (X : Cx) (c : Ck) (W : Value → L2.St → Hp → Prop) (x : Expr), Gd X C c → Xg X c W → chkE m c x = true → PE X x (tEX X.K C W m) := fun X c W x g xg hc pins s σ H Q I q => by
  obtain ⟨ρ, S, τ, cl, τ', S', rs, re, e, fin⟩ := q
  exact absurd e (sim_ne m h)
theorem SndX.exp {m : M} (h : xM m = false) (e : ∀ (X : Cx) (c : Ck) (W : Value → L2.St → Hp → Prop) (x : Expr), Gd X C c → Xg X c W → (xE c.O.rz m || sim m) = true → chkE m c x = true → PE X x (tEX X.K C W m)) (h3 : ∀ Z, xT Z m = false := by exact fun _ => rfl) : SndX C m :=
  ⟨fun z => absurd (h.symm.trans z) Bool.false_ne_true, fun z => absurd (h.symm.trans z) Bool.false_ne_true, e, fun X c W x g xg z => absurd ((h3 _).symm.trans z) Bool.false_ne_true⟩
section
variable {X : Cx} {CX : CXT} {E : L2.St → XK} {k : Nat} {f Ca : Addr} {fd : FuncData} {ps : List Str} {sp : Sp} {m : Str} {apos pos : Pos} {o e : Expr} {es : List Expr} {ta : TE} {t : TA}
theorem pe_methX {pl : Sem Bool} (he : PE X o ta) (c : Cls X.K Ca) (hm : L2.Meth X.K Ca m f) (F : FnOk X.prog X.w X.K X.mg X.base CX k f fd ps sp) (hr : Room k X.A) (hb : Binds X.K fd ps [])
    (hx : ∀ pins σ H s e s', Inv X pins σ H s → CX X.stack H s (E σ) e s' → X.xe e s') (ha : PA X (e :: es) t) (hst : starEach (e :: es) X.env = (false, eval e X.env) :: starEach es X.env) (hpl : (backTo pos (starEach es X.env)).any (·.1) = false)
    (ht : eval (.Call (.Attribute o m apos) (e :: es) [] pos) X.env = (do
      let ov ← eval o X.env
      standAt apos.atName
      let (f, first) ← holding [ov] (getMethod ov m pl)
      callWith pos f first (backTo pos (starEach (e :: es) X.env)) (backToKw pos (keywordEach [] X.env)))) :
    PE X (.Call (.Attribute o m apos) (e :: es) [] pos) (fun σ H Q => ta σ H fun x H1 => ∃ a dx fs, x = .ref a ∧ H1 a = some (.ins Ca dx fs) ∧ fs.lookup m = none ∧ t σ H1 fun vs H2 => sp (x :: vs) H2 Q (E σ)) := by
  intro pins s σ H Q I h
  refine PySem.W.methodCall_KW (pl := pl) (thn (he pins s σ H _ I h) fun u s1 ⟨x, H1, I1, rx, a, dx, fs, ex, ea, l, q⟩ => ?_) ht
  subst ex
  obtain rfl : u = Value.ref a := rx
  refine getmeth_ok I1 ea c hm l ?_
  refine PySem.W.callWith_K (first := [.ref a]) (h₀ := X.base) I.ok.mod.kin hm.kp (thn (ha pos pins s1 σ H1 _ I1 q) fun us s2 ⟨vs, H2, I2, r, q2⟩ => ⟨I2.kIn, ?_⟩) hst hpl
  exact run_fx (us := .ref a :: us) (vs := .ref a :: vs) F hr hb (fun e s' => hx pins σ H2 s2 e s' I2) I2 (.cons rfl r) q2
theorem pe_methX0 {pl : Sem Bool} (he : PE X o ta) (c : Cls X.K Ca) (hm : L2.Meth X.K Ca m f) (F : FnOk X.prog X.w X.K X.mg X.base CX k f fd ps sp) (hr : Room k X.A) (hb : Binds X.K fd ps [])
    (hx : ∀ pins σ H s e s', Inv X pins σ H s → CX X.stack H s (E σ) e s' → X.xe e s')
    (ht : eval (.Call (.Attribute o m apos) [] [] pos) X.env = (do
      let ov ← eval o X.env
      standAt apos.atName
      let (f, first) ← holding [ov] (getMethod ov m pl)
      callWith pos f first (backTo pos (starEach [] X.env)) (backToKw pos (keywordEach [] X.env)))) :
    PE X (.Call (.Attribute o m apos) [] [] pos) (fun σ H Q => ta σ H fun x H1 => ∃ a dx fs, x = .ref a ∧ H1 a = some (.ins Ca dx fs) ∧ fs.lookup m = none ∧ sp [x] H1 Q (E σ)) := by
  intro pins s σ H Q I h
  refine PySem.W.methodCall_KW (pl := pl) (thn (he pins s σ H _ I h) fun u s1 ⟨x, H1, I1, rx, a, dx, fs, ex, ea, l, q⟩ => ?_) ht
  subst ex
  obtain rfl : u = Value.ref a := rx
  refine getmeth_ok I1 ea c hm l ?_
  exact PySem.W.callWith_K0 (first := [.ref a]) I1.kIn hm.kp (run_fx (us := [.ref a]) (vs := [.ref a]) F hr hb (fun e s' => hx pins σ H1 s1 e s' I1) I1 (.cons rfl .nil) q)
end
theorem ex_mcl {cl m f : String} {o as : M} (ho : Snd C o) (ha : Snd C as) (so : sim o = true) (sa : simA as = true) : ∀ (X : Cx) (c : Ck) (W : Value → L2.St → Hp → Prop) (x : Expr), Gd X C c → Xg X c W → f ∈ c.O.rz → chkE (.mcl cl m f o as) c x = true → PE X x (tEX X.K C W (.mcl cl m f o as)) := by
  intro X c W x g xg hz h
  cases x <;> try (exact absurd h Bool.false_ne_true)
  rename_i fn es kws pos
  cases fn <;> try (exact absurd h Bool.false_ne_true)
  rename_i e0 y ap
  cases kws <;> try (exact absurd h Bool.false_ne_true)
  simp only [cE_27, Bool.and_eq_true, beq_iff_eq, decide_eq_true_eq] at h
  obtain ⟨⟨⟨⟨⟨⟨rfl, h1⟩, hln⟩, hfw⟩, h2⟩, h3⟩, h4⟩ := h
  obtain ⟨k, a, fd, ps, Ca, hr', n0, hc, hm, _, F, hb⟩ := g.top.mts cl m f (by simpa using h2)
  have hr := hr'.mono (Nat.le_succ k)
  have rd : ∀ {t : TA}, (∀ σ H Q, tA X.K C as σ H Q → t σ H Q) → ∀ σ H Q, tEX X.K C W (.mcl cl m f o as) σ H Q → tE X.K C o σ H fun x H1 => ∃ a dx fs, x = .ref a ∧ H1 a = some (.ins Ca dx fs) ∧ fs.lookup (Str.ofString m) = none ∧ t σ H1 fun vs H2 => spX X.K C c.O.rz f (x :: vs) H2 Q (fun Cv _ H' => W Cv σ H') := fun {t} ht σ H Q ⟨ρ, S, τ, cx, τ', S', rs, re, e, fin⟩ => by
    simp only [revE_23] at e
    rcases Res.bind_eq_err e with e1 | ⟨x1, S1, e1, e⟩
    · exact absurd e1 (sim_ne o so)
    split at e <;> try (cases e; done)
    rename_i hrc
    rcases Res.bind_eq_err e with e2 | ⟨ds, S2, e2, e⟩
    · exact absurd e2 (simA_ne as sa)
    refine ⟨ρ, S, τ, x1, S1, rs, re, e1, fun ρ1 v1 H1 f1 r1 q1 => ?_⟩
    unfold isRec at hrc
    split at hrc <;> try (cases hrc; done)
    rename_i l
    split at hrc <;> try (cases hrc; done)
    rename_i fs hi
    obtain ⟨b, Cb, dx, ws, rfl, hl, n, eb, q⟩ := r1.ins q1 hi
    rw [n0] at n
    cases n
    have hno : ws.lookup (Str.ofString m) = none := by
      rcases q.look m with ⟨_, z⟩ | ⟨d2, v2, z1, _, _⟩
      · exact z
      · rw [z1] at hrc; cases hrc
    refine ⟨b, dx, ws, rfl, eb, hno, ht σ H1 _ ⟨ρ1, S1, τ, ds, S2, r1, re.fut f1, e2, fun ρ2 vs H2 f2 r2 q2 => ?_⟩⟩
    exact .inr ⟨hz, ρ2, S2, .loc _ :: ds, cx, τ', S', r2, RelDs.cons (q1.fut f2) q2, e, fun ρ3 H3 Cv f3 r3 hcv => fin ρ3 H3 Cv (f1.trans (f2.trans f3)) r3 hcv⟩
  have hx : ∀ pins σ H s e s', Inv X pins σ H s → CX1 X.prog X.w X.stack H s ((fun (σ : L2.St) => ((fun Cv _ H' => W Cv σ H') : XK)) σ) e s' → X.xe e s' := fun pins σ H s e s' I cx => xg.fly pins σ H s s' e _ I cx fun Cv H' z => z
  have hform : methodCallForm (es.length + ([] : List Keyword).length) (backTo pos (starEach es X.env)) (backToKw pos (keywordEach [] X.env)) = true := by
    unfold methodCallForm
    have hall : (backTo pos (starEach es X.env)).all (fun x => !x.1) = true := backTo_all _ _ (noStars (env := X.env) h4)
    rw [show (backTo pos (starEach es X.env)).all (!·.1) = true from hall]
    simp only [Bool.true_and, Bool.and_eq_true, decide_eq_true_eq]
    exact ⟨rfl, by show es.length + 0 + 0 < 30; omega⟩
  have hpl := meth_tree (X := X) (e0 := e0) (m := Str.ofString m) (ap := ap) (pos := pos) (es := es) (base_of h1 _) hform (by simpa using hln)
  cases es with
  | nil =>
    refine PE.imp (pe_methX0 (E := fun (σ : L2.St) => ((fun Cv _ H' => W Cv σ H') : XK)) (ho.e X c _ g h3) hc hm F hr hb hx hpl) (rd (t := fun _ H Q => Q [] H) fun σ H Q ⟨ρ, S, τ, ds, S', rs, re, e, fin⟩ => ?_)
    cases as <;> try (exact absurd h4 Bool.false_ne_true)
    simp only [revA_0] at e
    cases e
    exact fin ρ [] H Fut.refl rs RelDs.nil
  | cons e es =>
    cases as <;> try (exact absurd h4 Bool.false_ne_true)
    have h4' := h4
    simp only [cA_1, Bool.and_eq_true] at h4
    exact PE.imp (pe_methX (E := fun (σ : L2.St) => ((fun Cv _ H' => W Cv σ H') : XK)) (ho.e X c _ g h3) hc hm F hr hb hx (ha.a X c _ g h4') (star_cons (noStar h4.1)) (by rw [backTo_any]; exact noStars h4.2) hpl) (rd fun σ H Q z => z)
theorem sx_cst {d : D} : SndX C (.cst d) := .exp rfl fun X c W x g xg _ => ex_sim rfl X c W x g xg
theorem sx_var {i : Nat} : SndX C (.var i) := .exp rfl fun X c W x g xg _ => ex_sim rfl X c W x g xg
theorem sx_glb {x : String} : SndX C (.glb x) := .exp rfl fun X c W x g xg _ => ex_sim rfl X c W x g xg
theorem sx_fld {cl f : String} {a : M} : SndX C (.fld cl f a) := .exp rfl fun X c W x g xg h => ex_sim (by rw [show xE c.O.rz (.fld cl f a) = false from rfl, Bool.false_or] at h; exact h) X c W x g xg
theorem sx_mcl {cl m f : String} {o as : M} (ho : Snd C o) (ha : Snd C as) : SndX C (.mcl cl m f o as) := .exp rfl fun X c W x g xg h hc => by
  have h : ((c.O.rz.contains f && sim o && simA as) || false) = true := h
  rw [Bool.or_false, Bool.and_eq_true, Bool.and_eq_true] at h
  exact ex_mcl ho ha h.1.2 h.2 X c W x g xg (mem_contains h.1.1) hc
theorem sx_idx {a b : M} (ha : Snd C a) (hb : Snd C b) (xa : SndX C a) : SndX C (.idx a b) := .exp rfl fun X c W x g xg hs h => by
  have hs : ((xE c.O.rz a && sim b) || (sim a && sim b)) = true := hs
  have h1 : (xE c.O.rz a || sim a) = true := by
    cases e1 : xE c.O.rz a <;> cases e2 : sim a <;> simp [e1, e2] at hs ⊢
  have h2 : sim b = true := by
    cases e1 : sim b
    · simp [e1] at hs
    · rfl
  cases x <;> try (exact absurd h Bool.false_ne_true)
  rename_i vx sx px
  simp only [cE_16, Bool.and_eq_true] at h
  refine PE.imp (pe_ix (idx_ok (Nat.lt_of_le_of_lt (Nat.add_le_add_left (by decide : 1 ≤ 64) _) g.top.un)) (xa.e X c W _ g xg h1 h.1) (hb.e X c _ g h.2) (plainIx h.2)) fun σ H Q hq_ => ?_
  obtain ⟨ρ, S, τ, cl, τ', S', rs, re, e, fin⟩ := hq_
  simp only [revE_12] at e
  rcases Res.bind_eq_err e with e1 | ⟨x1, S1, e1, e⟩
  · exact ⟨ρ, S, τ, cl, τ', S', rs, re, e1, fin⟩
  rcases Res.bind_eq_err e with e2 | ⟨x2, S2, _, e⟩
  · exact absurd e2 (sim_ne b h2)
  split at e <;> cases e
theorem sx_revl {a : M} (xa : SndX C a) : SndX C (.revl a) := .exp rfl fun X c W x g xg hs h => by
  have hs : (xE c.O.rz a || false) = true := hs
  rw [Bool.or_false] at hs
  cases x <;> try (exact absurd h Bool.false_ne_true)
  rename_i fn es kws pos
  cases fn <;> try (exact absurd h Bool.false_ne_true)
  rename_i y pp
  rcases es with _ | ⟨e0, es⟩ <;> try (exact absurd h Bool.false_ne_true)
  cases e0 <;> try (exact absurd h Bool.false_ne_true)
  rename_i fn2 es2 kws2 pos2
  cases fn2 <;> try (exact absurd h Bool.false_ne_true)
  rename_i y2 pp2
  rcases es2 with _ | ⟨e1, _ | ⟨e2, es2⟩⟩ <;> cases kws2 <;> cases es <;> cases kws <;> try (exact absurd h Bool.false_ne_true)
  simp only [cE_23, Bool.and_eq_true, beq_iff_eq] at h
  obtain ⟨⟨⟨⟨⟨⟨rfl, rfl⟩, h1⟩, h2⟩, h3⟩, h4⟩, h5⟩ := h
  refine PE.imp (pe_listrev2 g.calm (g.glo h1) (g.top.blt _ (mem_contains h3)) (g.glo h2) (g.top.blt _ (mem_contains h4)) (pa_cons (xa.e X c W _ g xg (by rw [hs]; rfl) h5) pa_nil (star_cons (noStar h5))) (star_cons (noStar h5))) fun σ H Q hq_ => ?_
  obtain ⟨ρ, S, τ, cl, τ', S', rs, re, e, fin⟩ := hq_
  simp only [revE_19] at e
  rcases Res.bind_eq_err e with e1 | ⟨x1, S1, e1, e⟩
  · exact ⟨ρ, S, τ, cl, τ', S', rs, re, e1, fin⟩
  revert e
  cases x1 <;> intro e <;> first | (cases e; done) | (simp only at e; split at e <;> cases e)
theorem sx_cmp {o : Cop} {a b : M} (ha : Snd C a) (hb : Snd C b) (xa : SndX C a) (xb : SndX C b) : SndX C (.cmp o a b) := by
  refine ⟨fun z => absurd z Bool.false_ne_true, fun z => absurd z Bool.false_ne_true, fun X c W x g xg z => absurd z Bool.false_ne_true, fun X c W x g xg hs h => ?_⟩
  obtain ⟨s1, s2⟩ := Bool.and_eq_true_iff.mp (show ((xE c.O.rz a || sim a) && (xE c.O.rz b || sim b)) = true from hs)
  cases x <;> try (exact absurd h Bool.false_ne_true)
  rename_i l ops cs pos
  rcases ops with _ | ⟨p, _ | ⟨p2, ops⟩⟩ <;> rcases cs with _ | ⟨f, _ | ⟨f2, cs⟩⟩ <;> try (exact absurd h Bool.false_ne_true)
  simp only [cE_11] at h
  simp only [Bool.and_eq_true, beq_iff_eq] at h
  obtain ⟨⟨⟨rfl, h1⟩, h2⟩, h3⟩ := h
  refine PT.imp (pt_cmpR (cop_ok o g.top.un) (PE.or (ha.e X c _ g h1) (xa.e X c W _ g xg s1 h1)) (PE.or (hb.e X c _ g h2) (xb.e X c W _ g xg s2 h2)) (marks h3 _)) fun σ H Q hq_ => ?_
  obtain ⟨ρ, S, τ, cl, τ', S', rs, re, e, fin⟩ := hq_
  simp only [revT_2] at e
  rcases Res.bind_eq_err e with e1 | ⟨x1, S1, e1, e⟩
  · exact .inr ⟨ρ, S, τ, cl, τ', S', rs, re, e1, fin⟩
  rcases Res.bind_eq_err e with e2 | ⟨x2, S2, _, e⟩
  · exact .inl ⟨ρ, S, τ, x1, S1, rs, re, e1, fun ρ1 v1 H1 f1 r1 q1 => .inr ⟨ρ1, S1, τ, cl, τ', S', r1, re.fut f1, e2, fun ρ2 H2 Cv f2 => fin ρ2 H2 Cv (f1.trans f2)⟩⟩
  split at e <;> cases e
theorem ps_exp' {X : Cx} {v : Expr} {pos : Pos} {te : TE} (h : PE X v te) (hv : isComp v = false) : PS X (.Expr v pos) (tDrop te) := ps_expr h (by cases v <;> first | rfl | (simp [isComp] at hv))
theorem snd_exx {a : M} (ha : Snd C a) : ∀ (X : Cx) (c : Ck) (x : Stmt), Gd X C c → chkS (.exx a) c x = true → PS X x (tS X.K C (.exx a)) := by
  intro X c x g h
  cases x <;> try (exact absurd h Bool.false_ne_true)
  simp only [cS_17, Bool.and_eq_true, Bool.not_eq_true'] at h
  refine PS.imp (ps_exp' (ha.e X c _ g h.1.1) h.1.2) fun D σ H hq_ => ?_
  obtain ⟨ρ, S, τ, fl, S', rs, re, e, fin⟩ := hq_
  simp only [revS_17] at e
  obtain ⟨d, S1, e1, e⟩ := Res.bind_eq_ok e
  cases e
  exact ⟨ρ, S, τ, d, _, rs, re, Res.at_eq_ok e1, fun ρ1 v1 H1 f1 r1 q1 => fin ρ1 σ H1 f1 r1 (re.fut f1)⟩
theorem sx_exx {a : M} (xa : SndX C a) : SndX C (.exx a) := by
  refine .of (fun hx X c W x g xg h => ?_) (fun _ X c W x g xg h => absurd h Bool.false_ne_true)
  cases x <;> try (exact absurd h Bool.false_ne_true)
  simp only [cS_17, Bool.and_eq_true, Bool.not_eq_true'] at h
  refine PS.imp (ps_exp' (xa.e X c W _ g xg (by rw [h.2]; rfl) h.1.1) h.1.2) fun D σ H hq_ => ?_
  obtain ⟨ρ, S, τ, cl, τx, S', rs, re, e, fin⟩ := hq_
  simp only [revS_17] at e
  rcases Res.bind_eq_err e with e1 | ⟨d, S1, e1, e⟩
  · obtain ⟨rfl, τ0, e1⟩ := Res.at_eq_err e1
    exact ⟨ρ, S, τx, cl, τ0, S', rs, re, e1, fun ρ' H' Cv fu r hc => fin ρ' σ H' Cv fu r (re.fut fu) hc⟩
  · cases e
theorem snd_rtx {a : M} (ha : Snd C a) : ∀ (X : Cx) (c : Ck) (x : Stmt), Gd X C c → chkS (.rtx a) c x = true → PS X x (tS X.K C (.rtx a)) := by
  intro X c x g h
  cases x <;> try (exact absurd h Bool.false_ne_true)
  rename_i v pos
  cases v <;> try (exact absurd h Bool.false_ne_true)
  simp only [cS_19, Bool.and_eq_true] at h
  refine PS.imp (ps_ret (ha.e X c _ g h.1)) fun D σ H hq_ => ?_
  obtain ⟨ρ, S, τ, fl, S', rs, re, e, fin⟩ := hq_
  simp only [revS_19] at e
  obtain ⟨d, S1, e1, e⟩ := Res.bind_eq_ok e
  cases e
  exact ⟨ρ, S, τ, d, _, rs, re, Res.at_eq_ok e1, fin⟩
theorem sx_rtx {a : M} (xa : SndX C a) : SndX C (.rtx a) := by
  refine .of (fun hx X c W x g xg h => ?_) (fun _ X c W x g xg h => absurd h Bool.false_ne_true)
  cases x <;> try (exact absurd h Bool.false_ne_true)
  rename_i v pos
  cases v <;> try (exact absurd h Bool.false_ne_true)
  simp only [cS_19, Bool.and_eq_true] at h
  refine PS.imp (ps_ret (xa.e X c W _ g xg (by rw [h.2]; rfl) h.1)) fun D σ H hq_ => ?_
  obtain ⟨ρ, S, τ, cl, τx, S', rs, re, e, fin⟩ := hq_
  simp only [revS_19] at e
  rcases Res.bind_eq_err e with e1 | ⟨d, S1, e1, e⟩
  · obtain ⟨rfl, τ0, e1⟩ := Res.at_eq_err e1
    exact ⟨ρ, S, τx, cl, τ0, S', rs, re, e1, fun ρ' H' Cv fu r hc => fin ρ' σ H' Cv fu r (re.fut fu) hc⟩
  · cases e
theorem ps_asq {i : Nat} {a : M} {te : TE} {X : Cx} {c : Ck} {x : Stmt} (g : Gd X C c) (h : chkS (.asq i a) c x = true) (he : ∀ v, chkE a c v = true → xE c.O.rz a = true → PE X v te) : PS X x (fun D σ H => te σ H fun d H1 => D.nx (σ.set i (some d)) H1) := by
  cases x <;> try (exact absurd h Bool.false_ne_true)
  rename_i tgs v pos
  rcases tgs with _ | ⟨tg, _ | ⟨t2, tgs⟩⟩ <;> try (exact absurd h Bool.false_ne_true)
  all_goals (cases tg <;> try (exact absurd h Bool.false_ne_true))
  simp only [cS_18, Bool.and_eq_true, beq_iff_eq, Bool.not_eq_true'] at h
  obtain ⟨⟨⟨⟨h0, h1⟩, h2⟩, h3⟩, h4⟩ := h
  obtain ⟨o1, o2⟩ := g.own h1
  exact PS.imp (ps_asg (he v h3 h4) (pg_name g.nd (by rw [g.N]; exact h0) o1 o2) (by unfold swapsWithSole; exact notComp_some h2) rfl rfl) fun D σ H q => q
theorem snd_asq {i : Nat} {a : M} (ha : Snd C a) : ∀ (X : Cx) (c : Ck) (x : Stmt), Gd X C c → chkS (.asq i a) c x = true → PS X x (tS X.K C (.asq i a)) := by
  intro X c x g h
  refine PS.imp (ps_asq g h fun v hv _ => ha.e X c v g hv) fun D σ H hq_ => ?_
  obtain ⟨ρ, S, τ, fl, S', rs, re, e, fin⟩ := hq_
  simp only [revS_18] at e
  obtain ⟨d, S1, e1, e⟩ := Res.bind_eq_ok e
  split at e
  · cases e
    exact ⟨ρ, S, τ, d, _, rs, re, Res.at_eq_ok e1, fun ρ1 v1 H1 f1 r1 q1 => fin ρ1 _ H1 f1 r1 ((re.fut f1).set q1 i)⟩
  · cases e
theorem sx_asq {i : Nat} {a : M} (xa : SndX C a) : SndX C (.asq i a) := by
  refine .of (fun hx X c W x g xg h => ?_) (fun _ X c W x g xg h => absurd h Bool.false_ne_true)
  refine PS.imp (ps_asq g h fun v hv hz => xa.e X c W v g xg (by rw [hz]; rfl) hv) fun D σ H hq_ => ?_
  obtain ⟨ρ, S, τ, cl, τx, S', rs, re, e, fin⟩ := hq_
  simp only [revS_18] at e
  rcases Res.bind_eq_err e with e1 | ⟨d, S1, e1, e⟩
  · obtain ⟨rfl, τ0, e1⟩ := Res.at_eq_err e1
    exact ⟨ρ, S, τx, cl, τ0, S', rs, re, e1, fun ρ' H' Cv fu r hc => fin ρ' σ H' Cv fu r (re.fut fu) hc⟩
  · split at e <;> cases e
theorem snd_kls {a : M} (ha : Snd C a) : ∀ (X : Cx) (c : Ck) (x : Stmt), Gd X C c → chkS (.kls a) c x = true → PS X x (tS X.K C (.kls a)) := by
  intro X c x g h
  rw [cS_21] at h
  refine PS.imp (ha.s X c x g h) fun D σ H hq_ => ?_
  obtain ⟨ρ, S, τ, fl, S', rs, re, e, fin⟩ := hq_
  exact ⟨ρ, S, τ, fl, S', rs, re, Res.kl_eq_ok e, fin⟩
theorem sx_kls {a : M} : SndX C (.kls a) := by
  refine .of (fun hx X c W x g xg h => fun pins s σ H D I q => ?_) (fun _ X c W x g xg h => absurd h Bool.false_ne_true)
  obtain ⟨ρ, S, τ, cl, τx, S', rs, re, e, fin⟩ := q
  exact absurd e Res.kl_ne
theorem PT.or {X : Cx} {e : Expr} {t u : TT} (h : PT X e t) (k : PT X e u) : PT X e (fun σ H Q => t σ H Q ∨ u σ H Q) := fun pins s σ H Q I q => q.elim (h pins s σ H Q I) (k pins s σ H Q I)
theorem snd_whx {t b : M} (ht : Snd C t) (hb : Snd C b) : ∀ (X : Cx) (c : Ck) (x : Stmt), Gd X C c → chkS (.whx t b) c x = true → PS X x (tS X.K C (.whx t b)) := by
  intro X c x g h
  cases x <;> try (exact absurd h Bool.false_ne_true)
  rename_i tst body els pos
  cases els <;> try (exact absurd h Bool.false_ne_true)
  simp only [cS_20, Bool.and_eq_true] at h
  refine PS.imp (ps_while g.xe (ht.t X c _ g h.1.1) (hb.b X c _ g h.1.2)) fun D σ0 H0 hq_ => ?_
  obtain ⟨ρ0, S, τ, fl, S', r0, re, e, fin0⟩ := hq_
  simp only [revS_20] at e
  refine ⟨fun m σ H => ∃ ρ S τ, Fut X.K ρ0 H0 ρ H ∧ RelS X.K ρ S H ∧ RelE X.K ρ H τ σ ∧ whlL (fun τ S => (evT C t τ S).at τ) (evB C b) m τ S = .ok fl S', ⟨C.W, ρ0, S, τ, Fut.refl, r0, re, e⟩, ?_⟩
  rintro m σ H ⟨ρ, S, τ, f, rs, re, e⟩
  cases m with
  | zero => simp only [whlL] at e; cases e
  | succ m =>
    simp only [whlL] at e
    obtain ⟨k, S1, e1, e⟩ := Res.bind_eq_ok e
    refine ⟨ρ, S, τ, k, S1, rs, re, Res.at_eq_ok e1, fun ρ1 H1 f1 r1 => ?_⟩
    cases k with
    | false =>
      rw [if_neg Bool.false_ne_true] at e
      refine iteF ?_
      cases e
      exact fin0 ρ1 σ H1 (f.trans f1) r1 (re.fut f1)
    | true =>
      rw [if_pos rfl] at e
      refine iteT ?_
      obtain ⟨fl1, S2, e2, e⟩ := Res.bind_eq_ok e
      refine ⟨fun σ' H' => ∃ ρ' S'' τ', Fut X.K ρ0 H0 ρ' H' ∧ RelS X.K ρ' S'' H' ∧ RelE X.K ρ' H' τ' σ' ∧ whlL (fun τ S => (evT C t τ S).at τ) (evB C b) m τ' S'' = .ok fl S', fun σ' H' ⟨ρ', S'', τ', a1, a2, a3, a4⟩ => ⟨m, Nat.lt_succ_self m, ρ', S'', τ', a1, a2, a3, a4⟩, ρ1, S1, τ, fl1, S2, r1, re.fut f1, e2, ?_⟩
      cases fl1 with
      | nx τ1 => exact fun ρ2 σ2 H2 f2 r2 q2 => ⟨ρ2, S2, τ1, f.trans (f1.trans f2), r2, q2, e⟩
      | ct τ1 => exact fun ρ2 σ2 H2 f2 r2 q2 => ⟨ρ2, S2, τ1, f.trans (f1.trans f2), r2, q2, e⟩
      | bk τ1 =>
        simp only at e
        cases e
        exact fun ρ2 σ2 H2 f2 r2 q2 => fin0 ρ2 σ2 H2 (f.trans (f1.trans f2)) r2 q2
      | rt d =>
        simp only at e
        cases e
        exact fun ρ2 v2 H2 f2 r2 q2 => fin0 ρ2 v2 H2 (f.trans (f1.trans f2)) r2 q2
theorem sx_whx {t b : M} (ht : Snd C t) (hb : Snd C b) (xt : SndX C t) (xb : SndX C b) : SndX C (.whx t b) := by
  refine .of (fun hx X c W x g xg h => ?_) (fun _ X c W x g xg h => absurd h Bool.false_ne_true)
  have hxb : xM b = true := hx
  cases x <;> try (exact absurd h Bool.false_ne_true)
  rename_i tst body els pos
  cases els <;> try (exact absurd h Bool.false_ne_true)
  simp only [cS_20, Bool.and_eq_true] at h
  refine PS.imp (ps_while g.xe (PT.or (ht.t X c _ g h.1.1) (xt.t X c W _ g xg h.2 h.1.1)) (PSs.or (hb.b X c _ g h.1.2) (xb.b hxb X c W _ g xg h.1.2))) fun D σ0 H0 hq_ => ?_
  obtain ⟨ρ0, S, τ, cl, τx, S', r0, re, e, fin⟩ := hq_
  simp only [revS_20] at e
  refine ⟨fun m σ H => ∃ ρ S τ, Fut X.K ρ0 H0 ρ H ∧ RelS X.K ρ S H ∧ RelE X.K ρ H τ σ ∧ whlL (fun τ S => (evT C t τ S).at τ) (evB C b) m τ S = .err cl τx S', ⟨C.W, ρ0, S, τ, Fut.refl, r0, re, e⟩, ?_⟩
  rintro m σ H ⟨ρ, S, τ, f, rs, re, e⟩
  cases m with
  | zero => simp only [whlL] at e; cases e
  | succ m =>
    simp only [whlL] at e
    rcases Res.bind_eq_err e with e1 | ⟨k, S1, e1, e⟩
    · obtain ⟨rfl, τ0, e1⟩ := Res.at_eq_err e1
      exact .inr ⟨ρ, S, τx, cl, τ0, S', rs, re, e1, fun ρ' H' Cv fu r hc => fin ρ' σ H' Cv (f.trans fu) r (re.fut fu) hc⟩
    · refine .inl ⟨ρ, S, τ, k, S1, rs, re, Res.at_eq_ok e1, fun ρ1 H1 f1 r1 => ?_⟩
      cases k with
      | false =>
        rw [if_neg Bool.false_ne_true] at e
        cases e
      | true =>
        rw [if_pos rfl] at e
        refine iteT ?_
        rcases Res.bind_eq_err e with e2 | ⟨fl1, S2, e2, e⟩
        · exact ⟨fun _ _ => False, fun _ _ z => z.elim, .inr ⟨ρ1, S1, τ, cl, τx, S', r1, re.fut f1, e2, fun ρ2 σ2 H2 Cv f2 r2 q2 hc => fin ρ2 σ2 H2 Cv (f.trans (f1.trans f2)) r2 q2 hc⟩⟩
        · refine ⟨fun σ' H' => ∃ ρ' S'' τ', Fut X.K ρ0 H0 ρ' H' ∧ RelS X.K ρ' S'' H' ∧ RelE X.K ρ' H' τ' σ' ∧ whlL (fun τ S => (evT C t τ S).at τ) (evB C b) m τ' S'' = .err cl τx S', fun σ' H' z => ⟨m, Nat.lt_succ_self m, z⟩, .inl ⟨ρ1, S1, τ, fl1, S2, r1, re.fut f1, e2, ?_⟩⟩
          cases fl1 with
          | nx τ1 => exact fun ρ2 σ2 H2 f2 r2 q2 => ⟨ρ2, S2, τ1, f.trans (f1.trans f2), r2, q2, e⟩
          | ct τ1 => exact fun ρ2 σ2 H2 f2 r2 q2 => ⟨ρ2, S2, τ1, f.trans (f1.trans f2), r2, q2, e⟩
          | bk τ1 => simp only at e; cases e
          | rt d => simp only at e; cases e
section
variable {X : Cx} {pins : List (Addr × PySem.Obj)} {ea : Addr} {oe : PySem.Obj} {Ca : Addr}
theorem isi_exc (hoe : oe.cls = .ref Ca) (x : ExcCl X.K Ca) (hcl : (PySem.W.clsIn X.K Ca).isSome = true) {c : Value} {v : V} {b : Bool} (rv : ∀ u, RelV v u → u = c) (hk : PySem.W.kitOne X.K (.ref Ca) c = some b) : CallR (X.hand pins ea oe) (.builtin "isinstance") (fun xs H Q => xs = [.ref ea, v] ∧ Q (.bl b) H) := by
  intro pins' s σ H xs us Q I r hq_
  obtain ⟨rfl, q⟩ := hq_
  obtain ⟨u, w, rfl, ru, rw'⟩ := vals2 r
  cases (show u = .ref ea from ru)
  cases rv w rw'
  have hp := (I.pin (ea, oe) (by simp)).1
  exact kia_excB x hcl I.kIn ⟨oe, hp, hoe⟩ hk fun tk => ⟨.bl b, H, I.tok _, rfl, q⟩
theorem Gd.hand_glo {C : Pr} {c : Ck} (g : Gd X C c) {x : Str} (h : c.gl x = true) : Gl (X.hand pins ea oe) x := g.glo h
theorem boot_VE : bootBuiltins (Str.ofString "ValueError") = some (.type "ValueError") := by kernel_rfl
theorem pa_hand {C : Pr} {c : Ck} {n : Nat} (g : Gd X C c) (hoe : oe.cls = .ref Ca) (x : ExcCl X.K Ca) (hcl : (PySem.W.clsIn X.K Ca).isSome = true) : ∀ (ts : List String) (bs : List Bool) (es : List Expr), bs.length = ts.length → chkIs c n ts es = true → (∀ t b, (t, b) ∈ ts.zip bs → IsC X.K X.mg Ca t b) →
    PA (X.hand pins ea oe) es (fun σ H Q => σ[n]? = some (some (.ref ea)) ∧ Q (bs.map V.bl) H)
  | [], [], [], _, _, _ => fun pos pins' s σ H Q I q => pa_nil pos pins' s σ H Q I q.2
  | [], _ :: _, _, h, _, _ => by cases h
  | _ :: _, [], _, h, _, _ => by cases h
  | [], [], e :: es, _, h, _ => absurd h Bool.false_ne_true
  | t :: ts, b :: bs, [], _, h, _ => absurd h Bool.false_ne_true
  | t :: ts, b :: bs, e :: es, hl, h, ht => by
    cases e <;> try (exact absurd h Bool.false_ne_true)
    rename_i fn as kws pos
    cases fn <;> try (exact absurd h Bool.false_ne_true)
    rcases as with _ | ⟨a0, _ | ⟨a1, _ | ⟨a2, as⟩⟩⟩ <;> try (exact absurd h Bool.false_ne_true)
    all_goals (cases a0 <;> try (exact absurd h Bool.false_ne_true))
    all_goals (cases a1 <;> try (exact absurd h Bool.false_ne_true))
    cases kws <;> try (exact absurd h Bool.false_ne_true)
    simp only [chkIs, Bool.and_eq_true, beq_iff_eq] at h
    obtain ⟨⟨⟨⟨⟨⟨⟨⟨⟨rfl, h1⟩, h2⟩, h3⟩, h4⟩, h5⟩, rfl⟩, h6⟩, h7⟩, h8⟩ := h
    rename_i q1 y q2 q3
    have ih := pa_hand g hoe x hcl ts bs es (by simpa using hl) h8 fun t b z => ht t b (List.mem_cons_of_mem _ z)
    have pv : ∀ p, PE (X.hand pins ea oe) (.Name y p) (L2.tVar n) := fun p => pe_var (X := X.hand pins ea oe) (by show X.N[n]? = _; rw [g.N]; exact h3) (g.vis h4) (dbg1 h5) (dbg2 h5)
    have pc : ∀ (v : V) (c : Value), (∀ u, RelV v u → u = c) → PySem.W.kitOne X.K (.ref Ca) c = some b → (∀ p, PE (X.hand pins ea oe) (.Name (Str.ofString t) p) (L2.tC v)) → ∀ p1 p2 p3 pos, PE (X.hand pins ea oe) (.Call (.Name (Str.ofString "isinstance") p1) [.Name y p2, .Name (Str.ofString t) p3] [] pos) (fun σ H Q => σ[n]? = some (some (.ref ea)) ∧ Q (.bl b) H) := fun v c rv hk pn p1 p2 p3 pos =>
      PE.imp (pe_callB (isi_exc hoe x hcl rv hk) (g.hand_glo h1) (g.top.blt _ (mem_contains h2)) (by kernel_rfl) (pa_cons (pv p2) (pa_cons (pn p3) pa_nil)) (by decide +kernel) (by decide +kernel)) fun σ H Q q => ⟨_, q.1, rfl, q.2⟩
    have one : ∀ p1 p2 p3 pos, PE (X.hand pins ea oe) (.Call (.Name (Str.ofString "isinstance") p1) [.Name y p2, .Name (Str.ofString t) p3] [] pos) (fun σ H Q => σ[n]? = some (some (.ref ea)) ∧ Q (.bl b) H) := by
      rcases ht t b List.mem_cons_self with ⟨Ct, m1, k1⟩ | ⟨rfl, m1, k1⟩
      · exact pc (.ref Ct) (.ref Ct) (fun u z => z) k1 fun p => pe_glob (X := X.hand pins ea oe) (g.hand_glo h6) m1 rfl (dbg1 h7)
      · exact pc (.ty "ValueError") (.type "ValueError") (fun u z => z) k1 fun p => pe_bltn (X := X.hand pins ea oe) (g.hand_glo h6) m1 boot_VE rfl (by decide +kernel) (dbg1 h7)
    exact PA.imp (pa_cons (one _ _ _ _) ih) fun σ H Q q => ⟨q.1, q.1, q.2⟩
theorem RelDs.bools {K : PySem.W.Frag} {ρ : List Addr} {H : Hp} : ∀ bs : List Bool, RelDs K ρ H (bs.map D.bl) (bs.map V.bl)
  | [] => RelDs.nil
  | b :: bs => RelDs.cons (RelD.bl b) (RelDs.bools bs)
theorem tab_mem : ∀ {l : List (String × List Bool)} {a : String} {b : List Bool}, l.lookup a = some b → (a, b) ∈ l
  | [], a, b, h => by cases h
  | (x, y) :: l, a, b, h => by
    rw [List.lookup_cons] at h
    split at h
    · rename_i e
      cases h
      rw [beq_iff_eq.mp e]
      exact List.mem_cons_self
    · exact List.mem_cons_of_mem _ (tab_mem h)
theorem RelE.caught {K : PySem.W.Frag} {ρ : List Addr} {H : Hp} {τ : En} {σ : L2.St} {n j : Nat} {d : D} {v w : V} (r : RelE K ρ H τ σ) (q : RelD K ρ H d v) (hnj : n ≠ j) : RelE K ρ H ((τ.set n none).set j (some d)) (((σ.set n (some w)).set j (some v)).set n none) := by
  have hl := r.len
  refine ⟨by simpa using hl, fun i e h => ?_⟩
  by_cases hi : i = j
  · subst hi
    rw [List.getElem?_set] at h
    rw [List.getElem?_set_ne hnj, List.getElem?_set]
    simp only [if_true, List.length_set] at h ⊢
    split at h
    · rename_i hlt
      have h : d = e := by simpa using h
      subst h
      rw [if_pos (by rw [← hl]; exact hlt)]
      exact ⟨v, rfl, q⟩
    · cases h
  · rw [List.getElem?_set_ne (Ne.symm hi)] at h
    by_cases hn : i = n
    · subst hn
      rw [List.getElem?_set] at h
      simp only [if_true] at h
      split at h <;> cases h
    · rw [List.getElem?_set_ne (Ne.symm hn)] at h
      rw [List.getElem?_set_ne (Ne.symm hn), List.getElem?_set_ne (Ne.symm hi), List.getElem?_set_ne (Ne.symm hn)]
      exact r.at' i e h
theorem snd_tri {C : Pr} {b : M} {cl : String} {n j : Nat} {ts : List String} {tab : List (String × List Bool)} (hb : Snd C b) (hbx : SndX C b) : ∀ (X : Cx) (c : Ck) (x : Stmt), Gd X C c → chkS (.tri b cl n j ts tab) c x = true → PS X x (tS X.K C (.tri b cl n j ts tab)) := by
  intro X c x g h
  rw [cS_16] at h
  split at h <;> try (exact absurd h Bool.false_ne_true)
  rename_i q hq
  obtain rfl := trX_eq hq
  obtain ⟨body, y, yp, nm, v, vp, es, lp, sp, hp, pos⟩ := q
  simp only [Bool.and_eq_true, beq_iff_eq] at h
  obtain ⟨⟨⟨⟨⟨⟨⟨⟨⟨⟨⟨hfn, hxm⟩, hbd⟩, rfl⟩, hgl⟩, hdb⟩, hn⟩, hloc⟩, hj⟩, hown⟩, his⟩, htab⟩ := h
  have bX := g.body hfn
  intro pins s σ H D I hq_
  obtain ⟨ρ, S, τ, fl, S', rs, re, e, fin⟩ := hq_
  simp only [revS_16] at e
  refine try_run ?_
  have gb : ∀ {LK : Value → Shared → Prop}, PassesOwn (model X.prog X.w) X.A X.env LK → Gd (X.pinned pins LK) C { c with rs := false } := fun po => ⟨g.N, g.nd, g.names, g.sk, g.fn, g.calm, po, fun _ => ⟨bX.stk, bX.fr, bX.ex⟩, g.top⟩
  cases eb : evB C b τ S with
  | bad => rw [eb] at e; cases e
  | ok fl1 S1 =>
    rw [eb] at e
    cases e
    exact (hb.b _ _ body (gb PassesOwn.looking) hbd) [] s σ H D I.pinX ⟨ρ, S, τ, fl, S', rs, re, eb, fin⟩
  | err cx τx S1 =>
    rw [eb] at e
    simp only [triD] at e
    split at e
    · rename_i bs hl
      split at e
      · rename_i hc
        cases e
        simp only [Bool.and_eq_true, decide_eq_true_eq, bne_iff_ne] at hc
        obtain ⟨⟨⟨hc1, hc2⟩, hc3⟩, hc4⟩ := hc
        have ht := (List.all_eq_true.mp htab) _ (tab_mem hl)
        simp only [Bool.and_eq_true, beq_iff_eq] at ht
        obtain ⟨Cc, Ca, hmC, hnC, hexm, hx1, hx2, hall⟩ := g.top.exs cl cx (ts.zip bs) (by simpa using ht.2)
        obtain ⟨o1, o2⟩ := g.own hown
        refine (hbx.b hxm _ _ (fun Cv σ' H' => ∃ ρ', Fut X.K ρ H ρ' H' ∧ RelS X.K ρ' S1 H' ∧ RelE X.K ρ' H' τx σ' ∧ ClsOf X.K cx Cv) body (gb PassesOwn.looking) ⟨fun pins' σ' H0 s0 s1 e E I0 cx1 hE => ?_, fun z => absurd z Bool.false_ne_true⟩ hbd) [] s σ H D I.pinX
          ⟨ρ, S, τ, cx, τx, S1, rs, re, eb, fun ρ' σ' H' Cv fu r1 r2 hc' => ⟨ρ', fu, r1, r2, hc'⟩⟩
        obtain ⟨ea, C', a0, B, H', rfl, hE', f⟩ := CX1.fly I0.unpinX cx1
        obtain ⟨ρ', fu, r1, r2, hc'⟩ := hE _ _ hE'
        unfold ClsOf at hc'
        rw [hnC] at hc'
        cases hc'
        refine f.catch (th := fun D σ H => σ[n]? = some (some (.ref ea)) ∧ ∀ l, H l = none → D.nx (σ.set j (some (.ref l))) (upd H l (.lst (bs.map V.bl)))) bX g.nd (by rw [g.N]; exact hn) (by rw [g.names]; exact hloc) (g.glo hgl) hmC (dbg1 hdb) hexm (fun oe hoe => ?_) ⟨?_, fun l hl' => ?_⟩
        · refine PS.imp (ps_asg (pe_lst (pa_hand g hoe hx1 hx2 ts bs es ht.1 his hall)) (pg_name (X := X.hand pins ea oe) g.nd (by show X.N[j]? = _; rw [g.N]; exact hj) o1 o2) rfl rfl rfl) fun D σ H q => ?_
          refine ⟨q.1, ?_, q.2⟩
          rw [List.length_map, ← line_eq]
          exact hc4
        · rw [List.getElem?_set_self (by rw [← r2.len]; exact hc1)]
        · refine fin (ρ' ++ [l]) _ _ (fu.trans (fut_new hl' [l])) ?_ ((r2.fut (fut_new hl' [l])).caught ?_ hc3)
          · exact r1.alloc hl' (RelDs.bools (K := X.K) (ρ := ρ') (H := H') bs)
          · simp only [RelD]
            exact ⟨l, rfl, by rw [← r1.len, List.getElem?_append_right (Nat.le_refl _), Nat.sub_self]; rfl⟩
      · cases e
    · cases e
end
end
end Mi

namespace Mi
open PySem L2
noncomputable def kd : M → Nat
  | .nul => 0 | .cns _ _ => 0
  | .enm _ => 2
  | .tvar _ => 3 | .ttup _ => 3 | .tsub _ _ => 3
  | .asg _ _ => 4 | .ifs _ _ _ => 4 | .forr _ _ _ => 4 | .whl _ _ => 4 | .ret _ => 4 | .exp _ => 4 | .rse => 4 | .sfd _ _ _ _ => 4 | .ifx _ _ _ => 4 | .rsx _ => 4 | .rtk _ => 4 | .asx _ _ _ => 4 | .tri _ _ _ _ _ _ => 4 | .exx _ => 4 | .asq _ _ => 4 | .rtx _ => 4 | .whx _ _ => 4 | .kls _ => 4
  | _ => 1
theorem kd_E {m : M} {c : Ck} {x : Expr} (h : chkE m c x = true) : kd m = 1 := by
  cases m <;> first | rfl | (exact absurd h Bool.false_ne_true)
theorem kd_A {m : M} {c : Ck} {x : List Expr} (h : chkA m c x = true) : kd m = 0 := by
  cases m <;> first | rfl | (exact absurd h Bool.false_ne_true)
theorem kd_O {m : M} {c : Ck} {x : Option Expr} (h : chkO m c x = true) : kd m = 0 := by
  cases m <;> first | rfl | (exact absurd h Bool.false_ne_true)
theorem kd_C {m : M} {c : Ck} {x : List Expr} (h : chkC m c x = true) : kd m = 0 := by
  cases m <;> first | rfl | (exact absurd h Bool.false_ne_true)
theorem kd_I {m : M} {c : Ck} {x : Expr} (h : chkI m c x = true) : kd m = 0 ∨ kd m = 2 := by
  cases m <;> first | exact .inl rfl | exact .inr rfl | (exact absurd h Bool.false_ne_true) | (cases x <;> exact absurd h Bool.false_ne_true)
theorem kd_G {m : M} {c : Ck} {x : Expr} (h : chkG m c x = true) : kd m = 3 := by
  cases m <;> first | rfl | (exact absurd h Bool.false_ne_true) | (cases x <;> exact absurd h Bool.false_ne_true)
theorem kd_Gs {m : M} {c : Ck} {x : List Expr} (h : chkGs m c x = true) : kd m = 0 := by
  cases m <;> first | rfl | (exact absurd h Bool.false_ne_true)
theorem kd_S {m : M} {c : Ck} {x : Stmt} (h : chkS m c x = true) : kd m = 4 := by
  cases m <;> first | rfl | (exact absurd h Bool.false_ne_true) | (cases x <;> exact absurd h Bool.false_ne_true)
theorem kd_B {m : M} {c : Ck} {x : List Stmt} (h : chkB m c x = true) : kd m = 0 := by
  cases m <;> first | rfl | (exact absurd h Bool.false_ne_true)
section
variable {C : Pr}
theorem Snd.ofE {m : M} (hk : kd m = 1) (he : ∀ (X : Cx) (c : Ck) (x : Expr), Gd X C c → chkE m c x = true → PE X x (tE X.K C m)) (ht : ∀ (X : Cx) (c : Ck) (x : Expr), Gd X C c → chkE m c x = true → PT X x (tT X.K C m)) : Snd C m where
  e := he
  t := ht
  a := fun X c x g h => absurd ((kd_A h).symm.trans hk) (by decide)
  bv := fun X c w x p g h => absurd ((kd_A h).symm.trans hk) (by decide)
  bt := fun X c w x p g h => absurd ((kd_A h).symm.trans hk) (by decide)
  o := fun X c x g h => absurd ((kd_O h).symm.trans hk) (by decide)
  cd := fun X c x g h => absurd ((kd_C h).symm.trans hk) (by decide)
  i := fun X c tg x g h _ => (kd_I h).elim (fun z => absurd (z.symm.trans hk) (by decide)) (fun z => absurd (z.symm.trans hk) (by decide))
  g := fun X c x g h => absurd ((kd_G h).symm.trans hk) (by decide)
  gs := fun X c x g h => absurd ((kd_Gs h).symm.trans hk) (by decide)
  s := fun X c x g h => absurd ((kd_S h).symm.trans hk) (by decide)
  b := fun X c x g h => absurd ((kd_B h).symm.trans hk) (by decide)
theorem Snd.ofI {m : M} (hk : kd m = 2) (hi : ∀ (X : Cx) (c : Ck) (tg x : Expr), Gd X C c → chkI m c x = true → itT m tg = true → PI X tg x (tI X.K C m) ∧ ∀ v, foldedSetIterable x X.env v = pure v) : Snd C m where
  e := fun X c x g h => absurd ((kd_E h).symm.trans hk) (by decide)
  t := fun X c x g h => absurd ((kd_E h).symm.trans hk) (by decide)
  a := fun X c x g h => absurd ((kd_A h).symm.trans hk) (by decide)
  bv := fun X c w x p g h => absurd ((kd_A h).symm.trans hk) (by decide)
  bt := fun X c w x p g h => absurd ((kd_A h).symm.trans hk) (by decide)
  o := fun X c x g h => absurd ((kd_O h).symm.trans hk) (by decide)
  cd := fun X c x g h => absurd ((kd_C h).symm.trans hk) (by decide)
  i := hi
  g := fun X c x g h => absurd ((kd_G h).symm.trans hk) (by decide)
  gs := fun X c x g h => absurd ((kd_Gs h).symm.trans hk) (by decide)
  s := fun X c x g h => absurd ((kd_S h).symm.trans hk) (by decide)
  b := fun X c x g h => absurd ((kd_B h).symm.trans hk) (by decide)
theorem Snd.ofG {m : M} (hk : kd m = 3) (hg : ∀ (X : Cx) (c : Ck) (x : Expr), Gd X C c → chkG m c x = true → PG X x (tG X.K C m)) : Snd C m where
  e := fun X c x g h => absurd ((kd_E h).symm.trans hk) (by decide)
  t := fun X c x g h => absurd ((kd_E h).symm.trans hk) (by decide)
  a := fun X c x g h => absurd ((kd_A h).symm.trans hk) (by decide)
  bv := fun X c w x p g h => absurd ((kd_A h).symm.trans hk) (by decide)
  bt := fun X c w x p g h => absurd ((kd_A h).symm.trans hk) (by decide)
  o := fun X c x g h => absurd ((kd_O h).symm.trans hk) (by decide)
  cd := fun X c x g h => absurd ((kd_C h).symm.trans hk) (by decide)
  i := fun X c tg x g h _ => (kd_I h).elim (fun z => absurd (z.symm.trans hk) (by decide)) (fun z => absurd (z.symm.trans hk) (by decide))
  g := hg
  gs := fun X c x g h => absurd ((kd_Gs h).symm.trans hk) (by decide)
  s := fun X c x g h => absurd ((kd_S h).symm.trans hk) (by decide)
  b := fun X c x g h => absurd ((kd_B h).symm.trans hk) (by decide)
theorem Snd.ofS {m : M} (hk : kd m = 4) (hs : ∀ (X : Cx) (c : Ck) (x : Stmt), Gd X C c → chkS m c x = true → PS X x (tS X.K C m)) : Snd C m where
  e := fun X c x g h => absurd ((kd_E h).symm.trans hk) (by decide)
  t := fun X c x g h => absurd ((kd_E h).symm.trans hk) (by decide)
  a := fun X c x g h => absurd ((kd_A h).symm.trans hk) (by decide)
  bv := fun X c w x p g h => absurd ((kd_A h).symm.trans hk) (by decide)
  bt := fun X c w x p g h => absurd ((kd_A h).symm.trans hk) (by decide)
  o := fun X c x g h => absurd ((kd_O h).symm.trans hk) (by decide)
  cd := fun X c x g h => absurd ((kd_C h).symm.trans hk) (by decide)
  i := fun X c tg x g h _ => (kd_I h).elim (fun z => absurd (z.symm.trans hk) (by decide)) (fun z => absurd (z.symm.trans hk) (by decide))
  g := fun X c x g h => absurd ((kd_G h).symm.trans hk) (by decide)
  gs := fun X c x g h => absurd ((kd_Gs h).symm.trans hk) (by decide)
  s := hs
  b := fun X c x g h => absurd ((kd_B h).symm.trans hk) (by decide)
theorem snd_nul : Snd C .nul where
  e := fun X c x g h => absurd (kd_E h) (by decide)
  t := fun X c x g h => absurd (kd_E h) (by decide)
  a := fun X c x g h => by
    cases x with
    | cons e es => exact absurd h Bool.false_ne_true
    | nil =>
      refine PA.imp pa_nil fun σ H Q hq_ => ?_
      obtain ⟨ρ, S, τ, ds, S', rs, re, e, fin⟩ := hq_
      simp only [revA_0] at e
      cases e
      exact fin ρ [] H Fut.refl rs RelDs.nil
  bv := fun X c w x p g h => pe_no fun σ H Q ⟨ρ, S, τ, ds, S', rs, re, e, fin⟩ => absurd e bad_ne
  bt := fun X c w x p g h => fun wh pins s σ H Q I ⟨ρ, S, τ, ds, S', rs, re, e, fin⟩ => absurd e bad_ne
  o := fun X c x g h => by
    cases x with
    | some e => exact absurd h Bool.false_ne_true
    | none =>
      refine PO.imp po_none fun σ H Q hq_ => ?_
      obtain ⟨ρ, S, τ, ds, S', rs, re, e, fin⟩ := hq_
      simp only [revO_0] at e
      cases e
      exact fin ρ H Fut.refl rs
  cd := fun X c x g h => by
    cases x with
    | cons e es => exact absurd h Bool.false_ne_true
    | nil =>
      refine PTs.imp pts_nil fun σ H Q hq_ => ?_
      obtain ⟨ρ, S, τ, ds, S', rs, re, e, fin⟩ := hq_
      simp only [revC_0] at e
      cases e
      exact fin ρ H Fut.refl rs
  i := fun X c tg x g h _ => by cases h
  g := fun X c x g h => absurd (kd_G h) (by decide)
  gs := snd_gs_nul
  s := fun X c x g h => absurd (kd_S h) (by decide)
  b := snd_b_nul
theorem snd_cns {a b : M} (ha : Snd C a) (hb : Snd C b) : Snd C (.cns a b) where
  e := fun X c x g h => absurd (show 0 = 1 from kd_E h) (by decide)
  t := fun X c x g h => absurd (show 0 = 1 from kd_E h) (by decide)
  a := fun X c x g h => by
    cases x with
    | nil => exact absurd h Bool.false_ne_true
    | cons e es =>
      simp only [cA_1, Bool.and_eq_true] at h
      refine PA.imp (pa_cons (ha.e X c e g h.1) (hb.a X c es g h.2) (star_cons (noStar h.1))) fun σ H Q hq_ => ?_
      obtain ⟨ρ, S, τ, ds, S', rs, re, e, fin⟩ := hq_
      simp only [revA_1] at e
      obtain ⟨x1, S1, e1, e⟩ := Res.bind_eq_ok e
      obtain ⟨xs, S2, e2, e⟩ := Res.bind_eq_ok e
      cases e
      refine ⟨ρ, S, τ, x1, S1, rs, re, e1, fun ρ1 v1 H1 f1 r1 q1 => ⟨ρ1, S1, τ, xs, S', r1, re.fut f1, e2, fun ρ2 vs H2 f2 r2 q2 => ?_⟩⟩
      exact fin ρ2 _ H2 (f1.trans f2) r2 (RelDs.cons (q1.fut f2) q2)
  bv := snd_bv ha hb
  bt := snd_bt ha hb
  o := fun X c x g h => by
    cases x with
    | none => cases b <;> exact absurd h Bool.false_ne_true
    | some e =>
      cases b <;> try (exact absurd h Bool.false_ne_true)
      refine PO.imp (po_some (ha.e X c e g h)) fun σ H Q hq_ => ?_
      obtain ⟨ρ, S, τ, o, S', rs, re, e, fin⟩ := hq_
      simp only [revO_1] at e
      obtain ⟨x1, S1, e1, e⟩ := Res.bind_eq_ok e
      refine ⟨ρ, S, τ, x1, S1, rs, re, e1, fun ρ1 v1 H1 f1 r1 q1 => ?_⟩
      cases x1 <;> simp only at e <;> try (cases e; done)
      cases e
      exact ⟨_, q1.int_inv, fin ρ1 H1 f1 r1⟩
  cd := fun X c x g h => by
    rcases x with _ | ⟨e, _ | ⟨e2, es⟩⟩ <;> cases b <;> try (exact absurd h Bool.false_ne_true)
    refine PTs.imp (pts_one (ha.t X c e g h)) fun σ H Q hq_ => ?_
    obtain ⟨ρ, S, τ, o, S', rs, re, e, fin⟩ := hq_
    simp only [revC_1] at e
    exact ⟨ρ, S, τ, o, S', rs, re, e, fin⟩
  i := fun X c tg x g h _ => by
    cases b <;> (try (exact absurd h Bool.false_ne_true)) <;> try simp only [cI_2] at h
    exact ⟨snd_i_seq ha X c tg x g h, foldset (noSet h)⟩
  g := fun X c x g h => absurd (show 0 = 3 from kd_G h) (by decide)
  gs := snd_gs_cns ha hb
  s := fun X c x g h => absurd (show 0 = 4 from kd_S h) (by decide)
  b := snd_b_cns ha hb
theorem snd (C : Pr) : ∀ m : M, Snd C m ∧ (∀ N k keep tg it cd el, m = .comp N k keep tg it cd el → Snd C tg ∧ Snd C it ∧ Snd C cd ∧ Snd C el) ∧ SndX C m := by
  intro m
  have noT : ∀ {m : M}, (∀ τ S, evT C m τ S = .bad) → ∀ (X : Cx) (c : Ck) (x : Expr), Gd X C c → chkE m c x = true → PT X x (tT X.K C m) := fun h X c x _ _ => pt_no (tT_no h)
  induction m with
  | nul => exact ⟨snd_nul, ⟨fun _ _ _ _ _ _ _ h => (by cases h), sx_nul⟩⟩
  | cns a b ha hb => exact ⟨snd_cns ha.1 hb.1, ⟨fun _ _ _ _ _ _ _ h => (by cases h), sx_cns ha.1 hb.1 ha.2.2 hb.2.2⟩⟩
  | cst d => exact ⟨.ofE rfl snd_cst (noT fun τ S => rfl), ⟨fun _ _ _ _ _ _ _ h => (by cases h), sx_cst⟩⟩
  | var i => exact ⟨.ofE rfl (fun X c x g h => (snd_var X c x g h).1) fun X c x g h => (snd_var X c x g h).2, ⟨fun _ _ _ _ _ _ _ h => (by cases h), sx_var⟩⟩
  | glb x => exact ⟨.ofE rfl snd_glb (noT fun τ S => rfl), ⟨fun _ _ _ _ _ _ _ h => (by cases h), sx_glb⟩⟩
  | bin o a b ha hb => exact ⟨.ofE rfl (snd_bin ha.1 hb.1) (noT fun τ S => rfl), ⟨fun _ _ _ _ _ _ _ h => (by cases h), .no rfl⟩⟩
  | neg a ha => exact ⟨.ofE rfl (snd_neg ha.1) (noT fun τ S => rfl), ⟨fun _ _ _ _ _ _ _ h => (by cases h), .no rfl⟩⟩
  | nott a ha => exact ⟨.ofE rfl (fun X c x g h => (snd_not ha.1 X c x g h).1) fun X c x g h => (snd_not ha.1 X c x g h).2, ⟨fun _ _ _ _ _ _ _ h => (by cases h), .no rfl⟩⟩
  | bo w as ha => exact ⟨.ofE rfl (fun X c x g h => (snd_bo ha.1 X c x g h).1) fun X c x g h => (snd_bo ha.1 X c x g h).2, ⟨fun _ _ _ _ _ _ _ h => (by cases h), .no rfl⟩⟩
  | cmp o a b ha hb => exact ⟨.ofE rfl (fun X c x g h => (snd_cmp ha.1 hb.1 X c x g h).1) fun X c x g h => (snd_cmp ha.1 hb.1 X c x g h).2, ⟨fun _ _ _ _ _ _ _ h => (by cases h), sx_cmp ha.1 hb.1 ha.2.2 hb.2.2⟩⟩
  | tup as ha => exact ⟨.ofE rfl (snd_tup ha.1) (noT fun τ S => rfl), ⟨fun _ _ _ _ _ _ _ h => (by cases h), .no rfl⟩⟩
  | lst as ha => exact ⟨.ofE rfl (snd_lst ha.1) (noT fun τ S => rfl), ⟨fun _ _ _ _ _ _ _ h => (by cases h), .no rfl⟩⟩
  | idx a b ha hb => exact ⟨.ofE rfl (fun X c x g h => (snd_idx ha.1 hb.1 X c x g h).1) fun X c x g h => (snd_idx ha.1 hb.1 X c x g h).2, ⟨fun _ _ _ _ _ _ _ h => (by cases h), sx_idx ha.1 hb.1 ha.2.2⟩⟩
  | sli a l u ha hl hu => exact ⟨.ofE rfl (snd_sli ha.1 hl.1 hu.1) (noT fun τ S => rfl), ⟨fun _ _ _ _ _ _ _ h => (by cases h), .no rfl⟩⟩
  | call f as ha => exact ⟨.ofE rfl (fun X c x g h => (snd_call ha.1 X c x g h).1) fun X c x g h => (snd_call ha.1 X c x g h).2, ⟨fun _ _ _ _ _ _ _ h => (by cases h), .no rfl⟩⟩
  | prim p as ha => exact ⟨.ofE rfl (fun X c x g h => (snd_prim ha.1 X c x g h).1) fun X c x g h => (snd_prim ha.1 X c x g h).2, ⟨fun _ _ _ _ _ _ _ h => (by cases h), .no rfl⟩⟩
  | isi a t ha => exact ⟨.ofE rfl (fun X c x g h => (snd_isi ha.1 X c x g h).1) fun X c x g h => (snd_isi ha.1 X c x g h).2, ⟨fun _ _ _ _ _ _ _ h => (by cases h), .no rfl⟩⟩
  | meth p o as ho ha => exact ⟨.ofE rfl (snd_meth ho.1 ha.1) (noT fun τ S => rfl), ⟨fun _ _ _ _ _ _ _ h => (by cases h), .no rfl⟩⟩
  | comp N k keep tg it cd el hg hi hc he => exact ⟨.ofE rfl (snd_comp hg.1 hi.1 hc.1 he.1) (noT fun τ S => rfl), ⟨fun _ _ _ _ _ _ _ h => (by cases h; exact ⟨hg.1, hi.1, hc.1, he.1⟩), .no rfl⟩⟩
  | revl a ha => exact ⟨.ofE rfl (snd_revl ha.1) (noT fun τ S => rfl), ⟨fun _ _ _ _ _ _ _ h => (by cases h), sx_revl ha.2.2⟩⟩
  | enm a ha => exact ⟨.ofI rfl fun X c tg x g h ht => ⟨snd_i_enm ha.1 X c tg x g h ht, foldset fun a b p z => by subst z; cases h⟩, ⟨fun _ _ _ _ _ _ _ h => (by cases h), .no rfl⟩⟩
  | dnil => exact ⟨.ofE rfl snd_dnil (noT fun τ S => rfl), ⟨fun _ _ _ _ _ _ _ h => (by cases h), .no rfl⟩⟩
  | dlit k v hk hv => exact ⟨.ofE rfl (snd_dlit hk.1 hv.1) (noT fun τ S => rfl), ⟨fun _ _ _ _ _ _ _ h => (by cases h), .no rfl⟩⟩
  | fld c f a ha => exact ⟨.ofE rfl (snd_fld ha.1) (noT fun τ S => rfl), ⟨fun _ _ _ _ _ _ _ h => (by cases h), sx_fld⟩⟩
  | mcl c m f o as ho ha => exact ⟨.ofE rfl (fun X c x g h => (snd_mcl ho.1 ha.1 X c x g h).1) fun X c x g h => (snd_mcl ho.1 ha.1 X c x g h).2, ⟨fun _ _ _ _ _ _ _ h => (by cases h), sx_mcl ho.1 ha.1⟩⟩
  | new c f => exact ⟨.ofE rfl snd_new (noT fun τ S => rfl), ⟨fun _ _ _ _ _ _ _ h => (by cases h), .no rfl⟩⟩
  | mink c m f o a b ho ha hb => exact ⟨.ofE rfl (snd_mink ho.1 ha.1 hb.1) (noT fun τ S => rfl), ⟨fun _ _ _ _ _ _ _ h => (by cases h), .no rfl⟩⟩
  | rse => exact ⟨.ofS rfl snd_rse, ⟨fun _ _ _ _ _ _ _ h => (by cases h), .no rfl⟩⟩
  | sfd c f o v ho hv => exact ⟨.ofS rfl (snd_sfd ho.1 hv.1), ⟨fun _ _ _ _ _ _ _ h => (by cases h), .no rfl⟩⟩
  | tvar i => exact ⟨.ofG rfl snd_g_var, ⟨fun _ _ _ _ _ _ _ h => (by cases h), .no rfl⟩⟩
  | ttup ts ha => exact ⟨.ofG rfl (snd_g_tup ha.1), ⟨fun _ _ _ _ _ _ _ h => (by cases h), .no rfl⟩⟩
  | tsub a b ha hb => exact ⟨.ofG rfl (snd_g_sub ha.1 hb.1), ⟨fun _ _ _ _ _ _ _ h => (by cases h), .no rfl⟩⟩
  | asg t e ht he => exact ⟨.ofS rfl (snd_asg ht.1 he.1 he.2.1), ⟨fun _ _ _ _ _ _ _ h => (by cases h), .no rfl⟩⟩
  | ifs t a b ht ha hb => exact ⟨.ofS rfl (snd_ifs ht.1 ha.1 hb.1), ⟨fun _ _ _ _ _ _ _ h => (by cases h), .no rfl⟩⟩
  | forr t i b ht hi hb => exact ⟨.ofS rfl (snd_for ht.1 hi.1 hb.1), ⟨fun _ _ _ _ _ _ _ h => (by cases h), .no rfl⟩⟩
  | whl t b ht hb => exact ⟨.ofS rfl (snd_whl ht.1 hb.1), ⟨fun _ _ _ _ _ _ _ h => (by cases h), .no rfl⟩⟩
  | ret a ha => exact ⟨.ofS rfl (snd_ret ha.1), ⟨fun _ _ _ _ _ _ _ h => (by cases h), .no rfl⟩⟩
  | exp a ha => exact ⟨.ofS rfl (snd_exp ha.1), ⟨fun _ _ _ _ _ _ _ h => (by cases h), .no rfl⟩⟩
  | ifx t a b ht ha hb => exact ⟨.ofS rfl (snd_ifx ht.1 ha.1 hb.1), fun _ _ _ _ _ _ _ h => (by cases h), sx_ifx ht.1 ha.2.2 hb.2.2⟩
  | rsx cl => exact ⟨.ofS rfl snd_rsx, fun _ _ _ _ _ _ _ h => (by cases h), sx_rsx⟩
  | rtk a ha => exact ⟨.ofS rfl (snd_rtk ha.1), fun _ _ _ _ _ _ _ h => (by cases h), sx_rtk⟩
  | asx i f a ha => exact ⟨.ofS rfl (snd_asx ha.1), fun _ _ _ _ _ _ _ h => (by cases h), sx_asx ha.1⟩
  | kls a ha => exact ⟨.ofS rfl (snd_kls ha.1), fun _ _ _ _ _ _ _ h => (by cases h), sx_kls⟩
  | exx a ha => exact ⟨.ofS rfl (snd_exx ha.1), fun _ _ _ _ _ _ _ h => (by cases h), sx_exx ha.2.2⟩
  | asq i a ha => exact ⟨.ofS rfl (snd_asq ha.1), fun _ _ _ _ _ _ _ h => (by cases h), sx_asq ha.2.2⟩
  | rtx a ha => exact ⟨.ofS rfl (snd_rtx ha.1), fun _ _ _ _ _ _ _ h => (by cases h), sx_rtx ha.2.2⟩
  | whx t b ht hb => exact ⟨.ofS rfl (snd_whx ht.1 hb.1), fun _ _ _ _ _ _ _ h => (by cases h), sx_whx ht.1 hb.1 ht.2.2 hb.2.2⟩
  | tri b x n j ts tab hb => exact ⟨.ofS rfl (snd_tri hb.1 hb.2.2), fun _ _ _ _ _ _ _ h => (by cases h), .no rfl⟩
end
end Mi

namespace Mi
open PySem L2
noncomputable def Cn (T : Tb) (G : String → Option D) (W n : Nat) : Pr := ⟨callN T G W n, G, W⟩
structure FnB (K : PySem.W.Frag) (T : Tb) (B F : List String) (O : Ow) (f : String) (a : Addr) (fd : FuncData) : Prop where
  ex : ∃ (FN : Fn) (st : Stmt) (nm ql : Str), T f = some FN ∧ Fun K nm ql st a fd ∧ FnScope (FN.N.map Str.ofString) (FN.ps.map Str.ofString) (defScope st) ∧
    chkB FN.body ⟨FN.N.map Str.ofString, (defScope st).names, true, B, F, O, true⟩ (defBody st) = true ∧ ∀ us : List Value, us.length = (FN.ps.map Str.ofString).length → bindArgs fd ⟨us, []⟩ = pure ((FN.ps.map Str.ofString).zip us)
structure Txt (K : PySem.W.Frag) (mg : Str → Option Value) (T : Tb) (G : String → Option D) (B F : List String) (O : Ow) : Prop where
  fns : ∀ f ∈ F, ∃ a fd, FnB K T B F O f a fd ∧ mg (Str.ofString f) = some (.ref a)
  blt : ∀ x ∈ B, mg (Str.ofString x) = none
  gl : ∀ x d, G x = some d → ∃ v u, mg (Str.ofString x) = some u ∧ RelV v u ∧ (∀ ρ H, RelD K ρ H d v) ∧ ∀ ds, d = .tup ds → ∃ a o, v = .ref a ∧ K.lookup a = some o ∧ o.cls = .type "tuple" ∧ o.dict = none
  mts : ∀ c m f, (c, m, f) ∈ O.mt → ∃ a fd Ca, FnB K T B F O f a fd ∧ PySem.W.nsIn K mainGlobals (Str.ofString c) = some (some (.ref Ca)) ∧ L2.Cls K Ca ∧ L2.Meth K Ca (Str.ofString m) a ∧ L2.MethB K (Str.ofString m) a
  fds : ∀ c f, (c, f) ∈ O.fd → ∃ Ca, PySem.W.nsIn K mainGlobals (Str.ofString c) = some (some (.ref Ca)) ∧ L2.Cls K Ca ∧ L2.NoAttr K Ca (Str.ofString f)
  nws : ∀ c f, (c, f) ∈ O.nw → ∃ a fd Ca, FnB K T B F O f a fd ∧ PySem.W.nsIn K mainGlobals (Str.ofString c) = some (some (.ref Ca)) ∧ mg (Str.ofString c) = some (.ref Ca) ∧ L2.Mk K Ca a
  rss : ∀ c ∈ O.rs, ∃ Ca, PySem.W.nsIn K mainGlobals (Str.ofString c) = some (some (.ref Ca)) ∧ mg (Str.ofString c) = some (.ref Ca) ∧ PySem.W.excIn K Ca bmVal "ValueError.__new__" = true
  exs : ∀ x c ts, (x, c, ts) ∈ O.ex → ∃ Cx Ca, mg (Str.ofString x) = some Cx ∧ PySem.W.nsIn K mainGlobals (Str.ofString c) = some (some (.ref Ca)) ∧ PySem.W.exmOne K (.ref Ca) Cx = some true ∧ L2.ExcCl K Ca ∧ (PySem.W.clsIn K Ca).isSome = true ∧ ∀ t b, (t, b) ∈ ts → IsC K mg Ca t b
  rzs : ∀ f ∈ O.rz, ∃ FN, T f = some FN ∧ xM FN.body = true
section
variable {P : Program} {w : World} {K : PySem.W.Frag} {mg : Str → Option Value} {base : Heap} {T : Tb} {G : String → Option D} {B F : List String} {O : Ow}
theorem RelE.start {ρ : List Addr} {H : Hp} {ds : List D} {vs : List V} {N : List Str} {k : Nat} (r : RelDs K ρ H ds vs) (hk : k = N.length - ds.length) : RelE K ρ H (ds.map some ++ List.replicate k none) (L2.start N vs) := by
  unfold L2.start
  rw [← r.length, ← hk]
  refine ⟨by simp [r.length], fun i d h => ?_⟩
  by_cases hi : i < ds.length
  · rw [List.getElem?_append_left (by simpa using hi), List.getElem?_map] at h
    rw [List.getElem?_append_left (by rw [List.length_map, ← r.length]; exact hi), List.getElem?_map]
    cases e : ds[i]? with
    | none => rw [e] at h; cases h
    | some d' =>
      rw [e] at h
      have h : d' = d := by simpa using h
      subst h
      obtain ⟨v, hv, q⟩ := r.get e
      exact ⟨v, by rw [hv]; rfl, q⟩
  · rw [List.getElem?_append_right (by simpa using hi), List.getElem?_replicate] at h
    split at h <;> cases h
theorem fn_ok (t : Txt K mg T G B F O) (W : Nat) : ∀ (n : Nat) (f : String) (a : Addr) (fd : FuncData), FnB K T B F O f a fd → ∀ FN, T f = some FN → FnOk P w K mg base (CX1 P w) (2 * n) a fd (FN.ps.map Str.ofString) (spX K (Cn T G W n) O.rz f) := by
  intro n
  induction n with
  | zero =>
    intro f a fd hf FN hT
    have no : ∀ {vs : List V} {H : Hp} {Q : VK} {E : XK}, ¬ spX K (Cn T G W 0) O.rz f vs H Q E := by
      rintro vs H Q E (⟨ρ, S, ds, d, S', _, _, e, _⟩ | ⟨_, ρ, S, ds, c, τ, S', _, _, e, _⟩) <;> (simp only [Cn, callN] at e; cases e)
    exact ⟨fun vs H Q E q => absurd q no, fun A outer s H args us vs Q E _ _ _ _ q => absurd q no⟩
  | succ n ih =>
    intro f a fd hf FN hT
    obtain ⟨FN', st, nm, ql, hT', FU, sc, ck, bd⟩ := hf.ex
    rw [hT] at hT'
    cases hT'
    show FnOk P w K mg base (CX1 P w) (2 * n + 1 + 1) a fd _ _
    refine FU.okX sc (fun vs H Q E q => ?_) (fun cdv A outer s H vs Q E hr q => ?_)
    · rcases q with ⟨ρ, S, ds, d, S', _, rd, e, _⟩ | ⟨_, ρ, S, ds, c, τ, S', _, rd, e, _⟩
      all_goals
        simp only [Cn, callN] at e
        rw [hT] at e
        simp only at e
        split at e
        · rename_i hl
          rw [← rd.length, hl, List.length_map]
        · cases e
    · have tp : Tp P w K mg base (A.deeper (PyProof.Rows.envOfC ql (defScope st) s.heap.objs.size a cdv)) (Cn T G W n) B F O := by
        refine ⟨fun g hg => ?_, t.blt, t.gl, Nat.lt_of_le_of_lt (Nat.le_refl _) hr.units, fun c m g hg => ?_, t.fds, fun c g hg => ?_, t.rss, t.exs⟩
        · obtain ⟨b, fd2, hb, hmg⟩ := t.fns g hg
          obtain ⟨FN2, st2, nm2, ql2, hT2, FU2, sc2, ck2, bd2⟩ := id hb.ex
          exact ⟨2 * n, b, fd2, _, hr.mono (Nat.le_succ _), hmg, ih g b fd2 hb FN2 hT2, .all bd2, FU2.kp⟩
        · obtain ⟨b, fd2, Ca, hb, h1, h2, h3, h4⟩ := t.mts c m g hg
          obtain ⟨FN2, st2, nm2, ql2, hT2, FU2, sc2, ck2, bd2⟩ := id hb.ex
          exact ⟨2 * n, b, fd2, _, Ca, hr, h1, h2, h3, h4, ih g b fd2 hb FN2 hT2, .all bd2⟩
        · obtain ⟨b, fd2, Ca, hb, h1, h2, h3⟩ := t.nws c g hg
          obtain ⟨FN2, st2, nm2, ql2, hT2, FU2, sc2, ck2, bd2⟩ := id hb.ex
          exact ⟨2 * n, b, fd2, _, Ca, hr, h1, h2, h3, ih g b fd2 hb FN2 hT2, .all bd2⟩
      have gd : Gd (cxOf (CX1 P w) P w K mg base (FN.N.map Str.ofString) ql (defScope st) a cdv A outer s H E) (Cn T G W n) ⟨FN.N.map Str.ofString, (defScope st).names, true, B, F, O, true⟩ := ⟨rfl, sc.nd, rfl, sc.kind, fun _ => rfl, rfl, PassesOwn.leaving, fun _ => ⟨rfl, rfl, rfl⟩, tp⟩
      rcases q with ⟨ρ, S, ds, d, S', rs, rd, e, fin⟩ | ⟨hz, ρ, S, ds, c, τ, S', rs, rd, e, fin⟩
      · refine ⟨_, ((snd (Cn T G W n) FN.body).1.b _ _ _ gd ck), ?_⟩
        simp only [Cn, callN] at e
        rw [hT] at e
        simp only at e
        split at e
        · rename_i hl
          obtain ⟨fl, S1, e1, e⟩ := Res.bind_eq_ok e
          refine ⟨ρ, S, _, fl, S1, rs, RelE.start rd (by rw [List.length_map]), e1, ?_⟩
          cases fl with
          | nx τ => simp only at e; cases e; exact fun ρ1 σ1 H1 f1 r1 q1 => fin ρ1 _ H1 f1 r1 RelD.non
          | rt d => simp only at e; cases e; exact fin
          | bk τ => simp only at e; cases e
          | ct τ => simp only at e; cases e
        · cases e
      · obtain ⟨FN', hT', hx⟩ := t.rzs f hz
        rw [hT] at hT'
        cases hT'
        have bX : Body (cxOf (CX1 P w) P w K mg base (FN.N.map Str.ofString) ql (defScope st) a cdv A outer s H E) := ⟨rfl, rfl, rfl⟩
        refine ⟨_, ((snd (Cn T G W n) FN.body).2.2.b hx _ _ (fun Cv _ H' => E Cv none H') _ gd ⟨fun pins σ H1 s1 s' e E' I cx hE => ?_, fun _ pins σ H1 s1 h1 ea Ca us I me w' => made_leave bX I me w'⟩ ck), ?_⟩
        · obtain ⟨ea, C', a0, B', H', rfl, hE', f'⟩ := CX1.fly I cx
          exact f'.leave bX (hE _ _ hE')
        · simp only [Cn, callN] at e
          rw [hT] at e
          simp only at e
          split at e
          · rename_i hl
            rcases Res.bind_eq_err e with e1 | ⟨fl, S1, e1, e⟩
            · exact ⟨ρ, S, _, c, τ, S', rs, RelE.start rd (by rw [List.length_map]), e1, fun ρ' σ' H' Cv fu r1 r2 hc => fin ρ' H' Cv fu r1 hc⟩
            · cases fl <;> (simp only at e; cases e)
          · cases e
theorem law_sp {T : Tb} {G : String → Option D} {W n : Nat} (h : ∀ ns : List Int, ns.length ≤ 63 → ∃ S', callN T G W n "law" [.kl (ns.map D.int)] [] = .ok (.bl true) S') (H : Hp) (a : Addr) (ns : List Int) (hl : ns.length ≤ 63) (hO : Only H) (hS : SqL K H a (ns.map V.int)) (E : XK) :
    spM K (Cn T G W n) "law" [.ref a] H (fun v _ => v = .bl true) E := by
  obtain ⟨S', e⟩ := h ns hl
  have allI : ∀ (ns : List Int), RelDs K [] H (ns.map D.int) (ns.map V.int) := by
    intro ns
    induction ns with
    | nil => exact RelDs.nil
    | cons i r ih => exact RelDs.cons (RelD.int i) ih
  have sf : SqF K H a (ns.map V.int) := by
    rcases hS with (h | h) | h
    · rcases hO a with z | ⟨o, xs, z⟩
      · rw [h] at z; cases z
      · rw [h] at z; cases z
    · exact .inl h
    · exact .inr h
  refine ⟨[], [], [.kl (ns.map D.int)], .bl true, S', ⟨rfl, List.nodup_nil, fun l b o h => by simp at h⟩, RelDs.cons ?_ RelDs.nil, e, fun ρ' v H' _ _ q => q.bl_inv⟩
  simp only [RelD]
  exact ⟨a, _, rfl, sf, allI ns⟩
end
theorem walk {l : PySem.W.OpenLaw} {q : Program} {loose : List Str} {XP : (Str → Option Value) → Heap → Prop} {YP : World → Heap → Prop} {d : DefRec} {K : Params → PySem.W.Frag} {T : Tb} {G : String → Option D} {B F : List String} {O : Ow} {x : String} {W n : Nat} (hn : l.most = some 63) (hdf : d.params.defaults = [])
    (hY : ∀ (w : World) (h : Heap), YP w h → (K w.params).In h) (hr : Room (2 * n) callerA) (hd : d.name = Str.ofString "law") (hlaw : "law" ∈ F) (hT : ∃ FN, T "law" = some FN ∧ FN.ps = [x])
    (X : ∀ (w : World) (mg : Str → Option Value) (h : Heap), (K w.params).In h → h.Ns mainGlobals mg → Txt (K w.params) mg T G B F O)
    (run : ∀ ns : List Int, ns.length ≤ 63 → ∃ S', callN T G W n "law" [.kl (ns.map D.int)] [] = .ok (.bl true) S') :
    PySem.W.WalkO q loose XP YP l.row.toRowW d [] (fun f vs => PySem.call f vs) := by
  refine L2.walk_of (n := 63) (k := 2 * n) (x := Str.ofString x) (CX := fun _ => CX0) (sp := fun w => spM (K w.params) (Cn T G W n) "law") hn (by decide) hdf hr hY (fun w mg fa h KX hns hmg => ?_) (fun w H a ns hl hO hS => law_sp run H a ns hl hO hS _) fun _ _ _ _ _ z => z
  have t := X w mg h KX hns
  obtain ⟨a, fd, hf, hlm⟩ := t.fns "law" hlaw
  obtain ⟨FN, hT, hps⟩ := hT
  obtain ⟨FN', st, nm, ql, hT', FU, sc, ck, bd⟩ := id hf.ex
  rw [hT] at hT'
  cases hT'
  rw [hd, hlm] at hmg
  cases hmg
  refine ⟨fd, fun s u => ?_, fun base kb nb => ?_⟩
  · have := bd [u] (by rw [hps]; rfl)
    rw [hps] at this
    exact .of_eq this
  · have := fn_ok (P := l.prog) (w := w) (base := base) t W n "law" fa fd hf FN hT
    rw [hps] at this
    exact FnOk.ok0 this
theorem holds {l : PySem.W.OpenLaw} {q : Program} {d : DefRec} {K : Params → PySem.W.Frag} {as : List Addr} {N : Nat} (ok : l.wellSaid = true) (e : ∀ P, as = (K P).map (·.1))
    (left : PySem.W.LeftO l.prog q [] (fun s => PySem.W.xlAt q [] s && PySem.W.recOk [] s) (fun s => as.map s.heap.get?) (fun w => (K w.params).map fun p => some p.2) N)
    (hdef : PySem.W.defOf q l.name = some (d, [])) (hp : l.prog.theDef l.name = some (d.params, d.body, d.scope)) (hk : PySem.W.kwWritten? d.params.kwonlyargs d.params.kw_defaults = some [])
    (ok2 : (PySem.W.chainsOk q && PySem.W.opensWell l.prog && (PySem.W.frees l.row.toRowW && l.row.within.isEmpty)) = true) (hb : l.prog.bare) (hw : l.row.toRowW.promised)
    (hc : PySem.W.WalkO q [] (PySem.W.XL q []) (PySem.W.InK K) l.row.toRowW d [] (fun f vs => PySem.call f vs)) : l.Holds :=
  PySem.W.holds_law ok fun said => PySem.W.holds_open (r := l.row) (XP := PySem.W.XL q []) (YP := PySem.W.InK K) left (PySem.W.InK.of e) PySem.W.InK.keeps (fun s z => PySem.W.xl_of s (Bool.and_eq_true_iff.mp z).1) PySem.W.XL.keeps hdef hp hk
    (fun s z => PySem.W.recFacts_of (Bool.and_eq_true_iff.mp z).2) (by cases h : l.writes <;> simp [PySem.W.OpenLaw.row]) said ok2 hb hw hc
end Mi

namespace Mi
open PySem L2
theorem len1 {α : Type} {P : List α → Prop} (h : ∀ a, P [a]) : ∀ us : List α, us.length = 1 → P us
  | [a], _ => h a
theorem len2 {α : Type} {P : List α → Prop} (h : ∀ a b, P [a, b]) : ∀ us : List α, us.length = 2 → P us
  | [a, b], _ => h a b
theorem len3 {α : Type} {P : List α → Prop} (h : ∀ a b c, P [a, b, c]) : ∀ us : List α, us.length = 3 → P us
  | [a, b, c], _ => h a b c
theorem len4 {α : Type} {P : List α → Prop} (h : ∀ a b c d, P [a, b, c, d]) : ∀ us : List α, us.length = 4 → P us
  | [a, b, c, d], _ => h a b c d
structure FE (K : PySem.W.Frag) (x : Str) (st : Stmt) : Prop where
  ex : ∃ (f : Addr) (oc : Value) (od : Option Addr) (kV doc pm : Value) (an : Option Addr) (cdv ct : Value) (sl : Array (Option Value)), PySem.W.nsIn K mainGlobals x = some (some (.ref f)) ∧
    K.lookup f = some ⟨oc, od, .func (PySem.W.fnOf x x (defArgs st) (defBody st) (defScope st) .none kV doc pm an cdv ct), sl⟩ ∧ PySem.W.codeIn K cdv x = true ∧ PySem.W.keepIn K (.ref f) = true
theorem fe_mk {K : PySem.W.Frag} {x : Str} {st : Stmt} {f : Addr} {oc : Value} {od : Option Addr} {kV doc pm : Value} {an : Option Addr} {cdv ct : Value} {sl : Array (Option Value)} (a : PySem.W.nsIn K mainGlobals x = some (some (.ref f)))
    (l : K.lookup f = some ⟨oc, od, .func (PySem.W.fnOf x x (defArgs st) (defBody st) (defScope st) .none kV doc pm an cdv ct), sl⟩) (c : PySem.W.codeIn K cdv x = true) (k : PySem.W.keepIn K (.ref f) = true) : FE K x st := ⟨_, _, _, _, _, _, _, _, _, _, a, l, c, k⟩
section
variable {K : PySem.W.Frag} {mg : Str → Option Value} {h : Heap} {T : Tb} {G : String → Option D} {B F : List String} {O : Ow}
theorem fnf_of (KX : K.In h) (hG : h.Ns mainGlobals mg) {f : String} {FN : Fn} {st : Stmt} (e : FE K (Str.ofString f) st) (hT : T f = some FN) (sc : FnScope (FN.N.map Str.ofString) (FN.ps.map Str.ofString) (defScope st))
    (ck : chkB FN.body ⟨FN.N.map Str.ofString, (defScope st).names, true, B, F, O, true⟩ (defBody st) = true)
    (bd : ∀ (kV doc pm : Value) (an : Option Addr) (cdv ct : Value) (us : List Value), us.length = (FN.ps.map Str.ofString).length → bindArgs (PySem.W.fnOf (Str.ofString f) (Str.ofString f) (defArgs st) (defBody st) (defScope st) .none kV doc pm an cdv ct) ⟨us, []⟩ = pure ((FN.ps.map Str.ofString).zip us)) :
    ∃ a fd, FnB K T B F O f a fd ∧ mg (Str.ofString f) = some (.ref a) := by
  obtain ⟨a, oc, od, kV, doc, pm, an, cdv, ct, sl, h1, h2, h3, h4⟩ := e.ex
  exact ⟨a, _, ⟨FN, st, _, _, hT, fun_mk (st := st) h2 h3 h4, sc, ck, bd kV doc pm an cdv ct⟩, PySem.W.mg_of KX hG h1⟩
structure CF (K : PySem.W.Frag) (c : Str) : Prop where
  ex : ∃ Ca : Addr, PySem.W.nsIn K mainGlobals c = some (some (.ref Ca)) ∧ L2.Cls K Ca
theorem cf_mk {c : Str} {Ca : Addr} (n : PySem.W.nsIn K mainGlobals c = some (some (.ref Ca))) (pg : PySem.W.plainGet K Ca Str.empty = true) (hd : PySem.W.hasDictIn K Ca = true) (po : PySem.W.plainOver K Ca = true)
    (sa : PySem.W.findIn K (.ref Ca) "__setattr__" = some (some (.builtin "object.__setattr__"))) : CF K c := ⟨Ca, n, pg, hd, po, sa⟩
structure NF (K : PySem.W.Frag) (c f : Str) : Prop where
  ex : ∃ Ca : Addr, PySem.W.nsIn K mainGlobals c = some (some (.ref Ca)) ∧ L2.NoAttr K Ca f
theorem nf_mk {c f : Str} {Ca : Addr} (n : PySem.W.nsIn K mainGlobals c = some (some (.ref Ca))) (a : PySem.W.findIn K (.ref Ca) f = some none) : NF K c f := ⟨Ca, n, a⟩
structure MF (K : PySem.W.Frag) (c m ql : Str) (st : Stmt) : Prop where
  ex : ∃ (Ca f : Addr) (oc : Value) (od : Option Addr) (kV doc pm : Value) (an : Option Addr) (cdv ct : Value) (sl : Array (Option Value)), PySem.W.nsIn K mainGlobals c = some (some (.ref Ca)) ∧ PySem.W.findIn K (.ref Ca) m = some (some (.ref f)) ∧
    K.lookup f = some ⟨oc, od, .func (PySem.W.fnOf m ql (defArgs st) (defBody st) (defScope st) .none kV doc pm an cdv ct), sl⟩ ∧ PySem.W.codeIn K cdv ql = true ∧ PySem.W.keepIn K (.ref f) = true ∧ PySem.W.isFn K (.ref f) = true ∧ L2.MethB K m f
theorem mf_mk {c m ql : Str} {st : Stmt} {Ca f : Addr} {oc : Value} {od : Option Addr} {kV doc pm : Value} {an : Option Addr} {cdv ct : Value} {sl : Array (Option Value)} (n : PySem.W.nsIn K mainGlobals c = some (some (.ref Ca))) (a : PySem.W.findIn K (.ref Ca) m = some (some (.ref f)))
    (l : K.lookup f = some ⟨oc, od, .func (PySem.W.fnOf m ql (defArgs st) (defBody st) (defScope st) .none kV doc pm an cdv ct), sl⟩) (cd : PySem.W.codeIn K cdv ql = true) (k : PySem.W.keepIn K (.ref f) = true) (i : PySem.W.isFn K (.ref f) = true)
    (g : PySem.W.specialIn K (.ref f) "__get__" = some (some (.builtin "function.__get__"))) (t : PySem.W.takesIn K (.ref f) = some false) (cp : PySem.W.copiedNames.contains m = false) : MF K c m ql st :=
  ⟨_, _, _, _, _, _, _, _, _, _, _, n, a, l, cd, k, i, g, t, cp⟩
structure NW (K : PySem.W.Frag) (c : Str) : Prop where
  ex : ∃ Ca : Addr, PySem.W.nsIn K mainGlobals c = some (some (.ref Ca)) ∧ PySem.W.makesIn K Ca = true ∧ PySem.W.keepIn K (.ref Ca) = true
theorem nw_mk {c : Str} {Ca : Addr} (n : PySem.W.nsIn K mainGlobals c = some (some (.ref Ca))) (mk : PySem.W.makesIn K Ca = true) (k : PySem.W.keepIn K (.ref Ca) = true) : NW K c := ⟨Ca, n, mk, k⟩
theorem mtf_of {c m ql f : String} {FN : Fn} {st : Stmt} (cf : CF K (Str.ofString c)) (e : MF K (Str.ofString c) (Str.ofString m) (Str.ofString ql) st) (hT : T f = some FN) (sc : FnScope (FN.N.map Str.ofString) (FN.ps.map Str.ofString) (defScope st))
    (ck : chkB FN.body ⟨FN.N.map Str.ofString, (defScope st).names, true, B, F, O, true⟩ (defBody st) = true)
    (bd : ∀ (kV doc pm : Value) (an : Option Addr) (cdv ct : Value) (us : List Value), us.length = (FN.ps.map Str.ofString).length → bindArgs (PySem.W.fnOf (Str.ofString m) (Str.ofString ql) (defArgs st) (defBody st) (defScope st) .none kV doc pm an cdv ct) ⟨us, []⟩ = pure ((FN.ps.map Str.ofString).zip us)) :
    ∃ a fd Ca, FnB K T B F O f a fd ∧ PySem.W.nsIn K mainGlobals (Str.ofString c) = some (some (.ref Ca)) ∧ L2.Cls K Ca ∧ L2.Meth K Ca (Str.ofString m) a ∧ L2.MethB K (Str.ofString m) a := by
  obtain ⟨Cb, n1, hc⟩ := cf.ex
  obtain ⟨Ca, a, oc, od, kV, doc, pm, an, cdv, ct, sl, n, h1, h2, h3, h4, h5, h6⟩ := e.ex
  rw [n] at n1
  cases n1
  exact ⟨a, _, _, ⟨FN, st, _, _, hT, fun_mk (st := st) h2 h3 h4, sc, ck, bd kV doc pm an cdv ct⟩, n, hc, ⟨h1, h5, h4⟩, h6⟩
theorem fdf_of {c f : String} (cf : CF K (Str.ofString c)) (e : NF K (Str.ofString c) (Str.ofString f)) : ∃ Ca, PySem.W.nsIn K mainGlobals (Str.ofString c) = some (some (.ref Ca)) ∧ L2.Cls K Ca ∧ L2.NoAttr K Ca (Str.ofString f) := by
  obtain ⟨Cb, n1, hc⟩ := cf.ex
  obtain ⟨Ca, n, h⟩ := e.ex
  rw [n] at n1
  cases n1
  exact ⟨_, n, hc, h⟩
theorem nwf_of (KX : K.In h) (hG : h.Ns mainGlobals mg) {c f : String} (cf : CF K (Str.ofString c)) (e : NW K (Str.ofString c)) (mf : ∃ a fd Ca, FnB K T B F O f a fd ∧ PySem.W.nsIn K mainGlobals (Str.ofString c) = some (some (.ref Ca)) ∧ L2.Cls K Ca ∧ L2.Meth K Ca (Str.ofString "__init__") a ∧ L2.MethB K (Str.ofString "__init__") a) :
    ∃ a fd Ca, FnB K T B F O f a fd ∧ PySem.W.nsIn K mainGlobals (Str.ofString c) = some (some (.ref Ca)) ∧ mg (Str.ofString c) = some (.ref Ca) ∧ L2.Mk K Ca a := by
  obtain ⟨Cb, n1, h1, h2⟩ := e.ex
  obtain ⟨a, fd, Ca, fb, n, _, hm, _⟩ := mf
  rw [n] at n1
  cases n1
  exact ⟨a, fd, _, fb, n, PySem.W.mg_of KX hG n, h1, hm.at_, hm.fn, h2⟩
structure XC (K : PySem.W.Frag) (c : Str) : Prop where
  ex : ∃ Ca : Addr, PySem.W.nsIn K mainGlobals c = some (some (.ref Ca)) ∧ PySem.W.excIn K Ca bmVal "ValueError.__new__" = true
theorem xc_mk {c : Str} {Ca : Addr} (n : PySem.W.nsIn K mainGlobals c = some (some (.ref Ca))) (q : PySem.W.excIn K Ca bmVal "ValueError.__new__" = true) : XC K c := ⟨Ca, n, q⟩
theorem rsf_of (KX : K.In h) (hG : h.Ns mainGlobals mg) {c : String} (e : XC K (Str.ofString c)) : ∃ Ca, PySem.W.nsIn K mainGlobals (Str.ofString c) = some (some (.ref Ca)) ∧ mg (Str.ofString c) = some (.ref Ca) ∧ PySem.W.excIn K Ca bmVal "ValueError.__new__" = true := by
  obtain ⟨Ca, n, q⟩ := e.ex
  exact ⟨Ca, n, PySem.W.mg_of KX hG n, q⟩
structure XT (K : PySem.W.Frag) (x c : Str) : Prop where
  ex : ∃ Cx Ca : Addr, PySem.W.nsIn K mainGlobals x = some (some (.ref Cx)) ∧ PySem.W.nsIn K mainGlobals c = some (some (.ref Ca)) ∧ PySem.W.exmOne K (.ref Ca) (.ref Cx) = some true ∧ L2.ExcCl K Ca ∧ (PySem.W.clsIn K Ca).isSome = true
theorem xt_mk {x c : Str} {Cx Ca : Addr} (n1 : PySem.W.nsIn K mainGlobals x = some (some (.ref Cx))) (n2 : PySem.W.nsIn K mainGlobals c = some (some (.ref Ca))) (q : PySem.W.exmOne K (.ref Ca) (.ref Cx) = some true)
    (a1 : PySem.W.findIn K (.ref Ca) "__getattribute__" = some (some (.builtin "BaseException.__getattribute__"))) (a2 : PySem.W.findIn K (.ref Ca) "__getattr__" = some none) (a3 : PySem.W.findIn K (.ref Ca) "__class__" = some (some (.builtin "object.__class__")))
    (a4 : PySem.W.specialIn K (.builtin "object.__class__") "__get__" = some (some (.builtin "getset_descriptor.__get__"))) (a5 : PySem.W.takesIn K (.builtin "object.__class__") = some true) (a6 : PySem.W.mroIn K Ca (.type "object") = some true) (a7 : PySem.W.mroIn K Ca (.type "BaseException") = some true) (a8 : (PySem.W.clsIn K Ca).isSome = true) : XT K x c :=
  ⟨Cx, Ca, n1, n2, q, ⟨a1, a2, a3, a4, a5, a6, a7⟩, a8⟩
structure XI (K : PySem.W.Frag) (c t : Str) (b : Bool) : Prop where
  ex : ∃ Ca Ct : Addr, PySem.W.nsIn K mainGlobals c = some (some (.ref Ca)) ∧ PySem.W.nsIn K mainGlobals t = some (some (.ref Ct)) ∧ PySem.W.kitOne K (.ref Ca) (.ref Ct) = some b
theorem xi_mk {c t : Str} {b : Bool} {Ca Ct : Addr} (n2 : PySem.W.nsIn K mainGlobals c = some (some (.ref Ca))) (n1 : PySem.W.nsIn K mainGlobals t = some (some (.ref Ct))) (q : PySem.W.kitOne K (.ref Ca) (.ref Ct) = some b) : XI K c t b := ⟨Ca, Ct, n2, n1, q⟩
structure XV (K : PySem.W.Frag) (c : Str) (b : Bool) : Prop where
  ex : ∃ Ca : Addr, PySem.W.nsIn K mainGlobals c = some (some (.ref Ca)) ∧ PySem.W.nsIn K mainGlobals (Str.ofString "ValueError") = some none ∧ PySem.W.kitOne K (.ref Ca) (.type "ValueError") = some b
theorem xv_mk {c : Str} {b : Bool} {Ca : Addr} (n2 : PySem.W.nsIn K mainGlobals c = some (some (.ref Ca))) (n1 : PySem.W.nsIn K mainGlobals (Str.ofString "ValueError") = some none) (q : PySem.W.kitOne K (.ref Ca) (.type "ValueError") = some b) : XV K c b := ⟨Ca, n2, n1, q⟩
theorem isI (KX : K.In h) (hG : h.Ns mainGlobals mg) {c t : String} {b : Bool} {Ca : Addr} (n : PySem.W.nsIn K mainGlobals (Str.ofString c) = some (some (.ref Ca))) (e : XI K (Str.ofString c) (Str.ofString t) b) : IsC K mg Ca t b := by
  obtain ⟨Cb, Ct, n1, n2, q⟩ := e.ex
  rw [n] at n1
  cases n1
  exact .inl ⟨Ct, PySem.W.mg_of KX hG n2, q⟩
theorem isV (KX : K.In h) (hG : h.Ns mainGlobals mg) {c : String} {b : Bool} {Ca : Addr} (n : PySem.W.nsIn K mainGlobals (Str.ofString c) = some (some (.ref Ca))) (e : XV K (Str.ofString c) b) : IsC K mg Ca "ValueError" b := by
  obtain ⟨Cb, n1, n2, q⟩ := e.ex
  rw [n] at n1
  cases n1
  exact .inr ⟨rfl, PySem.W.mg_none_of KX hG n2, q⟩
theorem exf_of (KX : K.In h) (hG : h.Ns mainGlobals mg) {x c : String} {ts : List (String × Bool)} (e : XT K (Str.ofString x) (Str.ofString c)) (k : ∀ Ca, PySem.W.nsIn K mainGlobals (Str.ofString c) = some (some (.ref Ca)) → ∀ t b, (t, b) ∈ ts → IsC K mg Ca t b) :
    ∃ Cx Ca, mg (Str.ofString x) = some Cx ∧ PySem.W.nsIn K mainGlobals (Str.ofString c) = some (some (.ref Ca)) ∧ PySem.W.exmOne K (.ref Ca) Cx = some true ∧ L2.ExcCl K Ca ∧ (PySem.W.clsIn K Ca).isSome = true ∧ ∀ t b, (t, b) ∈ ts → IsC K mg Ca t b := by
  obtain ⟨Cx, Ca, n1, n2, q, x1, x2⟩ := e.ex
  exact ⟨_, Ca, PySem.W.mg_of KX hG n1, n2, q, x1, x2, k Ca n2⟩
theorem gi_of (KX : K.In h) (hG : h.Ns mainGlobals mg) {x : String} {i : Int} {t : Tok} (e : PySem.W.nsIn K mainGlobals (Str.ofString x) = some (some (.int i t))) : ∃ v u, mg (Str.ofString x) = some u ∧ RelV v u ∧ (∀ ρ H, RelD K ρ H (.int i) v) ∧ ∀ ds, D.int i = .tup ds → ∃ a o, v = .ref a ∧ K.lookup a = some o ∧ o.cls = .type "tuple" ∧ o.dict = none :=
  ⟨.int i, _, PySem.W.mg_of KX hG e, ⟨t, rfl⟩, fun _ _ => RelD.int i, fun _ z => by cases z⟩
theorem gb_of (KX : K.In h) (hG : h.Ns mainGlobals mg) {x : String} (e : PySem.W.nsIn K mainGlobals (Str.ofString x) = some none) : mg (Str.ofString x) = none := PySem.W.mg_none_of KX hG e
end
end Mi

namespace Mi
open PySem L2
noncomputable def Sat {α : Type} (r : Res α) (P : α → Store → Prop) : Prop := ∃ a S, r = .ok a S ∧ P a S
theorem Sat.ok {α : Type} {a : α} {S : Store} {P : α → Store → Prop} (h : P a S) : Sat (.ok a S) P := ⟨a, S, rfl, h⟩
@[simp] theorem Sat_ok {α : Type} {a : α} {S : Store} {P : α → Store → Prop} : Sat (.ok a S) P ↔ P a S := ⟨fun ⟨_, _, e, h⟩ => by cases e; exact h, Sat.ok⟩
theorem Sat.bind {α β : Type} {r : Res α} {f : α → Store → Res β} {P : β → Store → Prop} (h : Sat r fun a S => Sat (f a S) P) : Sat (r.bind f) P := by
  obtain ⟨a, S, rfl, h⟩ := h
  exact h
theorem Sat.mono {α : Type} {r : Res α} {P Q : α → Store → Prop} (h : Sat r P) (hq : ∀ a S, P a S → Q a S) : Sat r Q := by
  obtain ⟨a, S, e, h⟩ := h
  exact ⟨a, S, e, hq a S h⟩
theorem Sat.call {α β : Type} {r : Res α} {f : α → Store → Res β} {P : α → Store → Prop} {Q : β → Store → Prop} (h : Sat r P) (hq : ∀ a S, P a S → Sat (f a S) Q) : Sat (r.bind f) Q := .bind (h.mono hq)
noncomputable def finF (fl : Fl) (S : Store) : Res D := match fl with
  | .rt d => .ok d S
  | .nx _ => .ok .non S
  | _ => .bad
theorem callN_eq {T : Tb} {G : String → Option D} {W n : Nat} {f : String} {FN : Fn} {ds : List D} {S : Store} (hT : T f = some FN) (hl : ds.length = FN.ps.length) :
    callN T G W (n + 1) f ds S = (evB (Cn T G W n) FN.body (ds.map some ++ List.replicate (FN.N.length - ds.length) none) S).bind finF := by
  simp only [callN, hT, if_pos hl]
  rfl
@[simp] theorem Cn_call {T : Tb} {G : String → Option D} {W n : Nat} : (Cn T G W n).call = callN T G W n := rfl
@[simp] theorem Cn_glob {T : Tb} {G : String → Option D} {W n : Nat} : (Cn T G W n).glob = G := rfl
@[simp] theorem Cn_W {T : Tb} {G : String → Option D} {W n : Nat} : (Cn T G W n).W = W := rfl
theorem forL_none {turn : D → En → Store → Res Fl} {ds : List D} {P : Fl → Store → Prop} (I : Nat → En → Store → Prop) (hend : ∀ τ S, I ds.length τ S → P (.nx τ) S)
    (hturn : ∀ i d τ S, ds[i]? = some d → I i τ S → Sat (turn d τ S) fun fl S1 => match fl with | .nx τ1 => I (i + 1) τ1 S1 | .ct τ1 => I (i + 1) τ1 S1 | .bk τ1 => P (.nx τ1) S1 | .rt d => P (.rt d) S1) :
    ∀ (n i : Nat) (τ : En) (S : Store), i + n = ds.length → I i τ S → Sat (forL turn none ds n i τ S) P := by
  intro n
  induction n with
  | zero =>
    intro i τ S hi h
    have : i = ds.length := by omega
    subst this
    simp only [forL, sameAt, if_true]
    exact .ok (hend τ S h)
  | succ n ih =>
    intro i τ S hi h
    have hlt : i < ds.length := by omega
    have e : ds[i]? = some ds[i] := List.getElem?_eq_getElem hlt
    simp only [forL, sameAt, if_true, nth, e]
    refine .bind ((hturn i _ τ S e h).mono fun fl S1 q => ?_)
    cases fl with
    | nx τ1 => exact ih (i + 1) τ1 S1 (by omega) q
    | ct τ1 => exact ih (i + 1) τ1 S1 (by omega) q
    | bk τ1 => exact .ok q
    | rt d => exact .ok q
noncomputable def yv : Kd → Nat → D → D
  | .enm, i, d => .tup [.int i, d]
  | .lst, _, d => d
theorem forL_w {b : Kd} {turn : D → En → Store → Res Fl} {l : Nat} {ds : List D} {P : Fl → Store → Prop} (I : Nat → En → Store → Prop) (hst : ∀ i τ S, I i τ S → S[l]? = some (.lst ds)) (hend : ∀ τ S, I ds.length τ S → P (.nx τ) S)
    (hturn : ∀ i d τ S, ds[i]? = some d → I i τ S → Sat (turn (yv b i d) τ S) fun fl S1 => match fl with | .nx τ1 => I (i + 1) τ1 S1 | .ct τ1 => I (i + 1) τ1 S1 | .bk τ1 => P (.nx τ1) S1 | .rt d => P (.rt d) S1) :
    ∀ (n i : Nat) (τ : En) (S : Store), i + n = ds.length → I i τ S → Sat (forL turn (some (l, b)) ds n i τ S) P := by
  intro n
  induction n with
  | zero =>
    intro i τ S hi h
    have : i = ds.length := by omega
    subst this
    have hs := hst _ τ S h
    simp only [forL, sameAt, hs, beq_self_eq_true, if_true]
    exact .ok (hend τ S h)
  | succ n ih =>
    intro i τ S hi h
    have hlt : i < ds.length := by omega
    have e : ds[i]? = some ds[i] := List.getElem?_eq_getElem hlt
    have hs := hst _ τ S h
    simp only [forL, sameAt, hs, beq_self_eq_true, if_true]
    have en : nth S (some (l, b)) ds i = some (yv b i ds[i]) := by cases b <;> first | simp [nth, seqAt, hs, e, yv]
    simp only [en]
    refine .bind ((hturn i _ τ S e h).mono fun fl S1 q => ?_)
    cases fl with
    | nx τ1 => exact ih (i + 1) τ1 S1 (by omega) q
    | ct τ1 => exact ih (i + 1) τ1 S1 (by omega) q
    | bk τ1 => exact .ok q
    | rt d => exact .ok q
theorem forL_some {turn : D → En → Store → Res Fl} {l : Nat} {ds : List D} {P : Fl → Store → Prop} (I : Nat → En → Store → Prop) (hst : ∀ i τ S, I i τ S → S[l]? = some (.lst ds)) (hend : ∀ τ S, I ds.length τ S → P (.nx τ) S)
    (hturn : ∀ i d τ S, ds[i]? = some d → I i τ S → Sat (turn d τ S) fun fl S1 => match fl with | .nx τ1 => I (i + 1) τ1 S1 | .ct τ1 => I (i + 1) τ1 S1 | .bk τ1 => P (.nx τ1) S1 | .rt d => P (.rt d) S1) :
    ∀ (n i : Nat) (τ : En) (S : Store), i + n = ds.length → I i τ S → Sat (forL turn (some (l, .lst)) ds n i τ S) P :=
  forL_w (b := .lst) I hst hend hturn
theorem forL_enm {turn : D → En → Store → Res Fl} {l : Nat} {ds : List D} {P : Fl → Store → Prop} (I : Nat → En → Store → Prop) (hst : ∀ i τ S, I i τ S → S[l]? = some (.lst ds)) (hend : ∀ τ S, I ds.length τ S → P (.nx τ) S)
    (hturn : ∀ i d τ S, ds[i]? = some d → I i τ S → Sat (turn (.tup [.int i, d]) τ S) fun fl S1 => match fl with | .nx τ1 => I (i + 1) τ1 S1 | .ct τ1 => I (i + 1) τ1 S1 | .bk τ1 => P (.nx τ1) S1 | .rt d => P (.rt d) S1) :
    ∀ (n i : Nat) (τ : En) (S : Store), i + n = ds.length → I i τ S → Sat (forL turn (some (l, .enm)) ds n i τ S) P :=
  forL_w (b := .enm) I hst hend hturn
theorem compL_none {turn : D → En → Store → Res (Option D)} {ds : List D} {P : List D → Store → Prop} {τ : En} (I : Nat → List D → Store → Prop) (hl : ds.length ≤ Line) (hI : ∀ i acc S, I i acc S → acc.length ≤ i) (hend : ∀ acc S, I ds.length acc S → P acc S)
    (hturn : ∀ i d acc S, ds[i]? = some d → I i acc S → Sat (turn d τ S) fun o S1 => match o with | some y => I (i + 1) (acc ++ [y]) S1 | none => I (i + 1) acc S1) :
    ∀ (n i : Nat) (acc : List D) (S : Store), i + n = ds.length → I i acc S → Sat (compL turn none ds n i τ S acc) P := by
  intro n
  induction n with
  | zero =>
    intro i acc S hi h
    have : i = ds.length := by omega
    subst this
    simp only [compL, sameAt, if_true]
    exact .ok (hend acc S h)
  | succ n ih =>
    intro i acc S hi h
    have hlt : i < ds.length := by omega
    have e : ds[i]? = some ds[i] := List.getElem?_eq_getElem hlt
    simp only [compL, sameAt, if_true, nth, e]
    refine .bind ((hturn i _ acc S e h).mono fun o S1 q => ?_)
    cases o with
    | none => exact ih (i + 1) acc S1 (by omega) q
    | some y =>
      have := hI _ _ _ h
      have hlt' : acc.length < Line := by omega
      simp only [if_pos hlt']
      exact ih (i + 1) _ S1 (by omega) q
theorem compL_w {b : Kd} {turn : D → En → Store → Res (Option D)} {l : Nat} {ds : List D} {P : List D → Store → Prop} {τ : En} (I : Nat → List D → Store → Prop) (hl : ds.length ≤ Line) (hI : ∀ i acc S, I i acc S → acc.length ≤ i ∧ S[l]? = some (.lst ds)) (hend : ∀ acc S, I ds.length acc S → P acc S)
    (hturn : ∀ i d acc S, ds[i]? = some d → I i acc S → Sat (turn (yv b i d) τ S) fun o S1 => match o with | some y => I (i + 1) (acc ++ [y]) S1 | none => I (i + 1) acc S1) :
    ∀ (n i : Nat) (acc : List D) (S : Store), i + n = ds.length → I i acc S → Sat (compL turn (some (l, b)) ds n i τ S acc) P := by
  intro n
  induction n with
  | zero =>
    intro i acc S hi h
    have : i = ds.length := by omega
    subst this
    have hs := (hI _ _ _ h).2
    simp only [compL, sameAt, hs, beq_self_eq_true, if_true]
    exact .ok (hend acc S h)
  | succ n ih =>
    intro i acc S hi h
    have hlt : i < ds.length := by omega
    have e : ds[i]? = some ds[i] := List.getElem?_eq_getElem hlt
    have hs := (hI _ _ _ h).2
    simp only [compL, sameAt, hs, beq_self_eq_true, if_true]
    have en : nth S (some (l, b)) ds i = some (yv b i ds[i]) := by cases b <;> first | simp [nth, seqAt, hs, e, yv]
    simp only [en]
    refine .bind ((hturn i _ acc S e h).mono fun o S1 q => ?_)
    cases o with
    | none => exact ih (i + 1) acc S1 (by omega) q
    | some y =>
      have := (hI _ _ _ h).1
      have hlt' : acc.length < Line := by omega
      simp only [if_pos hlt']
      exact ih (i + 1) _ S1 (by omega) q
theorem compL_some {turn : D → En → Store → Res (Option D)} {l : Nat} {ds : List D} {P : List D → Store → Prop} {τ : En} (I : Nat → List D → Store → Prop) (hl : ds.length ≤ Line) (hI : ∀ i acc S, I i acc S → acc.length ≤ i ∧ S[l]? = some (.lst ds)) (hend : ∀ acc S, I ds.length acc S → P acc S)
    (hturn : ∀ i d acc S, ds[i]? = some d → I i acc S → Sat (turn d τ S) fun o S1 => match o with | some y => I (i + 1) (acc ++ [y]) S1 | none => I (i + 1) acc S1) :
    ∀ (n i : Nat) (acc : List D) (S : Store), i + n = ds.length → I i acc S → Sat (compL turn (some (l, .lst)) ds n i τ S acc) P :=
  compL_w (b := .lst) I hl hI hend hturn
theorem compL_enm {turn : D → En → Store → Res (Option D)} {l : Nat} {ds : List D} {P : List D → Store → Prop} {τ : En} (I : Nat → List D → Store → Prop) (hl : ds.length ≤ Line) (hI : ∀ i acc S, I i acc S → acc.length ≤ i ∧ S[l]? = some (.lst ds)) (hend : ∀ acc S, I ds.length acc S → P acc S)
    (hturn : ∀ i d acc S, ds[i]? = some d → I i acc S → Sat (turn (.tup [.int i, d]) τ S) fun o S1 => match o with | some y => I (i + 1) (acc ++ [y]) S1 | none => I (i + 1) acc S1) :
    ∀ (n i : Nat) (acc : List D) (S : Store), i + n = ds.length → I i acc S → Sat (compL turn (some (l, .enm)) ds n i τ S acc) P :=
  compL_w (b := .enm) I hl hI hend hturn
end Mi

namespace Mi
open PySem L2
section
variable {S : Store} {i j : Int} {a b : Bool} {x y : Str} {ds es : List D}
@[simp] theorem bop_add_int : bop .add (.int i) (.int j) S = .ok (.int (i + j)) S := rfl
@[simp] theorem bop_mod_int (h : 0 < j) : bop .mod (.int i) (.int j) S = .ok (.int (i % j)) S := by
  simp only [rbop_9]
  exact if_pos h
theorem big_of {j : Int} (h1 : 0 < j) (h2 : j < 2 ^ 250) : 0 < j ∧ j.natAbs < 2 ^ 4096 := by
  refine ⟨h1, ?_⟩
  have h3 : j.natAbs < 2 ^ 250 := by
    have : (j.natAbs : Int) < (2 ^ 250 : Nat) := by
      rw [Int.natAbs_of_nonneg (by omega)]
      exact_mod_cast h2
    exact_mod_cast this
  exact Nat.lt_trans h3 (Nat.pow_lt_pow_right (by decide) (by decide))
@[simp] theorem bop_fdiv_int (h1 : 0 < j) (h2 : j < 2 ^ 250) : bop .fdiv (.int i) (.int j) S = .ok (.int (i / j)) S := by
  simp only [rbop_8]
  exact if_pos (big_of h1 h2)
theorem deep_eq : Deep = 11 + 1 := rfl
@[simp] theorem cop_eq_int : cop .eq (.int i) (.int j) S = some (decide (i = j)) := by
  simp only [cop, deep_eq, eqD, scalV, eqV]
  congr 1
@[simp] theorem cop_eq_str : cop .eq (.str x) (.str y) S = some (decide (x = y)) := by
  simp only [cop, deep_eq, eqD, scalV, eqV]
  congr 1
@[simp] theorem cop_ne_int : cop .ne (.int i) (.int j) S = some (!decide (i = j)) := by
  have := cop_eq_int (i := i) (j := j) (S := S)
  simp only [cop] at this ⊢
  rw [this]
  rfl
@[simp] theorem cop_gt_int : cop .gt (.int i) (.int j) S = some (decide (j < i)) := rfl
@[simp] theorem prim_int_int : primD .int1 [.int i] S = .ok (.int i) S := rfl
@[simp] theorem prim_int_bl : primD .int1 [.bl b] S = .ok (.int (if b then 1 else 0)) S := rfl
@[simp] theorem prim_len_tup : primD .len [.tup ds] S = .ok (.int ds.length) S := rfl
@[simp] theorem prim_len_kl : primD .len [.kl ds] S = .ok (.int ds.length) S := rfl
theorem prim_len_loc {l : Nat} (h : S[l]? = some (.lst ds)) : primD .len [.loc l] S = .ok (.int ds.length) S := by simp only [rprimD_0, seqOf, seqAt, h]
@[simp] theorem new_get {o : Obj} : (S ++ [o])[S.length]? = some o := by
  rw [List.getElem?_append_right (Nat.le_refl _), Nat.sub_self]; rfl
theorem old_get {l : Nat} {o : Obj} {X : Store} (h : S[l]? = some o) : (S ++ X)[l]? = some o := by
  rw [List.getElem?_append_left (List.getElem?_eq_some_iff.mp h).1]; exact h
theorem idx_tup {d : D} (h : atI ds i = some d) : idxD (.tup ds) (.int i) S = some d := by simp only [idxD, seqOf, h]
theorem idx_loc {l : Nat} {d : D} (hl : S[l]? = some (.lst ds)) (h : atI ds i = some d) : idxD (.loc l) (.int i) S = some d := by simp only [idxD, seqOf, seqAt, hl, h]
theorem atI_lt {α : Type} {xs : List α} {i : Int} (h0 : 0 ≤ i) (h1 : i < xs.length) : ∃ x, atI xs i = some x ∧ x ∈ xs ∧ xs[i.toNat]? = some x := by
  have hl : i.toNat < xs.length := by omega
  refine ⟨xs[i.toNat], ?_, List.getElem_mem hl, List.getElem?_eq_getElem hl⟩
  simp only [atI, ixN, if_pos h0, if_pos h1, Option.bind_some]
  exact List.getElem?_eq_getElem hl
theorem atI_nat {α : Type} {xs : List α} {k : Nat} (h1 : k < xs.length) : atI xs (k : Int) = xs[k]? := by
  have : (k : Int) < xs.length := by omega
  simp only [atI, ixN, if_pos (Int.natCast_nonneg k), if_pos this, Option.bind_some, Int.toNat_natCast]
theorem meth_append {l : Nat} {d : D} (h : S[l]? = some (.lst ds)) (hl : ds.length < Line) : methD .append (.loc l) [d] S = .ok .non (S.set l (.lst (ds ++ [d]))) := by simp only [rmethD_0, h, if_pos hl]
theorem line_big {n : Nat} (h : n ≤ 1000000) : n ≤ Line := by unfold Line; omega
end
end Mi

namespace Mi
open PySem L2
noncomputable def kVar (o : Option (Option D)) (S : Store) : Res D := match o with | some (some d) => .ok d S | _ => .bad
noncomputable def kGlb (o : Option D) (S : Store) : Res D := match o with | some d => .ok d S | none => .bad
noncomputable def kBin (C : Pr) (o : Bop) (b : M) (τ : En) (x : D) (S : Store) : Res D := (evE C b τ S).bind (bop o x)
noncomputable def kNeg (x : D) (S : Store) : Res D := match x with | .int i => .ok (.int (-i)) S | _ => .bad
noncomputable def kNot (x : D) (S : Store) : Res D := match tru S x with | some b => .ok (.bl (!b)) S | none => .bad
noncomputable def kCmp2 (o : Cop) (x y : D) (S : Store) : Res D := match cop o x y S with | some k => .ok (.bl k) S | none => .bad
noncomputable def kCmp (C : Pr) (o : Cop) (b : M) (τ : En) (x : D) (S : Store) : Res D := (evE C b τ S).bind (kCmp2 o x)
noncomputable def kTup (ds : List D) (S : Store) : Res D := if ds.length ≤ Line then .ok (.tup ds) S else .bad
noncomputable def kLst (ds : List D) (S : Store) : Res D := if ds.length ≤ Line then .ok (.loc S.length) (S ++ [.lst ds]) else .bad
noncomputable def kIdx2 (x y : D) (S : Store) : Res D := match idxD x y S with | some d => .ok d S | none => .bad
noncomputable def kIdx (C : Pr) (b : M) (τ : En) (x : D) (S : Store) : Res D := (evE C b τ S).bind (kIdx2 x)
noncomputable def kSli2 (C : Pr) (hi : M) (τ : En) (x : D) (l : Option Int) (S : Store) : Res D := (evO C hi τ S).bind (sliD x l)
noncomputable def kSli (C : Pr) (lo hi : M) (τ : En) (x : D) (S : Store) : Res D := (evO C lo τ S).bind (kSli2 C hi τ x)
noncomputable def kIsi (t : String) (x : D) (S : Store) : Res D := match tyD S x with | some y => .ok (.bl (isiD y t)) S | none => .bad
noncomputable def kMeth (C : Pr) (p : Meth) (as : M) (τ : En) (x : D) (S : Store) : Res D := if rcv S x then (evA C as τ S).bind (methD p x) else .bad
noncomputable def kTru (d : D) (S : Store) : Res Bool := match tru S d with | some b => .ok b S | none => .bad
noncomputable def tVar' (o : Option (Option D)) (S : Store) : Res Bool := match o with | some (some d) => kTru d S | _ => .bad
noncomputable def tNotB (b : Bool) (S : Store) : Res Bool := .ok (!b) S
noncomputable def tCmp2 (o : Cop) (x y : D) (S : Store) : Res Bool := match cop o x y S with | some k => .ok k S | none => .bad
noncomputable def tCmp' (C : Pr) (o : Cop) (b : M) (τ : En) (x : D) (S : Store) : Res Bool := (evE C b τ S).bind (tCmp2 o x)
noncomputable def tIdx2 (x y : D) (S : Store) : Res Bool := match idxD x y S with | some d => kTru d S | none => .bad
noncomputable def tIdx (C : Pr) (b : M) (τ : En) (x : D) (S : Store) : Res Bool := (evE C b τ S).bind (tIdx2 x)
noncomputable def tCal (C : Pr) (f : String) (ds : List D) (S : Store) : Res Bool := (C.call f ds S).bind kTru
noncomputable def tPri (p : Prim) (ds : List D) (S : Store) : Res Bool := (primD p ds S).bind kTru
noncomputable def tIsi (t : String) (x : D) (S : Store) : Res Bool := match tyD S x with | some y => .ok (isiD y t) S | none => .bad
noncomputable def kBV (C : Pr) (w : Bool) (r : M) (τ : En) (x : D) (S : Store) : Res D := match x with | .bl c => if c = w then evBV C w r τ S else .ok (.bl (!w)) S | _ => .bad
noncomputable def kBT (C : Pr) (w : Bool) (r : M) (τ : En) (c : Bool) (S : Store) : Res Bool := if c = w then evBT C w r τ S else .ok (!w) S
noncomputable def kCons (x : D) (xs : List D) (S : Store) : Res (List D) := .ok (x :: xs) S
noncomputable def kArg (C : Pr) (b : M) (τ : En) (x : D) (S : Store) : Res (List D) := (evA C b τ S).bind (kCons x)
noncomputable def kOpt (x : D) (S : Store) : Res (Option Int) := match x with | .int i => .ok (some i) S | _ => .bad
noncomputable def kSeq (x : D) (S : Store) : Res (Wk × List D) := match x with
  | .loc l => (match seqAt S l with | some ds => .ok (some (l, .lst), ds) S | none => .bad)
  | _ => .bad
noncomputable def kEnm (x : D) (S : Store) : Res (Wk × List D) := match x with
  | .loc l => (match seqAt S l with | some ds => .ok (some (l, .enm), ds) S | none => .bad)
  | _ => .bad
noncomputable def kFld (c f : String) (x : D) (S : Store) : Res D := match fldAt S x c f with | some d => .ok d S | none => .bad
noncomputable def kMcl2 (C : Pr) (f : String) (x : D) (ds : List D) (S : Store) : Res D := C.call f (x :: ds) S
noncomputable def kMcl (C : Pr) (c m f : String) (as : M) (τ : En) (x : D) (S : Store) : Res D := if isRec S x c m then (evA C as τ S).bind (kMcl2 C f x) else .bad
noncomputable def tMcl2 (C : Pr) (f : String) (x : D) (ds : List D) (S : Store) : Res Bool := (C.call f (x :: ds) S).bind kTru
noncomputable def tMcl (C : Pr) (c m f : String) (as : M) (τ : En) (x : D) (S : Store) : Res Bool := if isRec S x c m then (evA C as τ S).bind (tMcl2 C f x) else .bad
noncomputable def kNew (l : Nat) (d : D) (S : Store) : Res D := match d with | .non => .ok (.loc l) S | _ => .bad
noncomputable def kMk5 (x y u v : D) (S : Store) : Res D := match ltP v u with | some k => .ok (if k then y else x) S | none => .bad
noncomputable def kMk4 (C : Pr) (f : String) (x y r u : D) (S : Store) : Res D := (C.call f [r, y] S).bind (kMk5 x y u)
noncomputable def kMk3 (C : Pr) (c m f : String) (x y r : D) (S : Store) : Res D := if isRec S r c m then (C.call f [r, x] S).bind (kMk4 C f x y r) else .bad
noncomputable def kMk2 (C : Pr) (c m f : String) (o : M) (τ : En) (x y : D) (S : Store) : Res D := (evE C o τ S).bind (kMk3 C c m f x y)
noncomputable def kMk1 (C : Pr) (c m f : String) (o b : M) (τ : En) (x : D) (S : Store) : Res D := (evE C b τ S).bind (kMk2 C c m f o τ x)
noncomputable def kDl2 (l : Nat) (x y : D) (S : Store) : Res D := match x with
  | .int i => (match dctAt S l with | some [] => .ok (.loc l) (S.set l (.dct [(i, y)])) | _ => .bad)
  | _ => .bad
noncomputable def kDl (C : Pr) (v : M) (l : Nat) (τ : En) (x : D) (S : Store) : Res D := (evE C v τ S).bind (kDl2 l x)
noncomputable def kSfd2 (c f : String) (τ : En) (y x : D) (S : Store) : Res Fl := match setF S x c f y with | some S3 => .ok (.nx τ) S3 | none => .bad
noncomputable def kSfd (C : Pr) (c f : String) (o : M) (τ : En) (y : D) (S : Store) : Res Fl := (evE C o τ S).bind (kSfd2 c f τ y)
noncomputable def kEn (τ : En) (_ : Unit) (S : Store) : Res En := .ok τ S
noncomputable def kSub2 (d : D) (τ : En) (o i : D) (S : Store) : Res En := (setS o i d S).bind (kEn τ)
noncomputable def kSub (C : Pr) (b : M) (d : D) (τ : En) (o : D) (S : Store) : Res En := (evE C b τ S).bind (kSub2 d τ o)
noncomputable def kGs (C : Pr) (ts : M) (r : List D) (τ : En) (S : Store) : Res En := evGs C ts r τ S
noncomputable def kNx (τ : En) (S : Store) : Res Fl := .ok (.nx τ) S
noncomputable def kRev (x : D) (S : Store) : Res D := match x with | .loc l => (match seqAt S l with | some ds => .ok (.loc S.length) (S ++ [.lst ds.reverse]) | none => .bad) | _ => .bad
noncomputable def kAsg (C : Pr) (t : M) (τ : En) (d : D) (S : Store) : Res Fl := (evG C t d τ S).bind kNx
noncomputable def kAsx2 (i : Nat) (τ : En) (y : D) (S : Store) : Res Fl := if i < τ.length then .ok (.nx (τ.set i (some y))) S else .bad
noncomputable def kAsx (C : Pr) (i : Nat) (f : String) (τ : En) (d : D) (S : Store) : Res Fl := ((C.call f [d] S).at τ).bind (kAsx2 i τ)
noncomputable def kIfs (C : Pr) (a b : M) (τ : En) (k : Bool) (S : Store) : Res Fl := if k then evB C a τ S else evB C b τ S
noncomputable def kRet (d : D) (S : Store) : Res Fl := .ok (.rt d) S
noncomputable def kExp (τ : En) (_ : D) (S : Store) : Res Fl := .ok (.nx τ) S
noncomputable def kB (C : Pr) (r : M) (fl : Fl) (S : Store) : Res Fl := match fl with
  | .nx τ1 => evB C r τ1 S
  | .rt d => .ok (.rt d) S
  | .bk τ1 => .ok (.bk τ1) S
  | .ct τ1 => .ok (.ct τ1) S
noncomputable def turnF (C : Pr) (t b : M) (d : D) (τ : En) (S : Store) : Res Fl := (evG C t d τ S).bind (evB C b)
noncomputable def kFor (C : Pr) (t b : M) (τ : En) (w : Wk × List D) (S : Store) : Res Fl := forL (turnF C t b) w.1 w.2 w.2.length 0 τ S
noncomputable def kComp1 (ys : List D) (S : Store) : Res D := .ok (.loc S.length) (S ++ [.lst ys])
noncomputable def kComp (C : Pr) (k : Nat) (keep : List Nat) (tg cd el : M) (τ : En) (w : Wk × List D) (S : Store) : Res D := (compL (turnC C tg cd el) w.1 w.2 w.2.length 0 (inEn k keep τ) S []).bind kComp1
section
variable {C : Pr} {τ : En} {S : Store} {w : Bool} {d : D} {ds : List D} {i k : Nat} {keep : List Nat} {N : List String} {x f t : String} {a b c r as lo hi e s ts t' : M} {it tg cd el : M} {o p : Cop} {q : Bop} {pr : Prim} {me : Meth}
theorem v_cst : evE C (.cst d) τ S = .ok d S := rfl
theorem v_var : evE C (.var i) τ S = kVar τ[i]? S := rfl
theorem v_glb : evE C (.glb x) τ S = kGlb (C.glob x) S := rfl
theorem v_bin : evE C (.bin q a b) τ S = (evE C a τ S).bind (kBin C q b τ) := rfl
theorem v_neg : evE C (.neg a) τ S = (evE C a τ S).bind kNeg := rfl
theorem v_nott : evE C (.nott a) τ S = (evE C a τ S).bind kNot := rfl
theorem v_bo : evE C (.bo w as) τ S = evBV C w as τ S := rfl
theorem v_cmp : evE C (.cmp o a b) τ S = (evE C a τ S).bind (kCmp C o b τ) := rfl
theorem v_tup : evE C (.tup as) τ S = (evA C as τ S).bind kTup := rfl
theorem v_lst : evE C (.lst as) τ S = (evA C as τ S).bind kLst := rfl
theorem v_idx : evE C (.idx a b) τ S = (evE C a τ S).bind (kIdx C b τ) := rfl
theorem v_sli : evE C (.sli a lo hi) τ S = (evE C a τ S).bind (kSli C lo hi τ) := rfl
theorem v_call : evE C (.call f as) τ S = (evA C as τ S).bind (C.call f) := rfl
theorem v_prim : evE C (.prim pr as) τ S = (evA C as τ S).bind (primD pr) := rfl
theorem v_isi : evE C (.isi a t) τ S = (evE C a τ S).bind (kIsi t) := rfl
theorem v_meth : evE C (.meth me a as) τ S = (evE C a τ S).bind (kMeth C me as τ) := rfl
theorem v_comp : evE C (.comp N k keep tg it cd el) τ S = (evI C it τ S).bind (kComp C k keep tg cd el τ) := rfl
theorem v_dnil : evE C .dnil τ S = .ok (.loc S.length) (S ++ [.dct []]) := rfl
theorem v_dlit : evE C (.dlit a b) τ S = (evE C a τ (S ++ [.dct []])).bind (kDl C b S.length τ) := rfl
theorem v_fld : evE C (.fld x f a) τ S = (evE C a τ S).bind (kFld x f) := rfl
theorem v_mcl : evE C (.mcl x t f a as) τ S = (evE C a τ S).bind (kMcl C x t f as τ) := rfl
theorem v_new : evE C (.new x f) τ S = (C.call f [.loc S.length] (S ++ [.ins x []])).bind (kNew S.length) := rfl
theorem v_mink : evE C (.mink x t f c a b) τ S = (evE C a τ S).bind (kMk1 C x t f c b τ) := rfl
theorem v_enm : evI C (.enm a) τ S = (evE C a τ S).bind kEnm := rfl
theorem v_sfd : evS C (.sfd x f a b) τ S = (evE C b τ S).bind (kSfd C x f a τ) := rfl
theorem w_mcl : evT C (.mcl x t f a as) τ S = (evE C a τ S).bind (tMcl C x t f as τ) := rfl
theorem w_nott : evT C (.nott a) τ S = (evT C a τ S).bind tNotB := rfl
theorem w_bo : evT C (.bo w as) τ S = evBT C w as τ S := rfl
theorem w_cmp : evT C (.cmp o a b) τ S = (evE C a τ S).bind (tCmp' C o b τ) := rfl
theorem w_var : evT C (.var i) τ S = tVar' τ[i]? S := rfl
theorem w_idx : evT C (.idx a b) τ S = (evE C a τ S).bind (tIdx C b τ) := rfl
theorem w_call : evT C (.call f as) τ S = (evA C as τ S).bind (tCal C f) := rfl
theorem w_prim : evT C (.prim pr as) τ S = (evA C as τ S).bind (tPri pr) := rfl
theorem w_isi : evT C (.isi a t) τ S = (evE C a τ S).bind (tIsi t) := rfl
theorem v_bv1 : evBV C w (.cns a .nul) τ S = evE C a τ S := rfl
theorem v_bv2 : evBV C w (.cns a (.cns b r)) τ S = (evE C a τ S).bind (kBV C w (.cns b r) τ) := rfl
theorem v_bt1 : evBT C w (.cns a .nul) τ S = evT C a τ S := rfl
theorem v_bt2 : evBT C w (.cns a (.cns b r)) τ S = (evT C a τ S).bind (kBT C w (.cns b r) τ) := rfl
theorem v_c0 : evC C .nul τ S = .ok true S := rfl
theorem v_c1 : evC C (.cns c .nul) τ S = evT C c τ S := rfl
theorem v_a0 : evA C .nul τ S = .ok [] S := rfl
theorem v_a1 : evA C (.cns a b) τ S = (evE C a τ S).bind (kArg C b τ) := rfl
theorem v_o0 : evO C .nul τ S = .ok none S := rfl
theorem v_o1 : evO C (.cns a .nul) τ S = (evE C a τ S).bind kOpt := rfl
theorem v_seq : evI C (.cns a .nul) τ S = (evE C a τ S).bind kSeq := rfl
theorem v_tvar : evG C (.tvar i) d τ S = if i < τ.length then .ok (τ.set i (some d)) S else .bad := rfl
theorem v_ttup : evG C (.ttup ts) (.tup ds) τ S = evGs C ts ds τ S := rfl
theorem v_tsub : evG C (.tsub a b) d τ S = (evE C a τ S).bind (kSub C b d τ) := rfl
theorem v_gs0 : evGs C .nul [] τ S = .ok τ S := rfl
theorem v_gs1 : evGs C (.cns t' ts) (d :: ds) τ S = (evG C t' d τ S).bind (evGs C ts ds) := rfl
theorem v_revl : evE C (.revl a) τ S = (evE C a τ S).bind kRev := rfl
theorem v_asg : evS C (.asg t' e) τ S = (evE C e τ S).bind (kAsg C t' τ) := rfl
theorem v_ifs : evS C (.ifs c a b) τ S = (evT C c τ S).bind (kIfs C a b τ) := rfl
theorem v_ifx : evS C (.ifx c a b) τ S = (evT C c τ S).kl.bind (kIfs C a b τ) := rfl
theorem v_rsx {x : String} : evS C (.rsx x) τ S = .err x τ S := rfl
theorem v_rtk : evS C (.rtk e) τ S = (evE C e τ S).kl.bind kRet := rfl
theorem v_asx {i : Nat} {f : String} {a : M} : evS C (.asx i f a) τ S = (evE C a τ S).kl.bind (kAsx C i f τ) := rfl
theorem v_tri {b : M} {x : String} {n j : Nat} {ts : List String} {tab : List (String × List Bool)} : evS C (.tri b x n j ts tab) τ S = triD n j tab (evB C b τ S) := rfl
theorem v_kls {s : M} : evS C (.kls s) τ S = (evS C s τ S).kl := rfl
theorem v_exx : evS C (.exx e) τ S = ((evE C e τ S).at τ).bind (kExp τ) := rfl
theorem v_asq {i : Nat} : evS C (.asq i e) τ S = ((evE C e τ S).at τ).bind (kAsx2 i τ) := rfl
theorem v_rtx : evS C (.rtx e) τ S = ((evE C e τ S).at τ).bind kRet := rfl
theorem v_whx : evS C (.whx c b) τ S = whlL (fun τ S => (evT C c τ S).at τ) (evB C b) C.W τ S := rfl
theorem v_ret : evS C (.ret e) τ S = (evE C e τ S).bind kRet := rfl
theorem v_exp : evS C (.exp e) τ S = (evE C e τ S).bind (kExp τ) := rfl
theorem v_for : evS C (.forr t' it b) τ S = (evI C it τ S).bind (kFor C t' b τ) := rfl
theorem v_whl : evS C (.whl c b) τ S = whlL (evT C c) (evB C b) C.W τ S := rfl
theorem v_b0 : evB C .nul τ S = .ok (.nx τ) S := rfl
theorem v_b1 : evB C (.cns s r) τ S = (evS C s τ S).bind (kB C r) := rfl
noncomputable def kEl1 (y : D) (S : Store) : Res (Option D) := .ok (some y) S
noncomputable def kEl (C : Pr) (el : M) (τ : En) (b : Bool) (S : Store) : Res (Option D) := if b then (evE C el τ S).bind kEl1 else .ok none S
noncomputable def kCd (C : Pr) (cd el : M) (τ : En) (S : Store) : Res (Option D) := (evC C cd τ S).bind (kEl C el τ)
theorem kFor_none {t b : M} {P : Fl → Store → Prop} (I : Nat → En → Store → Prop) (h0 : I 0 τ S) (hturn : ∀ i d τ S, ds[i]? = some d → I i τ S → Sat (turnF C t b d τ S) fun fl S1 => match fl with | .nx τ1 => I (i + 1) τ1 S1 | .ct τ1 => I (i + 1) τ1 S1 | .bk τ1 => P (.nx τ1) S1 | .rt d => P (.rt d) S1)
    (hend : ∀ τ S, I ds.length τ S → P (.nx τ) S) : Sat (kFor C t b τ (none, ds) S) P := forL_none I hend hturn _ 0 τ S (by simp) h0
theorem kFor_some {t b : M} {l : Nat} {P : Fl → Store → Prop} (I : Nat → En → Store → Prop) (h0 : I 0 τ S) (hst : ∀ i τ S, I i τ S → S[l]? = some (.lst ds)) (hturn : ∀ i d τ S, ds[i]? = some d → I i τ S → Sat (turnF C t b d τ S) fun fl S1 => match fl with | .nx τ1 => I (i + 1) τ1 S1 | .ct τ1 => I (i + 1) τ1 S1 | .bk τ1 => P (.nx τ1) S1 | .rt d => P (.rt d) S1)
    (hend : ∀ τ S, I ds.length τ S → P (.nx τ) S) : Sat (kFor C t b τ (some (l, .lst), ds) S) P := forL_some I hst hend hturn _ 0 τ S (by simp) h0
end
end Mi

namespace Mi
open PySem L2
theorem Sat.p0 {α0 : Type} {r : Res α0} {Q P : α0 → Store → Prop} (h : Sat r Q) (k : ∀ a S, Q a S → Sat (.ok a S) P) : Sat r P := by
  obtain ⟨a, S, e, h⟩ := h
  rw [e]
  exact k a S h
theorem Sat.p1 {α0 α1 : Type} {r : Res α0} {f1 : α0 → Store → Res α1} {Q : α0 → Store → Prop} {P : α1 → Store → Prop} (h : Sat r Q) (k : ∀ a S, Q a S → Sat (((.ok a S : Res α0)).bind f1) P) : Sat ((r).bind f1) P := by
  obtain ⟨a, S, e, h⟩ := h
  rw [e]
  exact k a S h
theorem Sat.p2 {α0 α1 α2 : Type} {r : Res α0} {f1 : α0 → Store → Res α1} {f2 : α1 → Store → Res α2} {Q : α0 → Store → Prop} {P : α2 → Store → Prop} (h : Sat r Q) (k : ∀ a S, Q a S → Sat ((((.ok a S : Res α0)).bind f1).bind f2) P) : Sat (((r).bind f1).bind f2) P := by
  obtain ⟨a, S, e, h⟩ := h
  rw [e]
  exact k a S h
theorem Sat.p3 {α0 α1 α2 α3 : Type} {r : Res α0} {f1 : α0 → Store → Res α1} {f2 : α1 → Store → Res α2} {f3 : α2 → Store → Res α3} {Q : α0 → Store → Prop} {P : α3 → Store → Prop} (h : Sat r Q) (k : ∀ a S, Q a S → Sat (((((.ok a S : Res α0)).bind f1).bind f2).bind f3) P) : Sat ((((r).bind f1).bind f2).bind f3) P := by
  obtain ⟨a, S, e, h⟩ := h
  rw [e]
  exact k a S h
theorem Sat.p4 {α0 α1 α2 α3 α4 : Type} {r : Res α0} {f1 : α0 → Store → Res α1} {f2 : α1 → Store → Res α2} {f3 : α2 → Store → Res α3} {f4 : α3 → Store → Res α4} {Q : α0 → Store → Prop} {P : α4 → Store → Prop} (h : Sat r Q) (k : ∀ a S, Q a S → Sat ((((((.ok a S : Res α0)).bind f1).bind f2).bind f3).bind f4) P) : Sat (((((r).bind f1).bind f2).bind f3).bind f4) P := by
  obtain ⟨a, S, e, h⟩ := h
  rw [e]
  exact k a S h
theorem Sat.p5 {α0 α1 α2 α3 α4 α5 : Type} {r : Res α0} {f1 : α0 → Store → Res α1} {f2 : α1 → Store → Res α2} {f3 : α2 → Store → Res α3} {f4 : α3 → Store → Res α4} {f5 : α4 → Store → Res α5} {Q : α0 → Store → Prop} {P : α5 → Store → Prop} (h : Sat r Q) (k : ∀ a S, Q a S → Sat (((((((.ok a S : Res α0)).bind f1).bind f2).bind f3).bind f4).bind f5) P) : Sat ((((((r).bind f1).bind f2).bind f3).bind f4).bind f5) P := by
  obtain ⟨a, S, e, h⟩ := h
  rw [e]
  exact k a S h
theorem Sat.p6 {α0 α1 α2 α3 α4 α5 α6 : Type} {r : Res α0} {f1 : α0 → Store → Res α1} {f2 : α1 → Store → Res α2} {f3 : α2 → Store → Res α3} {f4 : α3 → Store → Res α4} {f5 : α4 → Store → Res α5} {f6 : α5 → Store → Res α6} {Q : α0 → Store → Prop} {P : α6 → Store → Prop} (h : Sat r Q) (k : ∀ a S, Q a S → Sat ((((((((.ok a S : Res α0)).bind f1).bind f2).bind f3).bind f4).bind f5).bind f6) P) : Sat (((((((r).bind f1).bind f2).bind f3).bind f4).bind f5).bind f6) P := by
  obtain ⟨a, S, e, h⟩ := h
  rw [e]
  exact k a S h
theorem Sat.p7 {α0 α1 α2 α3 α4 α5 α6 α7 : Type} {r : Res α0} {f1 : α0 → Store → Res α1} {f2 : α1 → Store → Res α2} {f3 : α2 → Store → Res α3} {f4 : α3 → Store → Res α4} {f5 : α4 → Store → Res α5} {f6 : α5 → Store → Res α6} {f7 : α6 → Store → Res α7} {Q : α0 → Store → Prop} {P : α7 → Store → Prop} (h : Sat r Q) (k : ∀ a S, Q a S → Sat (((((((((.ok a S : Res α0)).bind f1).bind f2).bind f3).bind f4).bind f5).bind f6).bind f7) P) : Sat ((((((((r).bind f1).bind f2).bind f3).bind f4).bind f5).bind f6).bind f7) P := by
  obtain ⟨a, S, e, h⟩ := h
  rw [e]
  exact k a S h
theorem Sat.p8 {α0 α1 α2 α3 α4 α5 α6 α7 α8 : Type} {r : Res α0} {f1 : α0 → Store → Res α1} {f2 : α1 → Store → Res α2} {f3 : α2 → Store → Res α3} {f4 : α3 → Store → Res α4} {f5 : α4 → Store → Res α5} {f6 : α5 → Store → Res α6} {f7 : α6 → Store → Res α7} {f8 : α7 → Store → Res α8} {Q : α0 → Store → Prop} {P : α8 → Store → Prop} (h : Sat r Q) (k : ∀ a S, Q a S → Sat ((((((((((.ok a S : Res α0)).bind f1).bind f2).bind f3).bind f4).bind f5).bind f6).bind f7).bind f8) P) : Sat (((((((((r).bind f1).bind f2).bind f3).bind f4).bind f5).bind f6).bind f7).bind f8) P := by
  obtain ⟨a, S, e, h⟩ := h
  rw [e]
  exact k a S h
theorem Sat.p9 {α0 α1 α2 α3 α4 α5 α6 α7 α8 α9 : Type} {r : Res α0} {f1 : α0 → Store → Res α1} {f2 : α1 → Store → Res α2} {f3 : α2 → Store → Res α3} {f4 : α3 → Store → Res α4} {f5 : α4 → Store → Res α5} {f6 : α5 → Store → Res α6} {f7 : α6 → Store → Res α7} {f8 : α7 → Store → Res α8} {f9 : α8 → Store → Res α9} {Q : α0 → Store → Prop} {P : α9 → Store → Prop} (h : Sat r Q) (k : ∀ a S, Q a S → Sat (((((((((((.ok a S : Res α0)).bind f1).bind f2).bind f3).bind f4).bind f5).bind f6).bind f7).bind f8).bind f9) P) : Sat ((((((((((r).bind f1).bind f2).bind f3).bind f4).bind f5).bind f6).bind f7).bind f8).bind f9) P := by
  obtain ⟨a, S, e, h⟩ := h
  rw [e]
  exact k a S h
theorem Sat.p10 {α0 α1 α2 α3 α4 α5 α6 α7 α8 α9 α10 : Type} {r : Res α0} {f1 : α0 → Store → Res α1} {f2 : α1 → Store → Res α2} {f3 : α2 → Store → Res α3} {f4 : α3 → Store → Res α4} {f5 : α4 → Store → Res α5} {f6 : α5 → Store → Res α6} {f7 : α6 → Store → Res α7} {f8 : α7 → Store → Res α8} {f9 : α8 → Store → Res α9} {f10 : α9 → Store → Res α10} {Q : α0 → Store → Prop} {P : α10 → Store → Prop} (h : Sat r Q) (k : ∀ a S, Q a S → Sat ((((((((((((.ok a S : Res α0)).bind f1).bind f2).bind f3).bind f4).bind f5).bind f6).bind f7).bind f8).bind f9).bind f10) P) : Sat (((((((((((r).bind f1).bind f2).bind f3).bind f4).bind f5).bind f6).bind f7).bind f8).bind f9).bind f10) P := by
  obtain ⟨a, S, e, h⟩ := h
  rw [e]
  exact k a S h
noncomputable def Ext (S S' : Store) : Prop := ∃ X, S' = S ++ X
theorem Ext.refl (S : Store) : Ext S S := ⟨[], by simp⟩
theorem Ext.trans {S S1 S2 : Store} (a : Ext S S1) (b : Ext S1 S2) : Ext S S2 := by
  obtain ⟨X, rfl⟩ := a
  obtain ⟨Y, rfl⟩ := b
  exact ⟨X ++ Y, by rw [List.append_assoc]⟩
theorem Ext.new (S X : Store) : Ext S (S ++ X) := ⟨X, rfl⟩
theorem Ext.more {S S1 : Store} (a : Ext S S1) (X : Store) : Ext S (S1 ++ X) := a.trans (.new _ _)
theorem Ext.get {S S' : Store} {l : Nat} {o : Obj} (e : Ext S S') (h : S[l]? = some o) : S'[l]? = some o := by
  obtain ⟨X, rfl⟩ := e
  exact old_get h
theorem Ext.len {S S' : Store} (e : Ext S S') : S.length ≤ S'.length := by
  obtain ⟨X, rfl⟩ := e
  simp
theorem Ext.set {S S' : Store} (e : Ext S S') {l : Nat} (h : S.length ≤ l) (o : Obj) : Ext S (S'.set l o) := by
  obtain ⟨X, rfl⟩ := e
  refine ⟨X.set (l - S.length) o, ?_⟩
  rw [List.set_append_right _ _ h]
theorem get_lt {S : Store} {l : Nat} {o : Obj} (h : S[l]? = some o) : l < S.length := (List.getElem?_eq_some_iff.mp h).1
theorem set_get {S : Store} {l : Nat} {o o' : Obj} (h : S[l]? = some o) : (S.set l o')[l]? = some o' := List.getElem?_set_self (get_lt h)
noncomputable def Lsts (S S' : Store) : Prop := ∀ (l : Nat) (ds : List D), S[l]? = some (.lst ds) → ∃ es, S'[l]? = some (.lst es)
theorem Lsts.ext {S S' : Store} (e : Ext S S') : Lsts S S' := fun l ds h => ⟨ds, e.get h⟩
theorem Lsts.trans {S S1 S2 : Store} (a : Lsts S S1) (b : Lsts S1 S2) : Lsts S S2 := fun l ds h => let ⟨_, h1⟩ := a l ds h; b l _ h1
theorem Lsts.set {S : Store} (l : Nat) (es : List D) : Lsts S (S.set l (.lst es)) := fun k ds h => by
  by_cases e : l = k
  · subst e; exact ⟨es, set_get h⟩
  · exact ⟨ds, by rw [List.getElem?_set_ne e]; exact h⟩
section
variable {S : Store} {ds : List D} {i : Int} {l : Nat}
@[simp] theorem kIdx2_t0 {a : D} : kIdx2 (.tup (a :: ds)) (.int 0) S = .ok a S := by
  have e : atI (a :: ds) (0 : Int) = some a := by
    simp only [atI, ixN, List.length_cons]
    rw [if_pos (by decide), if_pos (by omega)]
    rfl
  simp only [kIdx2, idx_tup e]
@[simp] theorem kIdx2_t1 {a b : D} : kIdx2 (.tup (a :: b :: ds)) (.int 1) S = .ok b S := by
  have e : atI (a :: b :: ds) (1 : Int) = some b := by
    simp only [atI, ixN, List.length_cons]
    rw [if_pos (by decide), if_pos (by omega)]
    rfl
  simp only [kIdx2, idx_tup e]
@[simp] theorem kIdx2_t2 {a b c : D} : kIdx2 (.tup (a :: b :: c :: ds)) (.int 2) S = .ok c S := by
  have e : atI (a :: b :: c :: ds) (2 : Int) = some c := by
    simp only [atI, ixN, List.length_cons]
    rw [if_pos (by decide), if_pos (by omega)]
    rfl
  simp only [kIdx2, idx_tup e]
end
noncomputable def noB : En → Store → Prop := fun _ _ => False
noncomputable def noR : D → Store → Prop := fun _ _ => False
noncomputable def FlP (I B : En → Store → Prop) (R : D → Store → Prop) (fl : Fl) (S : Store) : Prop := match fl with
  | .nx τ => I τ S
  | .ct τ => I τ S
  | .bk τ => B τ S
  | .rt d => R d S
noncomputable def OutP (I B : En → Store → Prop) (R : D → Store → Prop) (fl : Fl) (S : Store) : Prop := match fl with
  | .nx τ => I τ S ∨ B τ S
  | .rt d => R d S
  | _ => False
section
variable {I B : En → Store → Prop} {R : D → Store → Prop} {fl : Fl} {S : Store} {τ : En} {d : D}
@[simp] theorem FlP_nx : FlP I B R (.nx τ) S ↔ I τ S := Iff.rfl
@[simp] theorem FlP_ct : FlP I B R (.ct τ) S ↔ I τ S := Iff.rfl
@[simp] theorem FlP_bk : FlP I B R (.bk τ) S ↔ B τ S := Iff.rfl
@[simp] theorem FlP_rt : FlP I B R (.rt d) S ↔ R d S := Iff.rfl
theorem OutP.nx (h : OutP I noB noR fl S) : ∃ τ, fl = .nx τ ∧ I τ S := by
  cases fl with
  | nx τ => exact ⟨τ, rfl, h.elim id False.elim⟩
  | _ => exact False.elim h
end
section
variable {C : Pr} {t b c : M} {ds : List D} {S : Store} {τ : En} {B : En → Store → Prop} {R : D → Store → Prop}
theorem loop (I : Nat → En → Store → Prop) (B : En → Store → Prop) (R : D → Store → Prop) (h0 : I 0 τ S) (hturn : ∀ i d τ S, ds[i]? = some d → I i τ S → Sat (turnF C t b d τ S) (FlP (I (i + 1)) B R)) : Sat (kFor C t b τ (none, ds) S) (OutP (I ds.length) B R) :=
  kFor_none I h0 (fun i d τ S e h => (hturn i d τ S e h).mono fun fl S1 q => by
    cases fl with
    | nx τ1 => exact q
    | ct τ1 => exact q
    | bk τ1 => exact .inr q
    | rt d => exact q) fun τ S h => .inl h
theorem loopS {l : Nat} (I : Nat → En → Store → Prop) (B : En → Store → Prop) (R : D → Store → Prop) (h0 : I 0 τ S) (hst : ∀ i τ S, I i τ S → S[l]? = some (.lst ds)) (hturn : ∀ i d τ S, ds[i]? = some d → I i τ S → Sat (turnF C t b d τ S) (FlP (I (i + 1)) B R)) : Sat (kFor C t b τ (some (l, .lst), ds) S) (OutP (I ds.length) B R) :=
  kFor_some I h0 hst (fun i d τ S e h => (hturn i d τ S e h).mono fun fl S1 q => by
    cases fl with
    | nx τ1 => exact q
    | ct τ1 => exact q
    | bk τ1 => exact .inr q
    | rt d => exact q) fun τ S h => .inl h
theorem loopW (I : En → Store → Prop) (μ : En → Store → Nat) (B : En → Store → Prop) (R : D → Store → Prop) (Z : En → Store → Prop)
    (hturn : ∀ τ S, I τ S → Sat (evT C c τ S) fun k S1 => if k then Sat (evB C b τ S1) (FlP (fun τ2 S2 => I τ2 S2 ∧ μ τ2 S2 < μ τ S) B R) else Z τ S1) :
    ∀ (n : Nat) (τ : En) (S : Store), I τ S → μ τ S < n → Sat (whlL (evT C c) (evB C b) n τ S) (OutP Z B R) := by
  intro n
  induction n with
  | zero => intro τ S h hm; exact absurd hm (Nat.not_lt_zero _)
  | succ n ih =>
    intro τ S h hm
    simp only [whlL]
    refine .bind ((hturn τ S h).mono fun k S1 q => ?_)
    cases k with
    | false => exact .ok (.inl q)
    | true =>
      rw [if_pos rfl] at q ⊢
      refine .bind (q.mono fun fl S2 q => ?_)
      cases fl with
      | nx τ2 => exact ih τ2 S2 q.1 (Nat.lt_of_lt_of_le q.2 (Nat.le_of_lt_succ hm))
      | ct τ2 => exact ih τ2 S2 q.1 (Nat.lt_of_lt_of_le q.2 (Nat.le_of_lt_succ hm))
      | bk τ2 => exact .ok (.inr q)
      | rt d => exact .ok q
end
@[simp] theorem tru_bl {S : Store} {b : Bool} : tru S (.bl b) = some b := rfl
@[simp] theorem tru_int {S : Store} {i : Int} : tru S (.int i) = some (i != 0) := rfl
@[simp] theorem tru_non {S : Store} : tru S .non = some false := rfl
@[simp] theorem tru_tup {S : Store} {ds : List D} : tru S (.tup ds) = some (!ds.isEmpty) := rfl
@[simp] theorem ofString_inj {a b : String} : Str.ofString a = Str.ofString b ↔ a = b := by
  constructor
  · intro h
    rw [Str.ofString_eq_toList, Str.ofString_eq_toList] at h
    have h1 : a.toList.map Char.toNat = b.toList.map Char.toNat := by
      injection h with h
      have := congrArg Array.toList h
      simpa using this
    have h2 : a.toList = b.toList := (List.map_inj_right (fun x y e => Char.ext (UInt32.toNat_inj.mp e))).mp h1
    exact String.toList_inj.mp h2
  · rintro rfl; rfl
theorem atI_last {α : Type} {xs : List α} {x : α} : atI (xs ++ [x]) (-1) = some x := by
  have h1 : ¬ (0 : Int) ≤ -1 := by decide
  have h2 : -(((xs ++ [x]).length : Nat) : Int) ≤ -1 := by simp; omega
  simp only [atI, ixN, if_neg h1, if_pos h2, Option.bind_some]
  have : (-1 + (((xs ++ [x]).length : Nat) : Int)).toNat = xs.length := by simp; omega
  rw [this]
  simp
section
variable {S : Store} {l : Nat} {ds : List D} {d : D}
theorem kIdx_loc {i : Int} (h : S[l]? = some (.lst ds)) (e : atI ds i = some d) : kIdx2 (.loc l) (.int i) S = .ok d S := by simp only [kIdx2, idx_loc h e]
end
@[simp] theorem ofString_beq {a b : String} : (Str.ofString a == Str.ofString b) = (a == b) := by
  rw [Bool.eq_iff_iff]
  simp
noncomputable def Keep (ps : List Nat) (S S' : Store) : Prop := S.length ≤ S'.length ∧ ∀ l : Nat, l < S.length → l ∉ ps → S'[l]? = S[l]?
section
variable {S S1 S2 B : Store} {ps : List Nat}
theorem Keep.refl : Keep ps S S := ⟨Nat.le_refl _, fun _ _ _ => rfl⟩
theorem Keep.trans (a : Keep ps S S1) (b : Keep ps S1 S2) : Keep ps S S2 := ⟨Nat.le_trans a.1 b.1, fun l h n => (b.2 l (Nat.lt_of_lt_of_le h a.1) n).trans (a.2 l h n)⟩
theorem Keep.get {l : Nat} {o : Mi.Obj} (a : Keep ps S S1) (h : S[l]? = some o) (n : l ∉ ps) : S1[l]? = some o := (a.2 l (get_lt h) n).trans h
theorem Keep.ext (e : Ext S S1) : Keep ps S S1 := ⟨e.len, fun l h n => by
  rw [List.getElem?_eq_getElem h]
  exact e.get (List.getElem?_eq_getElem h)⟩
theorem Keep.new (X : Store) : Keep ps S (S ++ X) := .ext (.new _ _)
theorem Keep.set {p : Nat} {o : Mi.Obj} (h : p ∈ ps) : Keep ps S (S.set p o) := ⟨by simp, fun l hl n => by
  rw [List.getElem?_set_ne]
  rintro rfl
  exact n h⟩
theorem Keep.mono {qs : List Nat} (a : Keep ps S S1) (h : ∀ p ∈ ps, p ∈ qs) : Keep qs S S1 := ⟨a.1, fun l hl n => a.2 l hl fun z => n (h l z)⟩
theorem Ext.keep (e : Ext B S) (k : Keep ps S S1) (h : ∀ p ∈ ps, B.length ≤ p) : Ext B S1 := by
  refine ⟨S1.drop B.length, ?_⟩
  have : B = S1.take B.length := by
    refine List.ext_getElem? fun i => ?_
    by_cases hi : i < B.length
    · rw [List.getElem?_take_of_lt hi]
      have h1 := e.get (List.getElem?_eq_getElem hi)
      rw [List.getElem?_eq_getElem hi]
      exact (k.get h1 fun z => absurd (h i z) (by omega)).symm
    · rw [List.getElem?_eq_none (by omega), List.getElem?_eq_none (by rw [List.length_take]; omega)]
  calc S1 = S1.take B.length ++ S1.drop B.length := (List.take_append_drop _ _).symm
    _ = B ++ S1.drop B.length := by rw [← this]
end
theorem sliD_loc {S : Store} {l : Nat} {ds : List D} {lo hi : Option Int} (h : S[l]? = some (.lst ds)) : sliD (.loc l) lo hi S = .ok (.loc S.length) (S ++ [.lst (cutD ds lo hi)]) := by simp only [sliD, seqAt, h]
theorem cut_from {ds : List D} {i : Int} (h0 : 0 ≤ i) : cutD ds (some i) none = ds.drop i.toNat := by
  simp only [cutD, HT.sIx]
  rw [if_neg (by omega)]
  by_cases h : i.toNat ≤ ds.length
  · rw [show min i.toNat ds.length = i.toNat by omega]
    rw [List.take_of_length_le (by rw [List.length_drop]; omega)]
  · rw [List.drop_eq_nil_of_le (by omega : ds.length ≤ i.toNat), List.drop_eq_nil_of_le (by omega), List.take_nil]
theorem cut_to {ds : List D} {i : Int} (h0 : 0 ≤ i) : cutD ds none (some i) = ds.take i.toNat := by
  simp only [cutD, HT.sIx]
  rw [if_neg (by omega)]
  simp only [List.drop_zero, Nat.sub_zero]
  by_cases h : i.toNat ≤ ds.length
  · rw [show min i.toNat ds.length = i.toNat by omega]
  · rw [show min i.toNat ds.length = ds.length by omega, List.take_of_length_le (Nat.le_refl _), List.take_of_length_le (by omega)]
theorem kComp_of {α : Type} {C : Pr} {k : Nat} {keep : List Nat} {tg cd el : M} {τ : En} {S : Store} {g : Wk} {xs : List α} (h : α → D) (f : α → D) (hl : xs.length ≤ 1000000) (hg : g = none ∨ ∃ l, g = some (l, .lst) ∧ S[l]? = some (.lst (xs.map h)))
    (ht : ∀ x ∈ xs, turnC C tg cd el (h x) (inEn k keep τ) S = .ok (some (f x)) S) : kComp C k keep tg cd el τ (g, xs.map h) S = .ok (.loc S.length) (S ++ [.lst (xs.map f)]) := by
  have main : Sat (compL (turnC C tg cd el) g (xs.map h) (xs.map h).length 0 (inEn k keep τ) S []) fun ys S1 => ys = xs.map f ∧ S1 = S := by
    have len : ∀ (i : Nat) (acc : List D) (S1 : Store), (acc = (xs.take i).map f ∧ S1 = S ∧ i ≤ xs.length) → acc.length ≤ i := fun i acc S1 h => by
      rw [h.1, List.length_map, List.length_take]; omega
    have tn : ∀ (i : Nat) (d : D) (acc : List D) (S1 : Store), (xs.map h)[i]? = some d → (acc = (xs.take i).map f ∧ S1 = S ∧ i ≤ xs.length) → Sat (turnC C tg cd el d (inEn k keep τ) S1) fun o S1 => match o with | some y => (acc ++ [y] = (xs.take (i + 1)).map f ∧ S1 = S ∧ i + 1 ≤ xs.length) | none => (acc = (xs.take (i + 1)).map f ∧ S1 = S ∧ i + 1 ≤ xs.length) := by
      rintro i d acc S1 hd ⟨rfl, rfl, hi⟩
      rw [List.getElem?_map] at hd
      obtain ⟨x, hx, rfl⟩ := Option.map_eq_some_iff.mp hd
      rw [ht x (List.mem_of_getElem? hx)]
      refine .ok ⟨?_, rfl, (List.getElem?_eq_some_iff.mp hx).1⟩
      rw [List.take_add_one, hx, List.map_append]
      rfl
    have hln : (xs.map h).length ≤ Line := by rw [List.length_map]; exact line_big hl
    rcases hg with rfl | ⟨l, rfl, hs⟩
    · exact compL_none (fun i acc S1 => acc = (xs.take i).map f ∧ S1 = S ∧ i ≤ xs.length) hln len (fun acc S1 h => by rw [List.length_map, List.take_length] at h; exact ⟨h.1, h.2.1⟩) tn _ 0 [] S (by omega) ⟨by simp, rfl, by omega⟩
    · exact compL_some (fun i acc S1 => acc = (xs.take i).map f ∧ S1 = S ∧ i ≤ xs.length) hln (fun i acc S1 h => ⟨len i acc S1 h, by rw [h.2.1]; exact hs⟩) (fun acc S1 h => by rw [List.length_map, List.take_length] at h; exact ⟨h.1, h.2.1⟩) tn _ 0 [] S (by omega) ⟨by simp, rfl, by omega⟩
  obtain ⟨ys, S1, e, rfl, rfl⟩ := main
  simp only [kComp, e, Res.bind_ok, kComp1]
noncomputable def dropS : Nat → M → M
  | 0, m => m
  | n + 1, .cns _ r => dropS n r
  | _, m => m
end Mi

namespace Mi
open PySem L2
section
variable {S : Store} {l : Nat} {kvs : List (Int × D)} {fs : List (String × D)} {c f m : String} {x : Int} {d : D} {ds : List D}
theorem seqAt_dct (h : S[l]? = some (.dct kvs)) : seqAt S l = none := by unfold seqAt; rw [h]
theorem dctAt_of (h : S[l]? = some (.dct kvs)) : dctAt S l = some kvs := by unfold dctAt; rw [h]
theorem dRd_of (h : S[l]? = some (.dct kvs)) : dRd S l = some kvs := by unfold dRd; rw [h]
theorem insAt_of (h : S[l]? = some (.ins c fs)) : insAt S l c = some fs := by unfold insAt; rw [h]; simp
theorem seqAt_of (h : S[l]? = some (.lst ds)) : seqAt S l = some ds := by unfold seqAt; rw [h]
theorem rcv_loc (h : S[l]? = some (.lst ds)) : rcv S (.loc l) = true := by simp only [rcv, seqAt_of h, Option.isSome_some]
theorem kFld_of (h : S[l]? = some (.ins c fs)) (e : fs.lookup f = some d) : kFld c f (.loc l) S = .ok d S := by simp only [kFld, fldAt, insAt_of h, e]
theorem isRec_of (h : S[l]? = some (.ins c fs)) (e : fs.lookup m = none) : isRec S (.loc l) c m = true := by simp only [isRec, insAt_of h, e, Option.isNone_none]
theorem cop_in (h : S[l]? = some (.dct kvs)) : cop .inn (.int x) (.loc l) S = some (dVal kvs x).isSome := by simp only [cop, seqOf, seqAt_dct h, dIn, dRd_of h]
theorem kIdx_dct (h : S[l]? = some (.dct kvs)) (e : dVal kvs x = some d) : kIdx2 (.loc l) (.int x) S = .ok d S := by simp only [kIdx2, idxD, seqOf, seqAt_dct h, dRd_of h, e]
theorem setS_dct {v : D} (h : S[l]? = some (.dct kvs)) (hl : kvs.length < Line) : setS (.loc l) (.int x) v S = .ok () (S.set l (.dct (dPut kvs x v))) := by simp only [setS, h, if_pos hl]
theorem setF_of {v : D} (h : S[l]? = some (.ins c fs)) (hl : fs.length < 1000) : kSfd2 c f τ v (.loc l) S = .ok (.nx τ) (S.set l (.ins c (putD f v fs))) := by simp only [kSfd2, setF, insAt_of h, if_pos hl]
theorem list_dct (h : S[l]? = some (.dct kvs)) : primD .list1 [.loc l] S = .ok (.loc S.length) (S ++ [.lst (kvs.map fun p => .int p.1)]) := by simp only [rprimD_7, seqOf, seqAt_dct h, dctAt_of h]
theorem kEnm_of (h : S[l]? = some (.lst ds)) : kEnm (.loc l) S = .ok (some (l, .enm), ds) S := by simp only [kEnm, seqAt_of h]
end
end Mi

namespace Tr
noncomputable abbrev Nd := List (Int × Int × Int)
noncomputable def keys (r : Nd) : List Int := r.map (·.1)
noncomputable def Wf : Nd → Prop
  | [] => True
  | (n, a, _) :: r => n ≠ 0 ∧ n ∉ keys r ∧ (a = 0 ∨ a ∈ keys r) ∧ Wf r
noncomputable def anc : Nd → Int → List Int
  | [], _ => []
  | (n, a, _) :: r, x => if x = n then n :: anc r a else anc r x
noncomputable def ah : Nd → Int → Int
  | [], _ => 0
  | (n, a, _) :: r, x => if x = n then a else ah r x
noncomputable def wt : Nd → Int → Int
  | [], _ => 0
  | (n, a, w) :: r, x => if x = n then wt r a + w else wt r x
theorem anc_zero : ∀ {r : Nd}, Wf r → anc r 0 = []
  | [], _ => rfl
  | (n, a, w) :: r, h => by
    rw [anc, if_neg (fun z => h.1 z.symm)]
    exact anc_zero h.2.2.2
theorem ah_in : ∀ {r : Nd}, Wf r → ∀ x, ah r x = 0 ∨ ah r x ∈ keys r
  | [], _, x => .inl rfl
  | (n, a, w) :: r, h, x => by
    rw [ah]
    split
    · exact h.2.2.1.imp id fun z => List.mem_cons_of_mem _ z
    · exact (ah_in h.2.2.2 x).imp id fun z => List.mem_cons_of_mem _ z
noncomputable def mt (r : Nd) (a b : Int) : Int := ((anc r a).find? (fun y => decide (y ∈ anc r b))).getD 0
open Mi
noncomputable def stand : Nd → List (Int × D)
  | [] => [(0, .tup [.non, .int 0, .int 0])]
  | (n, a, w) :: r => stand r ++ [(n, .tup [.int a, .int ((anc r a).length + 1), .int (wt r a + w)])]
noncomputable def aheads : Nd → List (Int × D)
  | [] => [(0, .non)]
  | (n, a, _) :: r => aheads r ++ [(n, .int a)]
noncomputable def weights : Nd → List (Int × D)
  | [] => [(0, .int 0)]
  | (n, a, w) :: r => weights r ++ [(n, .int (wt r a + w))]
noncomputable def rows : Nd → List D
  | [] => []
  | (n, a, w) :: r => rows r ++ [.tup [.int n, .int a, .int w]]
theorem dVal_snoc {kvs : List (Int × D)} {n x : Int} {d : D} (hn : dVal kvs n = none) : dVal (kvs ++ [(n, d)]) x = if x = n then some d else dVal kvs x := by
  unfold dVal at *
  rw [List.find?_append]
  by_cases e : x = n
  · subst e
    rw [if_pos rfl]
    have : kvs.find? (fun p => decide (p.1 = x)) = none := by
      cases h : kvs.find? (fun p => decide (p.1 = x)) with
      | none => rfl
      | some p => rw [h] at hn; cases hn
    rw [this]
    simp
  · rw [if_neg e]
    have : ¬ n = x := fun z => e z.symm
    simp [List.find?_cons, this]
theorem dPut_new {kvs : List (Int × D)} {n : Int} {d : D} (hn : dVal kvs n = none) : dPut kvs n d = kvs ++ [(n, d)] := by
  unfold dPut
  rw [if_neg]
  intro h
  obtain ⟨p, hp, e⟩ := List.any_eq_true.mp h
  unfold dVal at hn
  cases q : kvs.find? (fun p => decide (p.1 = n)) with
  | none => exact (List.find?_eq_none.mp q p hp) e
  | some z => rw [q] at hn; cases hn
theorem stand_val : ∀ {r : Nd}, Wf r → ∀ x : Int, dVal (stand r) x = if x = 0 then some (.tup [.non, .int 0, .int 0]) else if x ∈ keys r then some (.tup [.int (ah r x), .int (anc r x).length, .int (wt r x)]) else none
  | [], _, x => by
    by_cases e : x = 0
    · subst e; rfl
    · have : ¬ 0 = x := fun z => e z.symm
      simp [stand, dVal, List.find?_cons, e, this, keys]
  | (n, a, w) :: r, h, x => by
    have ih := stand_val h.2.2.2
    have hn : dVal (stand r) n = none := by rw [ih n, if_neg h.1, if_neg h.2.1]
    rw [stand, dVal_snoc hn, ih x]
    by_cases e : x = n
    · subst e
      rw [if_pos rfl, if_neg h.1, if_pos (by simp [keys]), ah, if_pos rfl, anc, if_pos rfl, wt, if_pos rfl, List.length_cons]
      simp
    · rw [if_neg e, ah, if_neg e, anc, if_neg e, wt, if_neg e]
      have : (x ∈ keys ((n, a, w) :: r)) = (x ∈ keys r) := by simp [keys, e]
      simp only [this]
theorem aheads_val : ∀ {r : Nd}, Wf r → ∀ x : Int, dVal (aheads r) x = if x = 0 then some .non else if x ∈ keys r then some (.int (ah r x)) else none
  | [], _, x => by
    by_cases e : x = 0
    · subst e; rfl
    · have : ¬ 0 = x := fun z => e z.symm
      simp [aheads, dVal, List.find?_cons, e, this, keys]
  | (n, a, w) :: r, h, x => by
    have ih := aheads_val h.2.2.2
    have hn : dVal (aheads r) n = none := by rw [ih n, if_neg h.1, if_neg h.2.1]
    rw [aheads, dVal_snoc hn, ih x]
    by_cases e : x = n
    · subst e
      rw [if_pos rfl, if_neg h.1, if_pos (by simp [keys]), ah, if_pos rfl]
    · rw [if_neg e, ah, if_neg e]
      have : (x ∈ keys ((n, a, w) :: r)) = (x ∈ keys r) := by simp [keys, e]
      simp only [this]
theorem weights_val : ∀ {r : Nd}, Wf r → ∀ x : Int, dVal (weights r) x = if x = 0 then some (.int 0) else if x ∈ keys r then some (.int (wt r x)) else none
  | [], _, x => by
    by_cases e : x = 0
    · subst e; rfl
    · have : ¬ 0 = x := fun z => e z.symm
      simp [weights, dVal, List.find?_cons, e, this, keys]
  | (n, a, w) :: r, h, x => by
    have ih := weights_val h.2.2.2
    have hn : dVal (weights r) n = none := by rw [ih n, if_neg h.1, if_neg h.2.1]
    rw [weights, dVal_snoc hn, ih x]
    by_cases e : x = n
    · subst e
      rw [if_pos rfl, if_neg h.1, if_pos (by simp [keys]), wt, if_pos rfl]
    · rw [if_neg e, wt, if_neg e]
      have : (x ∈ keys ((n, a, w) :: r)) = (x ∈ keys r) := by simp [keys, e]
      simp only [this]
theorem stand_len : ∀ r : Nd, (stand r).length = r.length + 1
  | [] => rfl
  | (n, a, w) :: r => by rw [stand, List.length_append, stand_len r]; rfl
theorem aheads_len : ∀ r : Nd, (aheads r).length = r.length + 1
  | [] => rfl
  | (n, a, w) :: r => by rw [aheads, List.length_append, aheads_len r]; rfl
theorem weights_len : ∀ r : Nd, (weights r).length = r.length + 1
  | [] => rfl
  | (n, a, w) :: r => by rw [weights, List.length_append, weights_len r]; rfl
theorem rows_len : ∀ r : Nd, (rows r).length = r.length
  | [] => rfl
  | (n, a, w) :: r => by rw [rows, List.length_append, rows_len r]; rfl
theorem aheads_keys : ∀ r : Nd, (aheads r).map (fun p => D.int p.1) = ((0 : Int) :: (keys r).reverse).map D.int
  | [] => rfl
  | (n, a, w) :: r => by
    rw [aheads, List.map_append, aheads_keys r]
    simp [keys]
end Tr

namespace K32
open PySem L2 Mi
noncomputable def f_Tree___init__ : Fn := ⟨["self"], ["self"],
  (.cns (.sfd "Tree" "standing" (.var 0) (.dlit (.glb "ROOT") (.tup (.cns (.cst .non) (.cns (.cst (.int 0)) (.cns (.cst (.int 0)) .nul)))))) (.cns (.sfd "Tree" "heaviest" (.var 0) (.glb "ROOT")) .nul))⟩
noncomputable def f_Tree_check_place : Fn := ⟨["self", "number", "ahead"], ["self", "number", "ahead"],
  (.cns (.ifx (.mcl "Tree" "has" "Tree.has" (.var 0) (.cns (.var 1) .nul)) (.cns (.rsx "Known") .nul) .nul) (.cns (.ifx (.nott (.mcl "Tree" "has" "Tree.has" (.var 0) (.cns (.var 2) .nul))) (.cns (.rsx "NoAhead") .nul) .nul) .nul))⟩
noncomputable def f_Tree_add : Fn := ⟨["self", "number", "ahead", "weight"], ["self", "number", "ahead", "weight"],
  (.cns (.exx (.mcl "Tree" "check_place" "Tree.check_place" (.var 0) (.cns (.var 1) (.cns (.var 2) .nul)))) (.cns (.kls (.asg (.tsub (.fld "Tree" "standing" (.var 0)) (.var 1)) (.tup (.cns (.var 2) (.cns (.bin .add (.mcl "Tree" "height" "Tree.height" (.var 0) (.cns (.var 2) .nul)) (.cst (.int 1))) (.cns (.bin .add (.mcl "Tree" "weight" "Tree.weight" (.var 0) (.cns (.var 2) .nul)) (.var 3)) .nul)))))) (.cns (.kls (.sfd "Tree" "heaviest" (.var 0) (.mink "Tree" "rank" "Tree.rank" (.var 0) (.fld "Tree" "heaviest" (.var 0)) (.var 1)))) .nul)))⟩
noncomputable def f_Tree_rank : Fn := ⟨["self", "number"], ["self", "number"],
  (.cns (.rtk (.tup (.cns (.neg (.mcl "Tree" "weight" "Tree.weight" (.var 0) (.cns (.var 1) .nul))) (.cns (.var 1) .nul)))) .nul)⟩
noncomputable def f_Tree_has : Fn := ⟨["self", "number"], ["self", "number"],
  (.cns (.ret (.cmp .inn (.var 1) (.fld "Tree" "standing" (.var 0)))) .nul)⟩
noncomputable def f_Tree_nodes : Fn := ⟨["self"], ["self"],
  (.cns (.ret (.prim .list1 (.cns (.fld "Tree" "standing" (.var 0)) .nul))) .nul)⟩
noncomputable def f_Tree_told_of : Fn := ⟨["self", "number"], ["self", "number"],
  (.cns (.ifx (.nott (.mcl "Tree" "has" "Tree.has" (.var 0) (.cns (.var 1) .nul))) (.cns (.rsx "NoSuch") .nul) .nul) (.cns (.rtk (.idx (.fld "Tree" "standing" (.var 0)) (.var 1))) .nul))⟩
noncomputable def f_Tree_height : Fn := ⟨["self", "number"], ["self", "number"],
  (.cns (.rtx (.idx (.mcl "Tree" "told_of" "Tree.told_of" (.var 0) (.cns (.var 1) .nul)) (.glb "HEIGHT"))) .nul)⟩
noncomputable def f_Tree_weight : Fn := ⟨["self", "number"], ["self", "number"],
  (.cns (.rtx (.idx (.mcl "Tree" "told_of" "Tree.told_of" (.var 0) (.cns (.var 1) .nul)) (.glb "WEIGHT"))) .nul)⟩
noncomputable def f_Tree_ahead : Fn := ⟨["self", "number"], ["self", "number"],
  (.cns (.rtx (.idx (.mcl "Tree" "told_of" "Tree.told_of" (.var 0) (.cns (.var 1) .nul)) (.glb "AHEAD"))) .nul)⟩
noncomputable def f_Tree_branch : Fn := ⟨["self", "number"], ["self", "number"],
  (.cns (.rtx (.revl (.mcl "Tree" "down" "Tree.down" (.var 0) (.cns (.var 1) (.cns (.glb "ROOT") .nul))))) .nul)⟩
noncomputable def f_Tree_head : Fn := ⟨["self"], ["self"],
  (.cns (.ret (.fld "Tree" "heaviest" (.var 0))) .nul)⟩
noncomputable def f_Tree_meeting : Fn := ⟨["self", "one", "other"], ["self", "one", "other"],
  (.cns (.whx (.cmp .gt (.mcl "Tree" "height" "Tree.height" (.var 0) (.cns (.var 1) .nul)) (.mcl "Tree" "height" "Tree.height" (.var 0) (.cns (.var 2) .nul))) (.cns (.asq 1 (.mcl "Tree" "ahead" "Tree.ahead" (.var 0) (.cns (.var 1) .nul))) .nul)) (.cns (.whx (.cmp .gt (.mcl "Tree" "height" "Tree.height" (.var 0) (.cns (.var 2) .nul)) (.mcl "Tree" "height" "Tree.height" (.var 0) (.cns (.var 1) .nul))) (.cns (.asq 2 (.mcl "Tree" "ahead" "Tree.ahead" (.var 0) (.cns (.var 2) .nul))) .nul)) (.cns (.whx (.cmp .ne (.var 1) (.var 2)) (.cns (.asq 1 (.mcl "Tree" "ahead" "Tree.ahead" (.var 0) (.cns (.var 1) .nul))) (.cns (.asq 2 (.mcl "Tree" "ahead" "Tree.ahead" (.var 0) (.cns (.var 2) .nul))) .nul))) (.cns (.rtk (.var 1)) .nul))))⟩
noncomputable def f_Tree_way : Fn := ⟨["self", "one", "other"], ["self", "one", "other", "last"],
  (.cns (.asq 3 (.mcl "Tree" "meeting" "Tree.meeting" (.var 0) (.cns (.var 1) (.cns (.var 2) .nul)))) (.cns (.rtk (.tup (.cns (.mcl "Tree" "down" "Tree.down" (.var 0) (.cns (.var 1) (.cns (.var 3) .nul))) (.cns (.revl (.mcl "Tree" "down" "Tree.down" (.var 0) (.cns (.var 2) (.cns (.var 3) .nul)))) .nul)))) .nul))⟩
noncomputable def f_Tree_down : Fn := ⟨["self", "number", "last"], ["self", "number", "last", "found"],
  (.cns (.kls (.asg (.tvar 3) (.lst .nul))) (.cns (.whx (.cmp .ne (.var 1) (.var 2)) (.cns (.kls (.exp (.meth .append (.var 3) (.cns (.var 1) .nul)))) (.cns (.asq 1 (.mcl "Tree" "ahead" "Tree.ahead" (.var 0) (.cns (.var 1) .nul))) .nul))) (.cns (.rtk (.var 3)) .nul)))⟩
noncomputable def f_law_mixed : Fn := ⟨["_law_cell"], ["_law_cell"],
  (.cns (.ret (.bin .mod (.bin .mul (.bin .mul (.bin .add (.bin .mod (.var 0) (.cst (.int 2147483647))) (.cst (.int 11))) (.cst (.int 48271))) (.cst (.int 69621))) (.cst (.int 2147483629)))) .nul)⟩
noncomputable def f_law_stream : Fn := ⟨["_law_cell", "_law_k", "_law_digits"], ["_law_cell", "_law_k", "_law_digits", "_law_seed"],
  (.cns (.asg (.tvar 3) (.bin .mod (.bin .add (.call "_law_mixed" (.cns (.var 0) .nul)) (.bin .mul (.cst (.int 69621)) (.var 1))) (.cst (.int 2147483629)))) (.cns (.ifs (.var 2) (.cns (.ret (.lst (.cns (.bin .fdiv (.bin .mod (.var 0) (.bin .mul (.bin .pow (.cst (.int 10)) (.cst (.int 60))) (.bin .pow (.cst (.int 10)) (.cst (.int 60))))) (.bin .add (.cst (.int 1)) (.prim .int1 (.cns (.cmp .eq (.var 1) (.cst (.int 0))) .nul)))) (.cns (.cst (.bl true)) (.cns (.var 3) .nul))))) .nul) .nul) (.cns (.ret (.lst (.cns (.var 3) (.cns (.cst (.bl false)) (.cns (.var 3) .nul))))) .nul)))⟩
noncomputable def f_law_take : Fn := ⟨["_law_stream_here", "_law_many"], ["_law_stream_here", "_law_many", "_law_found"],
  (.cns (.ifs (.bo true (.cns (.idx (.var 0) (.cst (.int 1))) (.cns (.cmp .gt (.idx (.var 0) (.cst (.int 0))) (.cst (.int 1))) .nul))) (.cns (.asg (.tvar 2) (.bin .mod (.idx (.var 0) (.cst (.int 0))) (.var 1))) (.cns (.asg (.tsub (.var 0) (.cst (.int 0))) (.bin .fdiv (.idx (.var 0) (.cst (.int 0))) (.var 1))) (.cns (.ret (.var 2)) .nul))) .nul) (.cns (.ifs (.idx (.var 0) (.cst (.int 1))) (.cns (.asg (.tsub (.var 0) (.cst (.int 0))) (.idx (.var 0) (.cst (.int 2)))) (.cns (.asg (.tsub (.var 0) (.cst (.int 1))) (.cst (.bl false))) .nul)) .nul) (.cns (.asg (.tsub (.var 0) (.cst (.int 0))) (.bin .mod (.bin .add (.bin .mul (.idx (.var 0) (.cst (.int 0))) (.cst (.int 48271))) (.cst (.int 11))) (.cst (.int 2147483629)))) (.cns (.ret (.bin .mod (.bin .fdiv (.idx (.var 0) (.cst (.int 0))) (.cst (.int 7))) (.var 1))) .nul))))⟩
noncomputable def f_law_streams : Fn := ⟨["_law_script"], ["_law_script", "_law_digits"],
  (.cns (.asg (.tvar 1) (.bo true (.cns (.cmp .gt (.prim .len (.cns (.var 0) .nul)) (.cst (.int 0))) (.cns (.cmp .eq (.bin .mod (.idx (.var 0) (.cst (.int 0))) (.cst (.int 2))) (.cst (.int 1))) .nul)))) (.cns (.ret (.comp ["_law_k", "_law_cell", "_law_digits"] 2 [1] (.ttup (.cns (.tvar 0) (.cns (.tvar 1) .nul))) (.enm (.sli (.bin .add (.var 0) (.lst (.cns (.cst (.int 0)) .nul))) .nul (.cns (.cst (.int 60)) .nul))) .nul (.call "_law_stream" (.cns (.var 1) (.cns (.var 0) (.cns (.var 2) .nul)))))) .nul))⟩
noncomputable def f_law_number : Fn := ⟨["_law_stream_here", "_law_aheads"], ["_law_stream_here", "_law_aheads", "_law_number_here"],
  (.cns (.asg (.tvar 2) (.bin .add (.cst (.int 1)) (.call "_law_take" (.cns (.var 0) (.cns (.idx (.lst (.cns (.cst (.int 9)) (.cns (.cst (.int 40)) (.cns (.bin .pow (.cst (.int 10)) (.cst (.int 30))) .nul)))) (.call "_law_take" (.cns (.var 0) (.cns (.cst (.int 3)) .nul)))) .nul))))) (.cns (.whl (.cmp .inn (.var 2) (.var 1)) (.cns (.asg (.tvar 2) (.bin .add (.var 2) (.cst (.int 1)))) .nul)) (.cns (.ret (.var 2)) .nul)))⟩
noncomputable def f_law_weight : Fn := ⟨["_law_stream_here"], ["_law_stream_here"],
  (.cns (.ret (.bin .add (.cst (.int 1)) (.call "_law_take" (.cns (.var 0) (.cns (.idx (.lst (.cns (.cst (.int 2)) (.cns (.cst (.int 5)) (.cns (.bin .pow (.cst (.int 10)) (.cst (.int 30))) .nul)))) (.call "_law_take" (.cns (.var 0) (.cns (.cst (.int 3)) .nul)))) .nul))))) .nul)⟩
noncomputable def f_law_grown : Fn := ⟨["_law_streams_here"], ["_law_streams_here", "_law_aheads", "_law_weights", "_law_row", "_law_stream_here", "_law_some", "_law_ahead", "_law_number_here"],
  (.cns (.asg (.tvar 1) (.dlit (.cst (.int 0)) (.cst .non))) (.cns (.asg (.tvar 2) (.dlit (.cst (.int 0)) (.cst (.int 0)))) (.cns (.asg (.tvar 3) (.lst .nul)) (.cns (.forr (.tvar 4) (.cns (.var 0) .nul) (.cns (.asg (.tvar 5) (.prim .list1 (.cns (.var 1) .nul))) (.cns (.asg (.tvar 6) (.idx (.lst (.cns (.idx (.var 5) (.neg (.cst (.int 1)))) (.cns (.idx (.var 5) (.call "_law_take" (.cns (.var 4) (.cns (.prim .len (.cns (.var 5) .nul)) .nul)))) .nul))) (.call "_law_take" (.cns (.var 4) (.cns (.cst (.int 2)) .nul))))) (.cns (.asg (.tvar 7) (.call "_law_number" (.cns (.var 4) (.cns (.var 1) .nul)))) (.cns (.exp (.meth .append (.var 3) (.cns (.tup (.cns (.var 7) (.cns (.var 6) (.cns (.call "_law_weight" (.cns (.var 4) .nul)) .nul)))) .nul))) (.cns (.asg (.tsub (.var 1) (.var 7)) (.var 6)) (.cns (.asg (.tsub (.var 2) (.var 7)) (.bin .add (.idx (.var 2) (.var 6)) (.idx (.idx (.var 3) (.neg (.cst (.int 1)))) (.cst (.int 2))))) .nul))))))) (.cns (.ret (.tup (.cns (.var 3) (.cns (.var 1) (.cns (.var 2) .nul))))) .nul)))))⟩
noncomputable def f_law_refused : Fn := ⟨["_law_tree", "_law_word", "_law_row"], ["_law_tree", "_law_word", "_law_row", "_law_found", "e"],
  (.cns (.asg (.tvar 3) (.lst .nul)) (.cns (.tri (.cns (.ifx (.cmp .eq (.var 1) (.cst (.str "add"))) (.cns (.exx (.mcl "Tree" "add" "Tree.add" (.var 0) (.cns (.idx (.var 2) (.cst (.int 0))) (.cns (.idx (.var 2) (.cst (.int 1))) (.cns (.idx (.var 2) (.cst (.int 2))) .nul))))) .nul) .nul) (.cns (.ifx (.cmp .eq (.var 1) (.cst (.str "height"))) (.cns (.exx (.mcl "Tree" "height" "Tree.height" (.var 0) (.cns (.idx (.var 2) (.cst (.int 0))) .nul))) .nul) .nul) (.cns (.ifx (.cmp .eq (.var 1) (.cst (.str "weight"))) (.cns (.exx (.mcl "Tree" "weight" "Tree.weight" (.var 0) (.cns (.idx (.var 2) (.cst (.int 0))) .nul))) .nul) .nul) (.cns (.ifx (.cmp .eq (.var 1) (.cst (.str "ahead"))) (.cns (.exx (.mcl "Tree" "ahead" "Tree.ahead" (.var 0) (.cns (.idx (.var 2) (.cst (.int 0))) .nul))) .nul) .nul) (.cns (.ifx (.cmp .eq (.var 1) (.cst (.str "branch"))) (.cns (.exx (.mcl "Tree" "branch" "Tree.branch" (.var 0) (.cns (.idx (.var 2) (.cst (.int 0))) .nul))) .nul) .nul) (.cns (.ifx (.cmp .eq (.var 1) (.cst (.str "meeting"))) (.cns (.exx (.mcl "Tree" "meeting" "Tree.meeting" (.var 0) (.cns (.idx (.var 2) (.cst (.int 0))) (.cns (.idx (.var 2) (.cst (.int 1))) .nul)))) .nul) .nul) (.cns (.ifx (.cmp .eq (.var 1) (.cst (.str "way"))) (.cns (.exx (.mcl "Tree" "way" "Tree.way" (.var 0) (.cns (.idx (.var 2) (.cst (.int 0))) (.cns (.idx (.var 2) (.cst (.int 1))) .nul)))) .nul) .nul) .nul))))))) "CoinError" 4 3 ["Known", "NoAhead", "NoSuch", "ValueError"] [("Known", [true, false, false, true]), ("NoAhead", [false, true, false, true]), ("NoSuch", [false, false, true, true])]) (.cns (.ret (.var 3)) .nul)))⟩
noncomputable def f_law_strange : Fn := ⟨["_law_tree", "_law_stream_here", "_law_row"], ["_law_tree", "_law_stream_here", "_law_row", "_law_strange_here", "_law_word", "_law_there", "_law_pair"],
  (.cns (.asg (.tvar 3) (.call "_law_number" (.cns (.var 1) (.cns (.bin .add (.lst (.cns (.cst (.int 0)) .nul)) (.comp ["_law_one"] 1 [] (.tvar 0) (.cns (.var 2) .nul) .nul (.idx (.var 0) (.cst (.int 0))))) .nul)))) (.cns (.asg (.tvar 4) (.idx (.lst (.cns (.cst (.str "height")) (.cns (.cst (.str "weight")) (.cns (.cst (.str "ahead")) (.cns (.cst (.str "branch")) (.cns (.cst (.str "meeting")) (.cns (.cst (.str "way")) .nul))))))) (.call "_law_take" (.cns (.var 1) (.cns (.cst (.int 6)) .nul))))) (.cns (.asg (.tvar 5) (.idx (.idx (.var 2) (.call "_law_take" (.cns (.var 1) (.cns (.prim .len (.cns (.var 2) .nul)) .nul)))) (.cst (.int 0)))) (.cns (.asg (.tvar 6) (.idx (.lst (.cns (.tup (.cns (.var 3) (.cns (.var 5) .nul))) (.cns (.tup (.cns (.var 5) (.cns (.var 3) .nul))) (.cns (.tup (.cns (.var 3) (.cns (.var 3) .nul))) (.cns (.tup (.cns (.cst (.int 0)) (.cns (.var 3) .nul))) .nul))))) (.call "_law_take" (.cns (.var 1) (.cns (.cst (.int 4)) .nul))))) (.cns (.ifs (.cmp .inn (.var 4) (.tup (.cns (.cst (.str "height")) (.cns (.cst (.str "weight")) (.cns (.cst (.str "ahead")) (.cns (.cst (.str "branch")) .nul)))))) (.cns (.asg (.tvar 6) (.tup (.cns (.var 3) (.cns (.cst (.int 0)) .nul)))) .nul) .nul) (.cns (.ret (.cmp .eq (.call "_law_refused" (.cns (.var 0) (.cns (.var 4) (.cns (.var 6) .nul)))) (.lst (.cns (.cst (.bl false)) (.cns (.cst (.bl false)) (.cns (.cst (.bl true)) (.cns (.cst (.bl true)) .nul))))))) .nul))))))⟩
noncomputable def f_law : Fn := ⟨["_law_script"], ["_law_script", "_law_streams_here", "_law_row", "_law_tree", "_law_k", "_law_stream_here", "_law_there", "_law_before", "_law_strange_here", "_law_old", "_law_ahead", "_law_far"],
  (.cns (.asg (.tvar 1) (.call "_law_streams" (.cns (.var 0) .nul))) (.cns (.asg (.tvar 2) (.idx (.call "_law_grown" (.cns (.var 1) .nul)) (.cst (.int 0)))) (.cns (.asg (.tvar 3) (.new "Tree" "Tree.__init__")) (.cns (.forr (.ttup (.cns (.tvar 4) (.cns (.tvar 5) .nul))) (.enm (.var 1)) (.cns (.exp (.mcl "Tree" "add" "Tree.add" (.var 3) (.cns (.idx (.idx (.var 2) (.var 4)) (.cst (.int 0))) (.cns (.idx (.idx (.var 2) (.var 4)) (.cst (.int 1))) (.cns (.idx (.idx (.var 2) (.var 4)) (.cst (.int 2))) .nul))))) (.cns (.asg (.tvar 6) (.bin .add (.lst (.cns (.cst (.int 0)) .nul)) (.comp ["_law_one"] 1 [] (.tvar 0) (.cns (.sli (.var 2) .nul (.cns (.bin .add (.var 4) (.cst (.int 1))) .nul)) .nul) .nul (.idx (.var 0) (.cst (.int 0)))))) (.cns (.asg (.tvar 7) (.tup (.cns (.mcl "Tree" "nodes" "Tree.nodes" (.var 3) .nul) (.cns (.mcl "Tree" "head" "Tree.head" (.var 3) .nul) .nul)))) (.cns (.asg (.tvar 8) (.call "_law_number" (.cns (.var 5) (.cns (.var 6) .nul)))) (.cns (.asg (.tvar 9) (.idx (.var 6) (.call "_law_take" (.cns (.var 5) (.cns (.prim .len (.cns (.var 6) .nul)) .nul))))) (.cns (.asg (.tvar 10) (.idx (.lst (.cns (.idx (.var 6) (.call "_law_take" (.cns (.var 5) (.cns (.prim .len (.cns (.var 6) .nul)) .nul)))) (.cns (.var 8) .nul))) (.call "_law_take" (.cns (.var 5) (.cns (.cst (.int 2)) .nul))))) (.cns (.ifs (.cmp .ne (.call "_law_refused" (.cns (.var 3) (.cns (.cst (.str "add")) (.cns (.tup (.cns (.var 9) (.cns (.var 10) (.cns (.call "_law_weight" (.cns (.var 5) .nul)) .nul)))) .nul)))) (.lst (.cns (.cst (.bl true)) (.cns (.cst (.bl false)) (.cns (.cst (.bl false)) (.cns (.cst (.bl true)) .nul)))))) (.cns (.ret (.cst (.bl false))) .nul) .nul) (.cns (.asg (.tvar 11) (.bin .add (.prim .max1 (.cns (.var 6) .nul)) (.cst (.int 1)))) (.cns (.ifs (.cmp .ne (.call "_law_refused" (.cns (.var 3) (.cns (.cst (.str "add")) (.cns (.tup (.cns (.var 8) (.cns (.bin .add (.var 11) (.prim .int1 (.cns (.cmp .eq (.var 11) (.var 8)) .nul))) (.cns (.cst (.int 5)) .nul)))) .nul)))) (.lst (.cns (.cst (.bl false)) (.cns (.cst (.bl true)) (.cns (.cst (.bl false)) (.cns (.cst (.bl true)) .nul)))))) (.cns (.ret (.cst (.bl false))) .nul) .nul) (.cns (.ifs (.bo false (.cns (.nott (.call "_law_strange" (.cns (.var 3) (.cns (.var 5) (.cns (.sli (.var 2) .nul (.cns (.bin .add (.var 4) (.cst (.int 1))) .nul)) .nul))))) (.cns (.cmp .ne (.tup (.cns (.mcl "Tree" "nodes" "Tree.nodes" (.var 3) .nul) (.cns (.mcl "Tree" "head" "Tree.head" (.var 3) .nul) .nul))) (.var 7)) .nul))) (.cns (.ret (.cst (.bl false))) .nul) .nul) .nul))))))))))) (.cns (.ret (.cst (.bl true))) .nul)))))⟩
noncomputable def T : Tb := fun f => if f = "Tree.__init__" then some f_Tree___init__ else if f = "Tree.check_place" then some f_Tree_check_place else if f = "Tree.add" then some f_Tree_add else if f = "Tree.rank" then some f_Tree_rank else if f = "Tree.has" then some f_Tree_has else if f = "Tree.nodes" then some f_Tree_nodes else if f = "Tree.told_of" then some f_Tree_told_of else if f = "Tree.height" then some f_Tree_height else if f = "Tree.weight" then some f_Tree_weight else if f = "Tree.ahead" then some f_Tree_ahead else if f = "Tree.branch" then some f_Tree_branch else if f = "Tree.head" then some f_Tree_head else if f = "Tree.meeting" then some f_Tree_meeting else if f = "Tree.way" then some f_Tree_way else if f = "Tree.down" then some f_Tree_down else if f = "_law_mixed" then some f_law_mixed else if f = "_law_stream" then some f_law_stream else if f = "_law_take" then some f_law_take else if f = "_law_streams" then some f_law_streams else if f = "_law_number" then some f_law_number else if f = "_law_weight" then some f_law_weight else if f = "_law_grown" then some f_law_grown else if f = "_law_refused" then some f_law_refused else if f = "_law_strange" then some f_law_strange else if f = "law" then some f_law else none
noncomputable def G : String → Option D := fun x => if x = "ROOT" then some (.int 0) else if x = "HEIGHT" then some (.int 1) else if x = "WEIGHT" then some (.int 2) else if x = "AHEAD" then some (.int 0) else none
theorem T_f_Tree___init__ : T "Tree.__init__" = some f_Tree___init__ := rfl
theorem T_f_Tree_check_place : T "Tree.check_place" = some f_Tree_check_place := rfl
theorem T_f_Tree_add : T "Tree.add" = some f_Tree_add := rfl
theorem T_f_Tree_rank : T "Tree.rank" = some f_Tree_rank := rfl
theorem T_f_Tree_has : T "Tree.has" = some f_Tree_has := rfl
theorem T_f_Tree_nodes : T "Tree.nodes" = some f_Tree_nodes := rfl
theorem T_f_Tree_told_of : T "Tree.told_of" = some f_Tree_told_of := rfl
theorem T_f_Tree_height : T "Tree.height" = some f_Tree_height := rfl
theorem T_f_Tree_weight : T "Tree.weight" = some f_Tree_weight := rfl
theorem T_f_Tree_ahead : T "Tree.ahead" = some f_Tree_ahead := rfl
theorem T_f_Tree_branch : T "Tree.branch" = some f_Tree_branch := rfl
theorem T_f_Tree_head : T "Tree.head" = some f_Tree_head := rfl
theorem T_f_Tree_meeting : T "Tree.meeting" = some f_Tree_meeting := rfl
theorem T_f_Tree_way : T "Tree.way" = some f_Tree_way := rfl
theorem T_f_Tree_down : T "Tree.down" = some f_Tree_down := rfl
theorem T_f_law_mixed : T "_law_mixed" = some f_law_mixed := rfl
theorem T_f_law_stream : T "_law_stream" = some f_law_stream := rfl
theorem T_f_law_take : T "_law_take" = some f_law_take := rfl
theorem T_f_law_streams : T "_law_streams" = some f_law_streams := rfl
theorem T_f_law_number : T "_law_number" = some f_law_number := rfl
theorem T_f_law_weight : T "_law_weight" = some f_law_weight := rfl
theorem T_f_law_grown : T "_law_grown" = some f_law_grown := rfl
theorem T_f_law_refused : T "_law_refused" = some f_law_refused := rfl
theorem T_f_law_strange : T "_law_strange" = some f_law_strange := rfl
theorem T_f_law : T "law" = some f_law := rfl
theorem G_ROOT : G "ROOT" = some (.int 0) := rfl
theorem G_HEIGHT : G "HEIGHT" = some (.int 1) := rfl
theorem G_WEIGHT : G "WEIGHT" = some (.int 2) := rfl
end K32

namespace K32
open PySem L2 Mi Tr
structure At (r : Nd) (h : Int) (t sd : Nat) (S : Store) : Prop where
  ins : S[t]? = some (.ins "Tree" [("standing", .loc sd), ("heaviest", .int h)])
  sta : S[sd]? = some (.dct (stand r))
  wf : Wf r
section
variable {W n : Nat} {r : Nd} {h x : Int} {t sd : Nat} {S : Store}
noncomputable def inT (r : Nd) (x : Int) : Prop := x = 0 ∨ x ∈ keys r
noncomputable instance : Decidable (inT r x) := inferInstanceAs (Decidable (x = 0 ∨ x ∈ keys r))
theorem has_val (w : Wf r) (x : Int) : (dVal (stand r) x).isSome = decide (inT r x) := by
  unfold inT
  rw [stand_val w x]
  by_cases e : x = 0
  · simp [e]
  · by_cases k : x ∈ keys r <;> simp [e, k]
theorem has_ok (a : At r h t sd S) : callN T G W (n + 1) "Tree.has" [.loc t, .int x] S = .ok (.bl (decide (inT r x))) S := by
  rw [callN_eq T_f_Tree_has rfl]
  simp [f_Tree_has, v_var, v_cmp, v_fld, v_ret, v_b1, kVar, kCmp2, kCmp, kRet, kB, Res.bind_ok, finF, kFld_of a.ins (f := "standing") rfl, cop_in a.sta, has_val a.wf]
theorem told_ok (a : At r h t sd S) {d : D} (e : dVal (stand r) x = some d) : callN T G W (n + 2) "Tree.told_of" [.loc t, .int x] S = .ok d S := by
  rw [callN_eq T_f_Tree_told_of rfl]
  have hi : decide (inT r x) = true := by rw [← has_val a.wf, e]; rfl
  simp [f_Tree_told_of, v_var, v_idx, v_fld, w_mcl, tMcl2, tMcl, w_nott, v_a0, v_a1, v_ifx, v_rtk, Res.kl_ok, v_b0, v_b1, kVar, kIdx, kTru, tNotB, kCons, kArg, kIfs, kRet, kB, Res.bind_ok, finF, Cn_call, kFld_of a.ins (f := "standing") rfl, isRec_of a.ins (m := "has") rfl, has_ok a, hi, tru, kIdx_dct a.sta e]
theorem height_ok (a : At r h t sd S) (i : inT r x) : callN T G W (n + 3) "Tree.height" [.loc t, .int x] S = .ok (.int (anc r x).length) S := by
  rw [callN_eq T_f_Tree_height rfl]
  have e := stand_val a.wf x
  rcases i with rfl | i
  · rw [if_pos rfl] at e
    simp [f_Tree_height, v_var, v_glb, v_idx, v_mcl, kMcl2, kMcl, v_a0, v_a1, v_rtx, Res.at_ok, v_b1, kVar, kGlb, kIdx, kCons, kArg, kRet, kB, Res.bind_ok, finF, Cn_call, Cn_glob, isRec_of a.ins (m := "told_of") rfl, told_ok a e, G_HEIGHT, anc_zero a.wf]
  · by_cases z : x = 0
    · subst z
      rw [if_pos rfl] at e
      simp [f_Tree_height, v_var, v_glb, v_idx, v_mcl, kMcl2, kMcl, v_a0, v_a1, v_rtx, Res.at_ok, v_b1, kVar, kGlb, kIdx, kCons, kArg, kRet, kB, Res.bind_ok, finF, Cn_call, Cn_glob, isRec_of a.ins (m := "told_of") rfl, told_ok a e, G_HEIGHT, anc_zero a.wf]
    · rw [if_neg z, if_pos i] at e
      simp [f_Tree_height, v_var, v_glb, v_idx, v_mcl, kMcl2, kMcl, v_a0, v_a1, v_rtx, Res.at_ok, v_b1, kVar, kGlb, kIdx, kCons, kArg, kRet, kB, Res.bind_ok, finF, Cn_call, Cn_glob, isRec_of a.ins (m := "told_of") rfl, told_ok a e, G_HEIGHT]
theorem wt_zero : ∀ {r : Nd}, Wf r → wt r 0 = 0
  | [], _ => rfl
  | (n, a, w) :: r, h => by
    rw [wt, if_neg (fun z => h.1 z.symm)]
    exact wt_zero h.2.2.2
theorem weight_ok (a : At r h t sd S) (i : inT r x) : callN T G W (n + 3) "Tree.weight" [.loc t, .int x] S = .ok (.int (wt r x)) S := by
  rw [callN_eq T_f_Tree_weight rfl]
  have e := stand_val a.wf x
  by_cases z : x = 0
  · subst z
    rw [if_pos rfl] at e
    simp [f_Tree_weight, v_var, v_glb, v_idx, v_mcl, kMcl2, kMcl, v_a0, v_a1, v_rtx, Res.at_ok, v_b1, kVar, kGlb, kIdx, kCons, kArg, kRet, kB, Res.bind_ok, finF, Cn_call, Cn_glob, isRec_of a.ins (m := "told_of") rfl, told_ok a e, G_WEIGHT, wt_zero a.wf]
  · rw [if_neg z, if_pos (i.resolve_left z)] at e
    simp [f_Tree_weight, v_var, v_glb, v_idx, v_mcl, kMcl2, kMcl, v_a0, v_a1, v_rtx, Res.at_ok, v_b1, kVar, kGlb, kIdx, kCons, kArg, kRet, kB, Res.bind_ok, finF, Cn_call, Cn_glob, isRec_of a.ins (m := "told_of") rfl, told_ok a e, G_WEIGHT]
theorem rank_ok (a : At r h t sd S) (i : inT r x) : callN T G W (n + 4) "Tree.rank" [.loc t, .int x] S = .ok (.tup [.int (-wt r x), .int x]) S := by
  rw [callN_eq T_f_Tree_rank rfl]
  simp [f_Tree_rank, v_var, v_neg, v_tup, v_mcl, kMcl2, kMcl, v_a0, v_a1, v_rtk, Res.kl_ok, v_b1, kVar, kNeg, kTup, kCons, kArg, kRet, kB, Res.bind_ok, finF, Cn_call, isRec_of a.ins (m := "weight") rfl, weight_ok a i, Line]
theorem place_ok (a : At r h t sd S) {y : Int} (i : ¬ inT r x) (j : inT r y) : callN T G W (n + 2) "Tree.check_place" [.loc t, .int x, .int y] S = .ok .non S := by
  rw [callN_eq T_f_Tree_check_place rfl]
  simp [f_Tree_check_place, v_var, w_mcl, tMcl2, tMcl, w_nott, v_a0, v_a1, v_ifx, Res.kl_ok, v_b0, v_b1, kVar, kTru, tNotB, kCons, kArg, kIfs, kB, Res.bind_ok, finF, Cn_call, isRec_of a.ins (m := "has") rfl, has_ok a, i, j, tru]
end
end K32

namespace K32
open PySem L2 Mi Tr
end K32

namespace K32
open PySem L2 Mi Tr
section
variable {W n : Nat} {r : Nd} {h x y w : Int} {t sd : Nat} {S : Store}
noncomputable def PAdd (r : Nd) (t sd : Nat) (S : Store) (d : D) (S' : Store) : Prop := d = .non ∧ (∃ h', At r h' t sd S' ∧ inT r h') ∧ Keep [t, sd] S S'
theorem inT_cons (i : inT r x) (p : Int × Int × Int) : inT (p :: r) x := i.imp id fun z => List.mem_cons_of_mem _ z
theorem keep_set2 {o1 o2 : Mi.Obj} (S : Store) (t sd : Nat) : Keep [t, sd] S ((S.set sd o1).set t o2) := by
  refine ⟨by simp, fun l _ hn => ?_⟩
  simp only [List.mem_cons, List.not_mem_nil, or_false, not_or] at hn
  rw [List.getElem?_set_ne (Ne.symm hn.1), List.getElem?_set_ne (Ne.symm hn.2)]
theorem add_ok (a : At r h t sd S) (hh : inT r h) (ts : t ≠ sd) (i : ¬ inT r x) (j : inT r y) (ln : r.length < 1000) : Sat (callN T G W (n + 5) "Tree.add" [.loc t, .int x, .int y, .int w] S) (PAdd ((x, y, w) :: r) t sd S) := by
  rw [callN_eq T_f_Tree_add rfl]
  have hv : dVal (stand r) x = none := by
    have := has_val a.wf x
    rw [decide_eq_false i] at this
    cases e : dVal (stand r) x with
    | none => rfl
    | some d => rw [e] at this; cases this
  have wf' : Wf ((x, y, w) :: r) := ⟨fun z => i (.inl z), fun z => i (.inr z), j, a.wf⟩
  have hl : (stand r).length < Line := by rw [stand_len]; show _ < 16777216; omega
  have a' : At ((x, y, w) :: r) h t sd (S.set sd (.dct (stand ((x, y, w) :: r)))) := ⟨by rw [List.getElem?_set_ne (Ne.symm ts)]; exact a.ins, set_get a.sta, wf'⟩
  have hx : inT ((x, y, w) :: r) x := .inr List.mem_cons_self
  simp [f_Tree_add, v_cst, v_var, v_bin, v_tup, v_fld, v_mcl, v_mink, v_sfd, kMcl2, kMcl, v_a0, v_a1, v_tsub, v_asg, v_kls, v_exx, Res.kl_ok, Res.at_ok, v_b1, kVar, kBin, kTup, kCons, kArg, kEn, kSub2, kSub, kNx, kAsg, kExp, kB, Res.bind_ok, Cn_call, isRec_of a.ins (m := "check_place") rfl, isRec_of a.ins (m := "height") rfl, isRec_of a.ins (m := "weight") rfl, place_ok a i j, height_ok a j, weight_ok a j, bop, Line, kFld_of a.ins (f := "standing") rfl, setS_dct a.sta hl, dPut_new hv]
  rw [show stand r ++ [(x, D.tup [D.int y, D.int ((anc r y).length + 1), D.int (wt r y + w)])] = stand ((x, y, w) :: r) from rfl]
  simp [v_var, kMk5, kMk4, kMk3, kMk2, kMk1, kSfd, kVar, Res.bind_ok, Cn_call, kFld_of a'.ins (f := "heaviest") rfl, isRec_of a'.ins (m := "rank") rfl, rank_ok a' (inT_cons hh _), rank_ok a' hx, ltP]
  obtain ⟨h', e', i'⟩ : ∃ h', (if wt ((x, y, w) :: r) h < wt ((x, y, w) :: r) x ∨ wt ((x, y, w) :: r) x = wt ((x, y, w) :: r) h ∧ x < h then D.int x else D.int h) = D.int h' ∧ inT ((x, y, w) :: r) h' := by
    split
    · exact ⟨x, rfl, hx⟩
    · exact ⟨h, rfl, inT_cons hh _⟩
  rw [e', setF_of a'.ins (by simp)]
  simp [v_b0, kB, Res.bind_ok, finF, putD]
  refine ⟨rfl, ⟨h', ⟨set_get a'.ins, by rw [List.getElem?_set_ne ts]; exact a'.sta, wf'⟩, i'⟩, keep_set2 S t sd⟩
noncomputable def PInit (t : Nat) (S : Store) (d : D) (S' : Store) : Prop := d = .non ∧ ∃ sd, At [] 0 t sd S' ∧ t ≠ sd ∧ S.length ≤ sd ∧ sd < S'.length ∧ Keep [t] S S'
theorem init_ok (a : S[t]? = some (.ins "Tree" [])) : Sat (callN T G W (n + 1) "Tree.__init__" [.loc t] S) (PInit t S) := by
  rw [callN_eq T_f_Tree___init__ rfl]
  have lt := get_lt a
  have a1 : (S ++ [Mi.Obj.dct [(0, D.tup [D.non, D.int 0, D.int 0])]])[t]? = some (.ins "Tree" []) := old_get a
  simp [f_Tree___init__, v_cst, v_var, v_glb, v_tup, v_dlit, v_sfd, kDl, kSfd, v_a0, v_a1, v_b1, kVar, kGlb, kTup, kCons, kArg, Res.bind_ok, Cn_glob, G_ROOT, Line, kDl2, dctAt]
  rw [setF_of a1 (by decide)]
  simp [v_var, v_glb, v_sfd, kSfd, v_b1, kVar, kGlb, kB, Res.bind_ok, Cn_glob, putD, G_ROOT]
  have a2 : ((S ++ [Mi.Obj.dct [(0, D.tup [D.non, D.int 0, D.int 0])]]).set t (.ins "Tree" [("standing", D.loc S.length)]))[t]? = some (.ins "Tree" [("standing", D.loc S.length)]) := set_get a1
  rw [setF_of a2 (by simp)]
  simp [v_b0, kB, Res.bind_ok, finF, putD]
  refine ⟨rfl, S.length, ⟨?_, ?_, trivial⟩, Nat.ne_of_lt lt, Nat.le_refl _, by simp, by simp, fun l hl hn => ?_⟩
  · rw [List.getElem?_set_self (by simp; omega)]
  · rw [List.getElem?_set_ne (Nat.ne_of_lt lt)]
    simp [stand]
  · have hn : l ≠ t := by simpa using hn
    rw [List.getElem?_set_ne (Ne.symm hn), List.getElem?_append_left hl]
end
end K32

namespace K32
open PySem L2 Mi Tr
theorem Wf.tail : ∀ {a b : Nd}, Wf (a ++ b) → Wf b
  | [], b, h => h
  | (n, x, w) :: a, b, h => Wf.tail (a := a) h.2.2.2
theorem kp_nil {S S1 S2 : Store} {ps : List Nat} (a : Keep [] S S1) (b : Keep ps S1 S2) (h : ∀ p ∈ ps, S.length ≤ p) : Keep [] S S2 :=
  ⟨Nat.le_trans a.1 b.1, fun l hl _ => by rw [b.2 l (Nat.lt_of_lt_of_le hl a.1) (fun z => absurd (h l z) (by omega)), a.2 l hl (by simp)]⟩
theorem kp_get {S S' : Store} {l : Nat} {o : Mi.Obj} (k : Keep [] S S') (h : S[l]? = some o) : S'[l]? = some o := by rw [k.2 l (get_lt h) (by simp)]; exact h
end K32

namespace K32
open PySem L2 Mi Tr
noncomputable def headS : M → M
  | .cns a _ => a
  | m => m
noncomputable def Strm (S : Store) (p : Nat) : Prop := ∃ a b c, S[p]? = some (.lst [.int a, .bl b, .int c])
section
variable {W n : Nat} {S : Store} {p : Nat}
theorem ix_loc {ds : List D} {i : Int} {d : D} {S : Store} {p : Nat} (h : S[p]? = some (.lst ds)) (e : atI ds i = some d) : idxD (.loc p) (.int i) S = some d := by simp only [idxD, seqOf, seqAt, h, e]
theorem st_loc {ds : List D} {i : Int} {j : Nat} {d : D} {S : Store} {p : Nat} (h : S[p]? = some (.lst ds)) (e : ixN ds.length i = some j) : setS (.loc p) (.int i) d S = .ok () (S.set p (.lst (ds.set j d))) := by simp only [setS, h, e]
theorem b_div {i j : Int} {S : Store} (h : 0 < j) (h' : j.natAbs < 2 ^ 4096) : bop .fdiv (.int i) (.int j) S = .ok (.int (i / j)) S := by rw [rbop_8, if_pos ⟨h, h'⟩]
theorem b_mod {i j : Int} {S : Store} (h : 0 < j) : bop .mod (.int i) (.int j) S = .ok (.int (i % j)) S := by rw [rbop_9, if_pos h]
theorem b_mul {i j : Int} {S : Store} (h : small j = true) : bop .mul (.int i) (.int j) S = .ok (.int (i * j)) S := by rw [rbop_5, h]; simp
theorem b_7 {i : Int} {S : Store} : bop .fdiv (.int i) (.int 7) S = .ok (.int (i / 7)) S := b_div (by decide) (by decide)
theorem b_48 {i : Int} {S : Store} : bop .mul (.int i) (.int 48271) S = .ok (.int (i * 48271)) S := b_mul (by decide)
theorem b_m {i : Int} {S : Store} : bop .mod (.int i) (.int 2147483629) S = .ok (.int (i % 2147483629)) S := b_mod (by decide)
noncomputable def PTake (p : Nat) (many : Int) (S : Store) (d : D) (S' : Store) : Prop := ∃ k, d = .int k ∧ 0 ≤ k ∧ k < many ∧ Strm S' p ∧ Keep [p] S S' ∧ S'.length = S.length
theorem take_ok (st : Strm S p) {many : Int} (h0 : 0 < many) (h1 : many.natAbs < 2 ^ 4096) : Sat (callN T G W (n + 1) "_law_take" [.loc p, .int many] S) (PTake p many S) := by
  obtain ⟨a, b, c, hS⟩ := st
  rw [callN_eq T_f_law_take rfl]
  have s48 : small 48271 = true := by decide
  have keep : ∀ o, Keep [p] S (S.set p o) := fun o => Keep.set (by simp)
  have fin : ∀ (S1 : Store) (v : Int) (b' : Bool), S1[p]? = some (.lst [.int v, .bl b', .int c]) → Keep [p] S S1 → S1.length = S.length → Sat (evB (Cn T G W n) (dropS 2 f_law_take.body) [some (.loc p), some (.int many), none] S1) (fun fl S2 => ∃ d, fl = .rt d ∧ PTake p many S d S2) := by
    intro S1 v b' h k l
    have e0 : ixN 3 0 = some 0 := rfl
    have h2 : (S1.set p (.lst [.int ((v * 48271 + 11) % 2147483629), .bl b', .int c]))[p]? = some (.lst [.int ((v * 48271 + 11) % 2147483629), .bl b', .int c]) := set_get h
    simp [dropS, f_law_take, v_cst, v_var, v_bin, v_idx, v_tsub, v_asg, v_ret, v_b1, kVar, kBin, kIdx, kEn, kSub2, kSub, kNx, kAsg, kB, Res.bind_ok, kIdx2, ix_loc h (i := 0) rfl, rbop_0, b_48, b_m, st_loc h (i := 0) (j := 0) rfl]
    simp [v_cst, v_var, kVar, kBin, kRet, kB, Res.bind_ok, kIdx2, ix_loc h2 (i := 0) rfl, b_7, b_mod h0, List.set]
    exact ⟨_, rfl, Int.emod_nonneg _ (by omega), Int.emod_lt_of_pos _ h0, ⟨_, _, _, h2⟩, k.trans (Keep.set (by simp)), by simp [l]⟩
  have hb : f_law_take.body = .cns (headS f_law_take.body) (.cns (headS (dropS 1 f_law_take.body)) (dropS 2 f_law_take.body)) := rfl
  rw [hb]
  generalize dropS 2 f_law_take.body = rest at fin
  have hN : f_law_take.N.length = 3 := rfl
  cases b with
  | false =>
    simp [hN, headS, dropS, f_law_take, v_cst, v_var, w_bo, w_idx, v_bt2, v_ifs, v_b0, v_b1, kVar, kTru, tIdx, kBT, kIfs, kB, Res.bind_ok, kIdx2, ix_loc hS (i := 0) rfl, ix_loc hS (i := 1) rfl, tru, tIdx2]
    (first | (with_reducible refine Sat.p10 (fin S a false hS Keep.refl rfl) ?_) | (with_reducible refine Sat.p9 (fin S a false hS Keep.refl rfl) ?_) | (with_reducible refine Sat.p8 (fin S a false hS Keep.refl rfl) ?_) | (with_reducible refine Sat.p7 (fin S a false hS Keep.refl rfl) ?_) | (with_reducible refine Sat.p6 (fin S a false hS Keep.refl rfl) ?_) | (with_reducible refine Sat.p5 (fin S a false hS Keep.refl rfl) ?_) | (with_reducible refine Sat.p4 (fin S a false hS Keep.refl rfl) ?_) | (with_reducible refine Sat.p3 (fin S a false hS Keep.refl rfl) ?_) | (with_reducible refine Sat.p2 (fin S a false hS Keep.refl rfl) ?_) | (with_reducible refine Sat.p1 (fin S a false hS Keep.refl rfl) ?_) | (with_reducible refine Sat.p0 (fin S a false hS Keep.refl rfl) ?_))
    rintro fl S2 ⟨d, rfl, hp⟩
    simp [Res.bind_ok, finF]
    exact hp
  | true =>
    by_cases ha : 1 < a
    · have h2 : (S.set p (.lst [.int (a / many), .bl true, .int c]))[p]? = some (.lst [.int (a / many), .bl true, .int c]) := set_get hS
      simp [hN, headS, dropS, f_law_take, v_cst, v_var, v_bin, v_idx, w_bo, w_cmp, w_idx, v_bt1, v_bt2, v_tvar, v_tsub, v_asg, v_ifs, v_ret, v_b1, kVar, kBin, kIdx, kTru, tCmp2, tCmp', tIdx, kBT, kEn, kSub2, kSub, kNx, kAsg, kIfs, kRet, kB, Res.bind_ok, finF, kIdx2, ix_loc hS (i := 0) rfl, ix_loc hS (i := 1) rfl, tru, tIdx2, cop, ha, b_mod h0, b_div h0 h1, st_loc hS (i := 0) (j := 0) rfl, List.set]
      exact ⟨_, rfl, Int.emod_nonneg _ (by omega), Int.emod_lt_of_pos _ h0, ⟨_, _, _, h2⟩, Keep.set (by simp), by simp⟩
    · have h2 : (S.set p (.lst [.int c, .bl true, .int c]))[p]? = some (.lst [.int c, .bl true, .int c]) := set_get hS
      have h3 : ((S.set p (.lst [.int c, .bl true, .int c])).set p (.lst [.int c, .bl false, .int c]))[p]? = some (.lst [.int c, .bl false, .int c]) := set_get h2
      simp [hN, headS, dropS, f_law_take, v_cst, v_var, v_idx, w_bo, w_cmp, w_idx, v_bt1, v_bt2, v_tsub, v_asg, v_ifs, v_b0, v_b1, kVar, kIdx, kTru, tCmp2, tCmp', tIdx, kBT, kEn, kSub2, kSub, kNx, kAsg, kIfs, kB, Res.bind_ok, kIdx2, ix_loc hS (i := 0) rfl, ix_loc hS (i := 1) rfl, ix_loc hS (i := 2) rfl, tru, tIdx2, cop, ha, st_loc hS (i := 0) (j := 0) rfl, List.set]
      rw [st_loc h2 (i := 1) (j := 1) rfl]
      simp only [List.set]
      simp [v_b0, kEn, kNx, kB, Res.bind_ok]
      (first | (with_reducible refine Sat.p10 (fin (S.set p (.lst [.int c, .bl false, .int c])) c false (set_get hS) (Keep.set (by simp)) (by simp)) ?_) | (with_reducible refine Sat.p9 (fin (S.set p (.lst [.int c, .bl false, .int c])) c false (set_get hS) (Keep.set (by simp)) (by simp)) ?_) | (with_reducible refine Sat.p8 (fin (S.set p (.lst [.int c, .bl false, .int c])) c false (set_get hS) (Keep.set (by simp)) (by simp)) ?_) | (with_reducible refine Sat.p7 (fin (S.set p (.lst [.int c, .bl false, .int c])) c false (set_get hS) (Keep.set (by simp)) (by simp)) ?_) | (with_reducible refine Sat.p6 (fin (S.set p (.lst [.int c, .bl false, .int c])) c false (set_get hS) (Keep.set (by simp)) (by simp)) ?_) | (with_reducible refine Sat.p5 (fin (S.set p (.lst [.int c, .bl false, .int c])) c false (set_get hS) (Keep.set (by simp)) (by simp)) ?_) | (with_reducible refine Sat.p4 (fin (S.set p (.lst [.int c, .bl false, .int c])) c false (set_get hS) (Keep.set (by simp)) (by simp)) ?_) | (with_reducible refine Sat.p3 (fin (S.set p (.lst [.int c, .bl false, .int c])) c false (set_get hS) (Keep.set (by simp)) (by simp)) ?_) | (with_reducible refine Sat.p2 (fin (S.set p (.lst [.int c, .bl false, .int c])) c false (set_get hS) (Keep.set (by simp)) (by simp)) ?_) | (with_reducible refine Sat.p1 (fin (S.set p (.lst [.int c, .bl false, .int c])) c false (set_get hS) (Keep.set (by simp)) (by simp)) ?_) | (with_reducible refine Sat.p0 (fin (S.set p (.lst [.int c, .bl false, .int c])) c false (set_get hS) (Keep.set (by simp)) (by simp)) ?_))
      rintro fl S2 ⟨d, rfl, hp⟩
      simp [Res.bind_ok, finF]
      exact hp
end
end K32

namespace K32
open PySem L2 Mi Tr
section
variable {W n : Nat} {S : Store} {p : Nat} {r : Nd} {A : Nat}
theorem pow30 {S : Store} : bop .pow (.int 10) (.int 30) S = .ok (.int 1000000000000000000000000000000) S := by rw [rbop_10]; rfl
theorem Strm.keep {S S' : Store} {q : Nat} {ps : List Nat} (h : Strm S q) (k : Keep ps S S') (n : q ∉ ps) : Strm S' q := by
  obtain ⟨a, b, c, e⟩ := h
  exact ⟨a, b, c, k.get e n⟩
noncomputable def PWt (p : Nat) (S : Store) (d : D) (S' : Store) : Prop := ∃ k, d = .int k ∧ 1 ≤ k ∧ Strm S' p ∧ Keep [p] S S'
theorem pick3 {k a b c : Int} (h0 : 0 ≤ k) (h1 : k < 3) : ∃ m, atI [D.int a, .int b, .int c] k = some (.int m) ∧ (m = a ∨ m = b ∨ m = c) := by
  have : k = 0 ∨ k = 1 ∨ k = 2 := by omega
  rcases this with rfl | rfl | rfl
  · exact ⟨a, rfl, .inl rfl⟩
  · exact ⟨b, rfl, .inr (.inl rfl)⟩
  · exact ⟨c, rfl, .inr (.inr rfl)⟩
theorem weightL_ok (st : Strm S p) : Sat (callN T G W (n + 2) "_law_weight" [.loc p] S) (PWt p S) := by
  rw [callN_eq T_f_law_weight rfl]
  simp [f_law_weight, v_cst, v_var, v_bin, v_lst, v_idx, v_call, v_a0, v_a1, v_ret, v_b1, kVar, kBin, kLst, kIdx, kCons, kArg, Res.bind_ok, Cn_call, pow30, Line]
  have st1 : Strm (S ++ [Mi.Obj.lst [D.int 2, D.int 5, D.int 1000000000000000000000000000000]]) p := st.keep (ps := []) (Keep.new _) (by simp)
  (first | (with_reducible refine Sat.p10 (take_ok (W := W) (n := n) st1 (many := 3) (by decide) (by decide)) ?_) | (with_reducible refine Sat.p9 (take_ok (W := W) (n := n) st1 (many := 3) (by decide) (by decide)) ?_) | (with_reducible refine Sat.p8 (take_ok (W := W) (n := n) st1 (many := 3) (by decide) (by decide)) ?_) | (with_reducible refine Sat.p7 (take_ok (W := W) (n := n) st1 (many := 3) (by decide) (by decide)) ?_) | (with_reducible refine Sat.p6 (take_ok (W := W) (n := n) st1 (many := 3) (by decide) (by decide)) ?_) | (with_reducible refine Sat.p5 (take_ok (W := W) (n := n) st1 (many := 3) (by decide) (by decide)) ?_) | (with_reducible refine Sat.p4 (take_ok (W := W) (n := n) st1 (many := 3) (by decide) (by decide)) ?_) | (with_reducible refine Sat.p3 (take_ok (W := W) (n := n) st1 (many := 3) (by decide) (by decide)) ?_) | (with_reducible refine Sat.p2 (take_ok (W := W) (n := n) st1 (many := 3) (by decide) (by decide)) ?_) | (with_reducible refine Sat.p1 (take_ok (W := W) (n := n) st1 (many := 3) (by decide) (by decide)) ?_) | (with_reducible refine Sat.p0 (take_ok (W := W) (n := n) st1 (many := 3) (by decide) (by decide)) ?_))
  rintro _ S1 ⟨k, rfl, h0, h1, st2, k1, ln⟩
  obtain ⟨m, em, hm⟩ := pick3 (a := 2) (b := 5) (c := 1000000000000000000000000000000) h0 h1
  have hl : S1[S.length]? = some (.lst [D.int 2, D.int 5, D.int 1000000000000000000000000000000]) := k1.get new_get (by
    obtain ⟨a, b, c, e⟩ := st
    have := get_lt e
    simp; omega)
  simp [Res.bind_ok]
  rw [kIdx_loc hl em]
  simp [v_a0, kCons, kArg, Res.bind_ok]
  have mp : 0 < m := by rcases hm with rfl | rfl | rfl <;> decide
  have mb : m.natAbs < 2 ^ 4096 := by rcases hm with rfl | rfl | rfl <;> decide
  (first | (with_reducible refine Sat.p10 (take_ok (W := W) (n := n) st2 mp mb) ?_) | (with_reducible refine Sat.p9 (take_ok (W := W) (n := n) st2 mp mb) ?_) | (with_reducible refine Sat.p8 (take_ok (W := W) (n := n) st2 mp mb) ?_) | (with_reducible refine Sat.p7 (take_ok (W := W) (n := n) st2 mp mb) ?_) | (with_reducible refine Sat.p6 (take_ok (W := W) (n := n) st2 mp mb) ?_) | (with_reducible refine Sat.p5 (take_ok (W := W) (n := n) st2 mp mb) ?_) | (with_reducible refine Sat.p4 (take_ok (W := W) (n := n) st2 mp mb) ?_) | (with_reducible refine Sat.p3 (take_ok (W := W) (n := n) st2 mp mb) ?_) | (with_reducible refine Sat.p2 (take_ok (W := W) (n := n) st2 mp mb) ?_) | (with_reducible refine Sat.p1 (take_ok (W := W) (n := n) st2 mp mb) ?_) | (with_reducible refine Sat.p0 (take_ok (W := W) (n := n) st2 mp mb) ?_))
  rintro _ S2 ⟨k', rfl, h2, h3, st3, k2, ln2⟩
  simp [kRet, kB, Res.bind_ok, finF, rbop_0]
  exact ⟨_, rfl, by omega, st3, (Keep.new _).trans (k1.trans k2)⟩
noncomputable def INum (r : Nd) (p A : Nat) (S : Store) (τ : En) (S' : Store) : Prop := ∃ y, τ = [some (.loc p), some (.loc A), some (.int y)] ∧ 1 ≤ y ∧ S' = S
noncomputable def ZNum (r : Nd) (p A : Nat) (S : Store) (τ : En) (S' : Store) : Prop := ∃ y, τ = [some (.loc p), some (.loc A), some (.int y)] ∧ 1 ≤ y ∧ ¬ inT r y ∧ S' = S
noncomputable def muN (r : Nd) (τ : En) : Nat := match τ with
  | [_, _, some (.int y)] => (keys r).countP (fun k => decide (y ≤ k))
  | _ => 0
noncomputable def PNum (r : Nd) (p : Nat) (S : Store) (d : D) (S' : Store) : Prop := ∃ k, d = .int k ∧ ¬ inT r k ∧ Strm S' p ∧ Keep [p] S S'
theorem count_lt {y : Int} : ∀ {ks : List Int}, y ∈ ks → ks.countP (fun k => decide (y + 1 ≤ k)) < ks.countP (fun k => decide (y ≤ k))
  | k :: ks, h => by
    have le : ks.countP (fun k => decide (y + 1 ≤ k)) ≤ ks.countP (fun k => decide (y ≤ k)) := List.countP_mono_left fun x _ hx => by simp at hx ⊢; omega
    rw [List.countP_cons, List.countP_cons]
    rcases List.mem_cons.mp h with rfl | h
    · have e1 : decide (y + 1 ≤ y) = false := by simp; omega
      have e2 : decide (y ≤ y) = true := by simp
      rw [e1, e2]; simp; omega
    · have ih := count_lt h
      by_cases c : y + 1 ≤ k
      · have : y ≤ k := by omega
        simp [c, this]; omega
      · by_cases c2 : y ≤ k
        · simp [c, c2]; omega
        · simp [c, c2]; omega
theorem numberL_ok (w : Wf r) (st : Strm S p) (hA : S[A]? = some (.dct (aheads r))) (ne : p ≠ A) (ln : r.length < 99) : Sat (callN T G 100 (n + 2) "_law_number" [.loc p, .loc A] S) (PNum r p S) := by
  rw [callN_eq T_f_law_number rfl]
  simp [f_law_number, v_cst, v_var, v_bin, v_lst, v_idx, v_call, v_a0, v_a1, v_asg, v_b1, kVar, kBin, kLst, kIdx, kCons, kArg, Res.bind_ok, Cn_call, pow30, Line]
  have st1 : Strm (S ++ [Mi.Obj.lst [D.int 9, D.int 40, D.int 1000000000000000000000000000000]]) p := st.keep (ps := []) (Keep.new _) (by simp)
  (first | (with_reducible refine Sat.p10 (take_ok (W := 100) (n := n) st1 (many := 3) (by decide) (by decide)) ?_) | (with_reducible refine Sat.p9 (take_ok (W := 100) (n := n) st1 (many := 3) (by decide) (by decide)) ?_) | (with_reducible refine Sat.p8 (take_ok (W := 100) (n := n) st1 (many := 3) (by decide) (by decide)) ?_) | (with_reducible refine Sat.p7 (take_ok (W := 100) (n := n) st1 (many := 3) (by decide) (by decide)) ?_) | (with_reducible refine Sat.p6 (take_ok (W := 100) (n := n) st1 (many := 3) (by decide) (by decide)) ?_) | (with_reducible refine Sat.p5 (take_ok (W := 100) (n := n) st1 (many := 3) (by decide) (by decide)) ?_) | (with_reducible refine Sat.p4 (take_ok (W := 100) (n := n) st1 (many := 3) (by decide) (by decide)) ?_) | (with_reducible refine Sat.p3 (take_ok (W := 100) (n := n) st1 (many := 3) (by decide) (by decide)) ?_) | (with_reducible refine Sat.p2 (take_ok (W := 100) (n := n) st1 (many := 3) (by decide) (by decide)) ?_) | (with_reducible refine Sat.p1 (take_ok (W := 100) (n := n) st1 (many := 3) (by decide) (by decide)) ?_) | (with_reducible refine Sat.p0 (take_ok (W := 100) (n := n) st1 (many := 3) (by decide) (by decide)) ?_))
  rintro _ S1 ⟨k, rfl, h0, h1, st2, k1, l1⟩
  obtain ⟨m, em, hm⟩ := pick3 (a := 9) (b := 40) (c := 1000000000000000000000000000000) h0 h1
  have hl : S1[S.length]? = some (.lst [D.int 9, D.int 40, D.int 1000000000000000000000000000000]) := k1.get new_get (by
    obtain ⟨a, b, c, e⟩ := st
    have := get_lt e
    simp; omega)
  simp [Res.bind_ok]
  rw [kIdx_loc hl em]
  simp [v_a0, kCons, kArg, Res.bind_ok]
  have mp : 0 < m := by rcases hm with rfl | rfl | rfl <;> decide
  have mb : m.natAbs < 2 ^ 4096 := by rcases hm with rfl | rfl | rfl <;> decide
  (first | (with_reducible refine Sat.p10 (take_ok (W := 100) (n := n) st2 mp mb) ?_) | (with_reducible refine Sat.p9 (take_ok (W := 100) (n := n) st2 mp mb) ?_) | (with_reducible refine Sat.p8 (take_ok (W := 100) (n := n) st2 mp mb) ?_) | (with_reducible refine Sat.p7 (take_ok (W := 100) (n := n) st2 mp mb) ?_) | (with_reducible refine Sat.p6 (take_ok (W := 100) (n := n) st2 mp mb) ?_) | (with_reducible refine Sat.p5 (take_ok (W := 100) (n := n) st2 mp mb) ?_) | (with_reducible refine Sat.p4 (take_ok (W := 100) (n := n) st2 mp mb) ?_) | (with_reducible refine Sat.p3 (take_ok (W := 100) (n := n) st2 mp mb) ?_) | (with_reducible refine Sat.p2 (take_ok (W := 100) (n := n) st2 mp mb) ?_) | (with_reducible refine Sat.p1 (take_ok (W := 100) (n := n) st2 mp mb) ?_) | (with_reducible refine Sat.p0 (take_ok (W := 100) (n := n) st2 mp mb) ?_))
  rintro _ S2 ⟨k', rfl, h2, h3, st3, k2, l2⟩
  have kk : Keep [p] S S2 := (Keep.new _).trans (k1.trans k2)
  have hA2 := kk.get hA (by simp; exact Ne.symm ne)
  simp [v_tvar, v_whl, v_b1, kNx, kAsg, kB, Res.bind_ok, Cn_W, rbop_0]
  (first | (with_reducible refine Sat.p10 (loopW (INum r p A S2) (fun τ _ => muN r τ) noB noR (ZNum r p A S2) ?_ 100 _ _ ?_ ?_) ?_) | (with_reducible refine Sat.p9 (loopW (INum r p A S2) (fun τ _ => muN r τ) noB noR (ZNum r p A S2) ?_ 100 _ _ ?_ ?_) ?_) | (with_reducible refine Sat.p8 (loopW (INum r p A S2) (fun τ _ => muN r τ) noB noR (ZNum r p A S2) ?_ 100 _ _ ?_ ?_) ?_) | (with_reducible refine Sat.p7 (loopW (INum r p A S2) (fun τ _ => muN r τ) noB noR (ZNum r p A S2) ?_ 100 _ _ ?_ ?_) ?_) | (with_reducible refine Sat.p6 (loopW (INum r p A S2) (fun τ _ => muN r τ) noB noR (ZNum r p A S2) ?_ 100 _ _ ?_ ?_) ?_) | (with_reducible refine Sat.p5 (loopW (INum r p A S2) (fun τ _ => muN r τ) noB noR (ZNum r p A S2) ?_ 100 _ _ ?_ ?_) ?_) | (with_reducible refine Sat.p4 (loopW (INum r p A S2) (fun τ _ => muN r τ) noB noR (ZNum r p A S2) ?_ 100 _ _ ?_ ?_) ?_) | (with_reducible refine Sat.p3 (loopW (INum r p A S2) (fun τ _ => muN r τ) noB noR (ZNum r p A S2) ?_ 100 _ _ ?_ ?_) ?_) | (with_reducible refine Sat.p2 (loopW (INum r p A S2) (fun τ _ => muN r τ) noB noR (ZNum r p A S2) ?_ 100 _ _ ?_ ?_) ?_) | (with_reducible refine Sat.p1 (loopW (INum r p A S2) (fun τ _ => muN r τ) noB noR (ZNum r p A S2) ?_ 100 _ _ ?_ ?_) ?_) | (with_reducible refine Sat.p0 (loopW (INum r p A S2) (fun τ _ => muN r τ) noB noR (ZNum r p A S2) ?_ 100 _ _ ?_ ?_) ?_))
  · rintro _ _ ⟨y, rfl, hy, rfl⟩
    have vy : (dVal (aheads r) y).isSome = decide (inT r y) := by
      rw [aheads_val w]
      unfold inT
      by_cases e : y = 0
      · omega
      · by_cases q : y ∈ keys r <;> simp [e, q]
    simp [v_cst, v_var, v_bin, w_cmp, v_tvar, v_asg, v_b0, v_b1, kVar, kBin, tCmp2, tCmp', kNx, kAsg, kB, Res.bind_ok, cop_in hA2, vy]
    by_cases c : inT r y
    · simp [c, rbop_0]
      refine ⟨⟨y + 1, rfl, by omega, rfl⟩, ?_⟩
      exact count_lt (c.resolve_left (by omega))
    · simp [c]
      exact ⟨y, rfl, hy, c, rfl⟩
  · exact ⟨_, rfl, by omega, rfl⟩
  · have : (keys r).countP (fun k => decide (1 + k' ≤ k)) ≤ (keys r).length := List.countP_le_length
    have e : (keys r).length = r.length := by simp [keys]
    show (keys r).countP (fun k => decide (1 + k' ≤ k)) < 100
    omega
  intro fl S3 q
  obtain ⟨_, rfl, y, rfl, hy, hn, rfl⟩ := q.nx
  simp [v_var, v_ret, v_b1, kVar, kRet, kB, Res.bind_ok, finF]
  exact ⟨y, rfl, hn, st3, kk⟩
end
end K32

namespace K32
open PySem L2 Mi Tr
noncomputable def IGr (ps : List Nat) (L : Nat) (S : Store) (i : Nat) (τ : En) (S' : Store) : Prop := ∃ r u v x y, r.length = i ∧ Wf r ∧ τ = [some (.loc L), some (.loc S.length), some (.loc (S.length + 1)), some (.loc (S.length + 2)), u, v, x, y] ∧ S'[S.length]? = some (.dct (aheads r)) ∧ S'[S.length + 1]? = some (.dct (weights r)) ∧ S'[S.length + 2]? = some (.lst (rows r)) ∧ (∀ p ∈ ps, Strm S' p) ∧ S'[L]? = some (.lst (ps.map D.loc)) ∧ Keep ps S S'
noncomputable def PGr (ps : List Nat) (L : Nat) (S : Store) (d : D) (S' : Store) : Prop := ∃ r, r.length = ps.length ∧ Wf r ∧ d = .tup [.loc (S.length + 2), .loc S.length, .loc (S.length + 1)] ∧ S'[S.length]? = some (.dct (aheads r)) ∧ S'[S.length + 1]? = some (.dct (weights r)) ∧ S'[S.length + 2]? = some (.lst (rows r)) ∧ (∀ p ∈ ps, Strm S' p) ∧ S'[L]? = some (.lst (ps.map D.loc)) ∧ Keep ps S S'
theorem strm_ne {S : Store} {p L : Nat} {ps : List Nat} (h : Strm S p) (hL : S[L]? = some (.lst (ps.map D.loc))) : L ≠ p := by
  rintro rfl
  obtain ⟨a, b, c, e⟩ := h
  rw [hL] at e
  cases ps with
  | nil => simp at e
  | cons q ps => simp at e
theorem strms_keep {S S' : Store} {p : Nat} {ps : List Nat} (h : ∀ q ∈ ps, Strm S q) (k : Keep [p] S S') (hp : Strm S' p) : ∀ q ∈ ps, Strm S' q := fun q hq => by
  by_cases e : q = p
  · rw [e]; exact hp
  · exact (h q hq).keep k (by simpa using e)
theorem atI_last {ds : List D} {d : D} : atI (ds ++ [d]) (-1) = some d := by
  simp only [atI, ixN, List.length_append, List.length_singleton]
  rw [if_neg (by decide)]
  have e : (-1 + ((ds.length : Int) + 1)).toNat = ds.length := by omega
  have c : (1 : Int) ≤ ds.length + 1 := by omega
  simp [e, c]
structure Lay (r : Nd) (ps : List Nat) (L : Nat) (S S' : Store) : Prop where
  a : S'[S.length]? = some (.dct (aheads r))
  b : S'[S.length + 1]? = some (.dct (weights r))
  c : S'[S.length + 2]? = some (.lst (rows r))
  st : ∀ p ∈ ps, Strm S' p
  l : S'[L]? = some (.lst (ps.map D.loc))
  k : Keep ps S S'
theorem Lay.take {r : Nd} {ps : List Nat} {L p : Nat} {S S1 S2 : Store} (y : Lay r ps L S S1) (hp : p ∈ ps) (pn : p < S.length) (k : Keep [p] S1 S2) (st : Strm S2 p) : Lay r ps L S S2 := by
  have ne : L ≠ p := strm_ne (y.st p hp) y.l
  exact ⟨k.get y.a (by simp; omega), k.get y.b (by simp; omega), k.get y.c (by simp; omega), strms_keep y.st k st, k.get y.l (by simpa using ne), y.k.trans (k.mono (by simpa using hp))⟩
theorem Lay.new {r : Nd} {ps : List Nat} {L : Nat} {S S1 : Store} (y : Lay r ps L S S1) (X : Store) : Lay r ps L S (S1 ++ X) :=
  ⟨old_get y.a, old_get y.b, old_get y.c, fun p h => (y.st p h).keep (ps := []) (Keep.new _) (by simp), old_get y.l, y.k.trans (Keep.new _)⟩
section
variable {n : Nat} {S : Store} {ps : List Nat} {L : Nat}
theorem grown_ok (hL : S[L]? = some (.lst (ps.map D.loc))) (hp : ∀ p ∈ ps, Strm S p) (hn : ps.length ≤ 60) : Sat (callN T G 100 (n + 3) "_law_grown" [.loc L] S) (PGr ps L S) := by
  rw [callN_eq T_f_law_grown rfl]
  have hLn := get_lt hL
  have pn : ∀ p ∈ ps, p < S.length := fun p h => by obtain ⟨a, b, c, e⟩ := hp p h; exact get_lt e
  simp [f_law_grown, v_cst, v_var, v_lst, v_dlit, kDl, v_a0, v_seq, v_tvar, v_asg, v_for, v_b1, kVar, kLst, kSeq, kNx, kAsg, kB, Res.bind_ok, Line, kDl2, dctAt]
  have hL1 : (S ++ [Mi.Obj.dct [(0, D.non)], Mi.Obj.dct [(0, D.int 0)], Mi.Obj.lst []])[L]? = some (.lst (ps.map D.loc)) := old_get hL
  simp only [seqAt_of hL1, Res.bind_ok]
  (first | (with_reducible refine Sat.p10 (loopS (IGr ps L S) noB noR ?_ ?_ ?_) ?_) | (with_reducible refine Sat.p9 (loopS (IGr ps L S) noB noR ?_ ?_ ?_) ?_) | (with_reducible refine Sat.p8 (loopS (IGr ps L S) noB noR ?_ ?_ ?_) ?_) | (with_reducible refine Sat.p7 (loopS (IGr ps L S) noB noR ?_ ?_ ?_) ?_) | (with_reducible refine Sat.p6 (loopS (IGr ps L S) noB noR ?_ ?_ ?_) ?_) | (with_reducible refine Sat.p5 (loopS (IGr ps L S) noB noR ?_ ?_ ?_) ?_) | (with_reducible refine Sat.p4 (loopS (IGr ps L S) noB noR ?_ ?_ ?_) ?_) | (with_reducible refine Sat.p3 (loopS (IGr ps L S) noB noR ?_ ?_ ?_) ?_) | (with_reducible refine Sat.p2 (loopS (IGr ps L S) noB noR ?_ ?_ ?_) ?_) | (with_reducible refine Sat.p1 (loopS (IGr ps L S) noB noR ?_ ?_ ?_) ?_) | (with_reducible refine Sat.p0 (loopS (IGr ps L S) noB noR ?_ ?_ ?_) ?_))
  · exact ⟨[], _, _, _, _, rfl, trivial, rfl, by simp [aheads], by simp [weights], by simp [rows], fun p h => (hp p h).keep (ps := []) (Keep.new _) (by simp), hL1, Keep.new _⟩
  · rintro i τ S2 ⟨r, u, v, x, y, e1, w, e2, hA, hB, hR, hs, hl, k⟩
    exact hl
  · rintro i d _ S1 hd ⟨r, u, v, x, y, e1, w, rfl, hA, hB, hR, hs, hl, k⟩
    rw [List.getElem?_map] at hd
    obtain ⟨p, hpi, rfl⟩ := Option.map_eq_some_iff.mp hd
    have hm : p ∈ ps := List.mem_of_getElem? hpi
    have pl := pn p hm
    have hi := (List.getElem?_eq_some_iff.mp hpi).1
    have y1 : Lay r ps L S S1 := ⟨hA, hB, hR, hs, hl, k⟩
    have ks := aheads_keys r
    obtain ⟨ds, hds⟩ : ∃ ds, (aheads r).map (fun p => D.int p.1) = ds := ⟨_, rfl⟩
    have y2 := y1.new [Mi.Obj.lst ds]
    have hq : (S1 ++ [Mi.Obj.lst ds])[S1.length]? = some (.lst ds) := new_get
    have dl : ds.length = r.length + 1 := by rw [← hds, List.length_map, aheads_len]
    have din : ∀ d ∈ ds, ∃ a, d = .int a ∧ inT r a := fun d hd => by
      rw [← hds, ks] at hd
      obtain ⟨a, ha, rfl⟩ := List.mem_map.mp hd
      refine ⟨a, rfl, ?_⟩
      rcases List.mem_cons.mp ha with z | z
      · exact .inl z
      · exact .inr (by simpa using z)
    have y1l : S.length + 2 < S1.length := get_lt hR
    obtain ⟨a0, ea0, ia0⟩ : ∃ a, atI ds (-1) = some (.int a) ∧ inT r a := by
      rcases List.eq_nil_or_concat ds with z | ⟨ds', d, z⟩
      · rw [z] at dl; simp at dl
      · rw [List.concat_eq_append] at z
        obtain ⟨a, ea, ia⟩ := din d (by rw [z]; simp)
        exact ⟨a, by rw [z, atI_last, ea], ia⟩
    simp [turnF, v_cst, v_var, v_neg, v_lst, v_idx, v_prim, v_a0, v_a1, v_tvar, v_asg, v_b1, kVar, kNeg, kIdx, kCons, kArg, kNx, kAsg, kB, Res.bind_ok, list_dct hA, hds]
    rw [kIdx_loc hq ea0]
    simp [v_var, v_idx, v_call, v_prim, v_a0, v_a1, kVar, kIdx, kCons, kArg, Res.bind_ok, Cn_call, rprimD_0, seqOf, seqAt_of hq]
    (first | (with_reducible refine Sat.p10 (take_ok (W := 100) (n := n + 1) (y2.st p hm) (many := (ds.length : Int)) (by omega) (by omega)) ?_) | (with_reducible refine Sat.p9 (take_ok (W := 100) (n := n + 1) (y2.st p hm) (many := (ds.length : Int)) (by omega) (by omega)) ?_) | (with_reducible refine Sat.p8 (take_ok (W := 100) (n := n + 1) (y2.st p hm) (many := (ds.length : Int)) (by omega) (by omega)) ?_) | (with_reducible refine Sat.p7 (take_ok (W := 100) (n := n + 1) (y2.st p hm) (many := (ds.length : Int)) (by omega) (by omega)) ?_) | (with_reducible refine Sat.p6 (take_ok (W := 100) (n := n + 1) (y2.st p hm) (many := (ds.length : Int)) (by omega) (by omega)) ?_) | (with_reducible refine Sat.p5 (take_ok (W := 100) (n := n + 1) (y2.st p hm) (many := (ds.length : Int)) (by omega) (by omega)) ?_) | (with_reducible refine Sat.p4 (take_ok (W := 100) (n := n + 1) (y2.st p hm) (many := (ds.length : Int)) (by omega) (by omega)) ?_) | (with_reducible refine Sat.p3 (take_ok (W := 100) (n := n + 1) (y2.st p hm) (many := (ds.length : Int)) (by omega) (by omega)) ?_) | (with_reducible refine Sat.p2 (take_ok (W := 100) (n := n + 1) (y2.st p hm) (many := (ds.length : Int)) (by omega) (by omega)) ?_) | (with_reducible refine Sat.p1 (take_ok (W := 100) (n := n + 1) (y2.st p hm) (many := (ds.length : Int)) (by omega) (by omega)) ?_) | (with_reducible refine Sat.p0 (take_ok (W := 100) (n := n + 1) (y2.st p hm) (many := (ds.length : Int)) (by omega) (by omega)) ?_))
    rintro _ S2 ⟨k1, rfl, h0, h1, st2, kp2, l2⟩
    have y3 := y2.take hm pl kp2 st2
    have hq2 := kp2.get hq (by simp; omega)
    obtain ⟨d1, ed1, md1, _⟩ := atI_lt (xs := ds) h0 h1
    obtain ⟨a1, rfl, ia1⟩ := din d1 md1
    simp [Res.bind_ok]
    rw [kIdx_loc hq2 ed1]
    simp [v_cst, v_var, v_call, v_a0, v_a1, kVar, kLst, kIdx, kCons, kArg, Res.bind_ok, Cn_call, Line]
    have y4 := y3.new [Mi.Obj.lst [D.int a0, D.int a1]]
    (first | (with_reducible refine Sat.p10 (take_ok (W := 100) (n := n + 1) (y4.st p hm) (many := 2) (by decide) (by decide)) ?_) | (with_reducible refine Sat.p9 (take_ok (W := 100) (n := n + 1) (y4.st p hm) (many := 2) (by decide) (by decide)) ?_) | (with_reducible refine Sat.p8 (take_ok (W := 100) (n := n + 1) (y4.st p hm) (many := 2) (by decide) (by decide)) ?_) | (with_reducible refine Sat.p7 (take_ok (W := 100) (n := n + 1) (y4.st p hm) (many := 2) (by decide) (by decide)) ?_) | (with_reducible refine Sat.p6 (take_ok (W := 100) (n := n + 1) (y4.st p hm) (many := 2) (by decide) (by decide)) ?_) | (with_reducible refine Sat.p5 (take_ok (W := 100) (n := n + 1) (y4.st p hm) (many := 2) (by decide) (by decide)) ?_) | (with_reducible refine Sat.p4 (take_ok (W := 100) (n := n + 1) (y4.st p hm) (many := 2) (by decide) (by decide)) ?_) | (with_reducible refine Sat.p3 (take_ok (W := 100) (n := n + 1) (y4.st p hm) (many := 2) (by decide) (by decide)) ?_) | (with_reducible refine Sat.p2 (take_ok (W := 100) (n := n + 1) (y4.st p hm) (many := 2) (by decide) (by decide)) ?_) | (with_reducible refine Sat.p1 (take_ok (W := 100) (n := n + 1) (y4.st p hm) (many := 2) (by decide) (by decide)) ?_) | (with_reducible refine Sat.p0 (take_ok (W := 100) (n := n + 1) (y4.st p hm) (many := 2) (by decide) (by decide)) ?_))
    rintro _ S3 ⟨k2, rfl, h2, h3, st3, kp3, l3⟩
    have y5 := y4.take hm pl kp3 st3
    have l2' : S1.length + 1 = S2.length := by rw [l2]; simp
    have hq3 : S3[S2.length]? = some (.lst [D.int a0, D.int a1]) := kp3.get new_get (by simp; omega)
    obtain ⟨a, ea, ia⟩ : ∃ a, atI [D.int a0, D.int a1] k2 = some (.int a) ∧ inT r a := by
      have : k2 = 0 ∨ k2 = 1 := by omega
      rcases this with rfl | rfl
      · exact ⟨a0, rfl, ia0⟩
      · exact ⟨a1, rfl, ia1⟩
    simp [Res.bind_ok]
    rw [kIdx_loc hq3 ea]
    simp [v_var, v_call, v_a0, v_a1, v_tvar, v_asg, v_b1, kVar, kCons, kArg, kNx, kAsg, kB, Res.bind_ok, Cn_call]
    (first | (with_reducible refine Sat.p10 (numberL_ok (n := n) w (y5.st p hm) y5.a (by omega) (by omega)) ?_) | (with_reducible refine Sat.p9 (numberL_ok (n := n) w (y5.st p hm) y5.a (by omega) (by omega)) ?_) | (with_reducible refine Sat.p8 (numberL_ok (n := n) w (y5.st p hm) y5.a (by omega) (by omega)) ?_) | (with_reducible refine Sat.p7 (numberL_ok (n := n) w (y5.st p hm) y5.a (by omega) (by omega)) ?_) | (with_reducible refine Sat.p6 (numberL_ok (n := n) w (y5.st p hm) y5.a (by omega) (by omega)) ?_) | (with_reducible refine Sat.p5 (numberL_ok (n := n) w (y5.st p hm) y5.a (by omega) (by omega)) ?_) | (with_reducible refine Sat.p4 (numberL_ok (n := n) w (y5.st p hm) y5.a (by omega) (by omega)) ?_) | (with_reducible refine Sat.p3 (numberL_ok (n := n) w (y5.st p hm) y5.a (by omega) (by omega)) ?_) | (with_reducible refine Sat.p2 (numberL_ok (n := n) w (y5.st p hm) y5.a (by omega) (by omega)) ?_) | (with_reducible refine Sat.p1 (numberL_ok (n := n) w (y5.st p hm) y5.a (by omega) (by omega)) ?_) | (with_reducible refine Sat.p0 (numberL_ok (n := n) w (y5.st p hm) y5.a (by omega) (by omega)) ?_))
    rintro _ S4 ⟨x, rfl, nx, st4, kp4⟩
    have y6 := y5.take hm pl kp4 st4
    simp [v_var, v_tup, v_call, v_meth, v_a0, v_a1, v_tvar, v_exp, v_b1, kVar, kMeth, kCons, kArg, kNx, kAsg, kB, Res.bind_ok, Cn_call, rcv_loc y6.c]
    (first | (with_reducible refine Sat.p10 (weightL_ok (W := 100) (n := n) (y6.st p hm)) ?_) | (with_reducible refine Sat.p9 (weightL_ok (W := 100) (n := n) (y6.st p hm)) ?_) | (with_reducible refine Sat.p8 (weightL_ok (W := 100) (n := n) (y6.st p hm)) ?_) | (with_reducible refine Sat.p7 (weightL_ok (W := 100) (n := n) (y6.st p hm)) ?_) | (with_reducible refine Sat.p6 (weightL_ok (W := 100) (n := n) (y6.st p hm)) ?_) | (with_reducible refine Sat.p5 (weightL_ok (W := 100) (n := n) (y6.st p hm)) ?_) | (with_reducible refine Sat.p4 (weightL_ok (W := 100) (n := n) (y6.st p hm)) ?_) | (with_reducible refine Sat.p3 (weightL_ok (W := 100) (n := n) (y6.st p hm)) ?_) | (with_reducible refine Sat.p2 (weightL_ok (W := 100) (n := n) (y6.st p hm)) ?_) | (with_reducible refine Sat.p1 (weightL_ok (W := 100) (n := n) (y6.st p hm)) ?_) | (with_reducible refine Sat.p0 (weightL_ok (W := 100) (n := n) (y6.st p hm)) ?_))
    rintro _ S5 ⟨wv, rfl, hw, st5, kp5⟩
    have y7 := y6.take hm pl kp5 st5
    have rl : (rows r).length < Line := by rw [rows_len]; show _ < 16777216; omega
    have al : (aheads r).length < Line := by rw [aheads_len]; show _ < 16777216; omega
    have bl : (weights r).length < Line := by rw [weights_len]; show _ < 16777216; omega
    have wf' : Wf ((x, a, wv) :: r) := ⟨fun z => nx (.inl z), fun z => nx (.inr z), ia, w⟩
    have va : dVal (aheads r) x = none := by rw [aheads_val w, if_neg (fun z => nx (.inl z)), if_neg (fun z => nx (.inr z))]
    have vb : dVal (weights r) x = none := by rw [weights_val w, if_neg (fun z => nx (.inl z)), if_neg (fun z => nx (.inr z))]
    have vw : dVal (weights r) a = some (.int (wt r a)) := by
      rw [weights_val w]
      by_cases z : a = 0
      · rw [if_pos z, z, wt_zero w]
      · rw [if_neg z, if_pos (ia.resolve_left z)]
    have ap : ∀ y, methD .append (.loc (S.length + 2)) [y] S5 = .ok .non (S5.set (S.length + 2) (.lst (rows r ++ [y]))) := fun y => by rw [rmethD_0, y7.c]; simp only [if_pos rl]
    have l3 : ∀ a b c : D, kTup [a, b, c] S5 = .ok (.tup [a, b, c]) S5 := fun a b c => by simp [kTup, Line]
    simp only [v_cst, v_var, v_glb, v_bin, v_neg, v_nott, v_bo, v_cmp, v_tup, v_lst, v_idx, v_sli, v_call, v_prim, v_isi, v_meth, v_comp, v_dnil, v_dlit, v_fld, v_mcl, v_new, v_mink, v_enm, v_sfd, w_mcl, kDl, kMcl2, kMcl, tMcl2, tMcl, kNew, kMk5, kMk4, kMk3, kMk2, kMk1, kSfd, w_nott, w_bo, w_cmp, w_var, w_idx, w_call, w_prim, w_isi, v_bv1, v_bv2, v_bt1, v_bt2, v_c0, v_c1, v_a0, v_a1, v_o0, v_o1, v_seq, v_tvar, v_ttup, v_tsub, v_gs0, v_gs1, v_asg, v_revl, v_ifs, v_ifx, v_rsx, v_rtk, v_asx, v_tri, v_kls, v_exx, v_asq, v_rtx, v_whx, kAsx2, kAsx, Res.kl_ok, Res.at_ok, v_ret, v_exp, v_for, v_whl, v_b0, v_b1, kVar, kGlb, kBin, kNeg, kNot, kCmp2, kCmp, kLst, kIdx, kSli2, kSli, kIsi, kMeth, kTru, tVar', tNotB, tCmp2, tCmp', tIdx, tCal, tPri, tIsi, kBV, kBT, kCons, kArg, kOpt, kSeq, kEn, kSub2, kSub, kGs, kNx, kAsg, kIfs, kRet, kExp, kB, kComp1, kEl1, kEl, kCd, Res.bind_ok, finF, Cn_call, Cn_glob, Cn_W, l3, ap]
    simp [v_var, v_tsub, kVar, kSub2, kSub, kAsg, Res.bind_ok]
    let R' := rows ((x, a, wv) :: r)
    let S6 := S5.set (S.length + 2) (.lst R')
    have c6 : S6[S.length + 2]? = some (.lst R') := set_get y7.c
    have a6 : S6[S.length]? = some (.dct (aheads r)) := by show (S5.set _ _)[_]? = _; rw [List.getElem?_set_ne (by omega)]; exact y7.a
    have b6 : S6[S.length + 1]? = some (.dct (weights r)) := by show (S5.set _ _)[_]? = _; rw [List.getElem?_set_ne (by omega)]; exact y7.b
    let S7 := S6.set S.length (.dct (aheads ((x, a, wv) :: r)))
    have c7 : S7[S.length + 2]? = some (.lst R') := by show (S6.set _ _)[_]? = _; rw [List.getElem?_set_ne (by omega)]; exact c6
    have b7 : S7[S.length + 1]? = some (.dct (weights r)) := by show (S6.set _ _)[_]? = _; rw [List.getElem?_set_ne (by omega)]; exact b6
    have a7 : S7[S.length]? = some (.dct (aheads ((x, a, wv) :: r))) := set_get a6
    let S8 := S7.set (S.length + 1) (.dct (weights ((x, a, wv) :: r)))
    rw [show List.set S5 (S.length + 2) (Mi.Obj.lst (rows r ++ [D.tup [D.int x, D.int a, D.int wv]])) = S6 from rfl, setS_dct a6 al, dPut_new va]
    rw [show List.set S6 S.length (Mi.Obj.dct (aheads r ++ [(x, D.int a)])) = S7 from rfl]
    simp [v_var, v_bin, v_idx, v_asg, v_b1, kVar, kIdx, kEn, kNx, kB, Res.bind_ok]
    rw [kIdx_dct b7 vw]
    simp [v_cst, v_var, v_neg, v_idx, kVar, kBin, kNeg, kIdx, Res.bind_ok]
    rw [kIdx_loc c7 (show atI R' (-1) = some (.tup [.int x, .int a, .int wv]) from atI_last)]
    simp [v_cst, v_var, v_tsub, kVar, kIdx, kSub2, kSub, kAsg, Res.bind_ok, rbop_0]
    rw [setS_dct b7 bl, dPut_new vb]
    simp [v_b0, kEn, kNx, kB, Res.bind_ok]
    have other : ∀ q, q < S.length → S8[q]? = S5[q]? := fun q hq => by
      show (((S5.set _ _).set _ _).set _ _)[q]? = _
      rw [List.getElem?_set_ne (by omega), List.getElem?_set_ne (by omega), List.getElem?_set_ne (by omega)]
    have len8 : S8.length = S5.length := by show (((S5.set _ _).set _ _).set _ _).length = _; simp
    refine ⟨(x, a, wv) :: r, _, _, _, _, by simp [e1], wf', rfl, ?_, set_get b7, ?_, fun q hq => ?_, ?_, ?_⟩
    · show (S7.set _ _)[_]? = _
      rw [List.getElem?_set_ne (by omega)]; exact a7
    · show (S7.set _ _)[_]? = _
      rw [List.getElem?_set_ne (by omega)]; exact c7
    · obtain ⟨aa, bb, cc, ee⟩ := y7.st q hq
      exact ⟨aa, bb, cc, (other q (pn q hq)).trans ee⟩
    · exact (other L hLn).trans y7.l
    · exact ⟨by show S.length ≤ S8.length; rw [len8]; exact y7.k.1, fun q hq nq => (other q hq).trans (y7.k.2 q hq nq)⟩
  intro fl S2 q
  obtain ⟨_, rfl, r, u, v, x, y, e1, w, rfl, hA, hB, hR, hs, hl, k⟩ := q.nx
  simp [v_var, v_tup, v_a0, v_a1, v_ret, v_b1, kVar, kTup, kCons, kArg, kRet, kB, Res.bind_ok, finF, Line]
  exact ⟨r, by simpa using e1, w, rfl, hA, hB, hR, hs, hl, k⟩
end
end K32

namespace K32
open PySem L2 Mi Tr
section
variable {W n : Nat} {S : Store}
theorem b_mulL {i j : Int} {S : Store} (h : small i = true) : bop .mul (.int i) (.int j) S = .ok (.int (i * j)) S := by rw [rbop_5, h]; simp
theorem b_69 {i : Int} {S : Store} : bop .mul (.int i) (.int 69621) S = .ok (.int (i * 69621)) S := b_mul (by decide)
theorem b_69L {i : Int} {S : Store} : bop .mul (.int 69621) (.int i) S = .ok (.int (69621 * i)) S := b_mulL (by decide)
theorem b_m7 {i : Int} {S : Store} : bop .mod (.int i) (.int 2147483647) S = .ok (.int (i % 2147483647)) S := b_mod (by decide)
theorem pow60 {S : Store} : bop .pow (.int 10) (.int 60) S = .ok (.int 1000000000000000000000000000000000000000000000000000000000000) S := by rw [rbop_10]; rfl
theorem sq60 {S : Store} : bop .mul (.int 1000000000000000000000000000000000000000000000000000000000000) (.int 1000000000000000000000000000000000000000000000000000000000000) S = .ok (.int (1000000000000000000000000000000000000000000000000000000000000 * 1000000000000000000000000000000000000000000000000000000000000)) S := by
  rw [rbop_5, if_pos (by decide)]
theorem m120 {i : Int} {S : Store} : bop .mod (.int i) (.int (1000000000000000000000000000000000000000000000000000000000000 * 1000000000000000000000000000000000000000000000000000000000000)) S = .ok (.int (i % (1000000000000000000000000000000000000000000000000000000000000 * 1000000000000000000000000000000000000000000000000000000000000))) S := b_mod (by decide)
theorem mixed_ok {c : Int} : callN T G W (n + 1) "_law_mixed" [.int c] S = .ok (.int ((c % 2147483647 + 11) * 48271 * 69621 % 2147483629)) S := by
  rw [callN_eq T_f_law_mixed rfl]
  simp [f_law_mixed, v_cst, v_var, v_bin, v_ret, v_b1, kVar, kBin, kRet, kB, Res.bind_ok, finF, rbop_0, b_m7, b_48, b_69, b_m]
noncomputable def PStr (S : Store) (d : D) (S' : Store) : Prop := ∃ a b c, d = .loc S.length ∧ S' = S ++ [.lst [.int a, .bl b, .int c]]
theorem stream_ok {c k : Int} {dg : Bool} : Sat (callN T G W (n + 2) "_law_stream" [.int c, .int k, .bl dg] S) (PStr S) := by
  rw [callN_eq T_f_law_stream rfl]
  cases dg with
  | false =>
    simp [f_law_stream, v_cst, v_var, v_bin, v_lst, v_call, w_var, v_a0, v_a1, v_tvar, v_asg, v_ifs, v_ret, v_b0, v_b1, kVar, kBin, kLst, kTru, tVar', kCons, kArg, kNx, kAsg, kIfs, kRet, kB, Res.bind_ok, finF, Cn_call, rbop_0, mixed_ok, b_69L, b_m, tru, Line]
    exact ⟨_, _, _, rfl, rfl⟩
  | true =>
    have d12 : ∀ (q : Bool) (i : Int) (S : Store), bop .fdiv (.int i) (.int (1 + if q = true then 1 else 0)) S = .ok (.int (i / (1 + if q = true then 1 else 0))) S := fun q i S => by
      cases q
      · exact b_div (by decide) (by decide)
      · exact b_div (by decide) (by decide)
    obtain ⟨B, hp, hm, hr⟩ : ∃ B : Int, (∀ S : Store, bop .pow (.int 10) (.int 60) S = .ok (.int B) S) ∧ (∀ S : Store, bop .mul (.int B) (.int B) S = .ok (.int (B * B)) S) ∧ (∀ (i : Int) (S : Store), bop .mod (.int i) (.int (B * B)) S = .ok (.int (i % (B * B))) S) := ⟨_, fun _ => pow60, fun _ => sq60, fun _ _ => m120⟩
    simp -implicitDefEqProofs [f_law_stream, v_cst, v_var, v_bin, v_cmp, v_lst, v_call, v_prim, w_var, v_a0, v_a1, v_tvar, v_asg, v_ifs, v_ret, v_b1, kVar, kBin, kCmp2, kCmp, kTru, tVar', kCons, kArg, kNx, kAsg, kIfs, kB, Res.bind_ok, Cn_call, rbop_0, mixed_ok, b_69L, b_m, tru, Line, hp, hm, hr, rprimD_5]
    have d12' := d12 (decide (k = 0))
    simp at d12'
    rw [d12']
    simp [v_cst, v_var, v_a0, v_a1, kVar, kLst, kCons, kArg, kRet, kB, Res.bind_ok, finF, Line]
    exact ⟨_, _, _, rfl, rfl⟩
noncomputable def PStrs (m : Nat) (S : Store) (d : D) (S' : Store) : Prop := ∃ (ps : List Nat) (L : Nat), d = .loc L ∧ S'[L]? = some (.lst (ps.map D.loc)) ∧ (∀ p ∈ ps, Strm S' p) ∧ ps.length ≤ 60 ∧ 0 < ps.length
noncomputable def IStr (S0 : Store) (l : Nat) (ds : List D) (i : Nat) (acc : List D) (S' : Store) : Prop := ∃ ps : List Nat, acc = ps.map D.loc ∧ ps.length = i ∧ (∀ p ∈ ps, Strm S' p) ∧ Ext S0 S'
theorem cop_gt {i j : Int} : cop .gt (.int i) (.int j) S = some (decide (j < i)) := rfl
theorem kl0 {a : D} {ds : List D} : kIdx2 (.kl (a :: ds)) (.int 0) S = .ok a S := by
  have e : atI (a :: ds) (0 : Int) = some a := by
    simp only [atI, ixN, List.length_cons]
    rw [if_pos (by decide), if_pos (by omega)]
    rfl
  simp only [kIdx2, idxD, seqOf, e]
theorem strs_tail (ns : List Int) (hn : ns.length ≤ 63) (dg : Bool) : Sat (evB (Cn T G W (n + 2)) (dropS 1 f_law_streams.body) [some (.kl (ns.map D.int)), some (.bl dg)] S) (fun fl S' => ∃ d, fl = .rt d ∧ PStrs ns.length S d S') := by
  have cat : bop .add (.kl (ns.map D.int)) (.loc S.length) (S ++ [Mi.Obj.lst [D.int 0]]) = .ok (.loc (S.length + 1)) (S ++ [Mi.Obj.lst [D.int 0]] ++ [Mi.Obj.lst (ns.map D.int ++ [D.int 0])]) := by
    rw [rbop_11, show (S ++ [Mi.Obj.lst [D.int 0]])[S.length]? = some (.lst [D.int 0]) from new_get]
    simp only
    rw [if_pos (by simp; show _ ≤ 16777216; omega)]
    simp
  simp [dropS, f_law_streams, v_cst, v_var, v_bin, v_lst, v_sli, v_comp, v_enm, v_a0, v_a1, v_o0, v_o1, v_ret, v_b1, kVar, kBin, kLst, kSli2, kSli, kCons, kArg, kOpt, Res.bind_ok, Line, cat]
  have h1 : (S ++ [Mi.Obj.lst [D.int 0], Mi.Obj.lst (ns.map D.int ++ [D.int 0])])[S.length + 1]? = some (.lst (ns.map D.int ++ [D.int 0])) := by simp
  rw [sliD_loc h1, cut_to (by decide)]
  obtain ⟨ds, hds⟩ : ∃ ds, List.take 60 (ns.map D.int ++ [D.int 0]) = ds := ⟨_, rfl⟩
  have dl : ds.length ≤ 60 ∧ 0 < ds.length := by rw [← hds]; simp; omega
  have din : ∀ d ∈ ds, ∃ c, d = .int c := fun d hd => by
    rw [← hds] at hd
    have := List.mem_of_mem_take hd
    simp at this
    rcases this with ⟨c, _, rfl⟩ | rfl
    · exact ⟨c, rfl⟩
    · exact ⟨0, rfl⟩
  simp [Res.bind_ok]
  rw [hds]
  obtain ⟨S3, hS3⟩ : ∃ S3, S ++ [Mi.Obj.lst [D.int 0], Mi.Obj.lst (ns.map D.int ++ [D.int 0]), Mi.Obj.lst ds] = S3 := ⟨_, rfl⟩
  have hq : S3[S.length + 2]? = some (.lst ds) := by rw [← hS3]; simp
  rw [hS3, kEnm_of hq]
  simp only [Res.bind_ok, kComp]
  have main : Sat (compL (turnC (Cn T G W (n + 2)) (.ttup (.cns (.tvar 0) (.cns (.tvar 1) .nul))) .nul (.call "_law_stream" (.cns (.var 1) (.cns (.var 0) (.cns (.var 2) .nul))))) (some (S.length + 2, .enm)) ds ds.length 0 (inEn 2 [1] [some (.kl (ns.map D.int)), some (.bl dg)]) S3 []) (IStr S3 (S.length + 2) ds ds.length) := by
    refine compL_enm (IStr S3 (S.length + 2) ds) (by show _ ≤ 16777216; omega) (fun i acc S1 h => ?_) (fun acc S1 h => h) (fun i d acc S1 hd h => ?_) _ 0 [] S3 (by simp) ⟨[], rfl, rfl, by simp, .refl _⟩
    · obtain ⟨ps, rfl, e, _, x⟩ := h
      exact ⟨by rw [List.length_map, e]; exact Nat.le_refl _, x.get hq⟩
    · obtain ⟨ps, rfl, e, hs, x⟩ := h
      obtain ⟨c, rfl⟩ := din d (List.mem_of_getElem? hd)
      simp [turnC, inEn, v_var, v_call, v_c0, v_a0, v_a1, v_tvar, v_ttup, v_gs0, v_gs1, kVar, kCons, kArg, Res.bind_ok, Cn_call]
      (first | (with_reducible refine Sat.p10 (stream_ok (W := W) (n := n) (S := S1) (c := c) (k := (i : Int)) (dg := dg)) ?_) | (with_reducible refine Sat.p9 (stream_ok (W := W) (n := n) (S := S1) (c := c) (k := (i : Int)) (dg := dg)) ?_) | (with_reducible refine Sat.p8 (stream_ok (W := W) (n := n) (S := S1) (c := c) (k := (i : Int)) (dg := dg)) ?_) | (with_reducible refine Sat.p7 (stream_ok (W := W) (n := n) (S := S1) (c := c) (k := (i : Int)) (dg := dg)) ?_) | (with_reducible refine Sat.p6 (stream_ok (W := W) (n := n) (S := S1) (c := c) (k := (i : Int)) (dg := dg)) ?_) | (with_reducible refine Sat.p5 (stream_ok (W := W) (n := n) (S := S1) (c := c) (k := (i : Int)) (dg := dg)) ?_) | (with_reducible refine Sat.p4 (stream_ok (W := W) (n := n) (S := S1) (c := c) (k := (i : Int)) (dg := dg)) ?_) | (with_reducible refine Sat.p3 (stream_ok (W := W) (n := n) (S := S1) (c := c) (k := (i : Int)) (dg := dg)) ?_) | (with_reducible refine Sat.p2 (stream_ok (W := W) (n := n) (S := S1) (c := c) (k := (i : Int)) (dg := dg)) ?_) | (with_reducible refine Sat.p1 (stream_ok (W := W) (n := n) (S := S1) (c := c) (k := (i : Int)) (dg := dg)) ?_) | (with_reducible refine Sat.p0 (stream_ok (W := W) (n := n) (S := S1) (c := c) (k := (i : Int)) (dg := dg)) ?_))
      rintro _ S2 ⟨a, b, cc, rfl, rfl⟩
      simp [Res.bind_ok]
      refine ⟨ps ++ [S1.length], by simp, by simp [e], fun p hp => ?_, x.more _⟩
      rcases List.mem_append.mp hp with z | z
      · exact (hs p z).keep (ps := []) (Keep.new _) (by simp)
      · rw [List.mem_singleton.mp z]
        exact ⟨a, b, cc, new_get⟩
  (first | (with_reducible refine Sat.p10 (main) ?_) | (with_reducible refine Sat.p9 (main) ?_) | (with_reducible refine Sat.p8 (main) ?_) | (with_reducible refine Sat.p7 (main) ?_) | (with_reducible refine Sat.p6 (main) ?_) | (with_reducible refine Sat.p5 (main) ?_) | (with_reducible refine Sat.p4 (main) ?_) | (with_reducible refine Sat.p3 (main) ?_) | (with_reducible refine Sat.p2 (main) ?_) | (with_reducible refine Sat.p1 (main) ?_) | (with_reducible refine Sat.p0 (main) ?_))
  rintro acc S4 ⟨ps, rfl, e, hs, x⟩
  simp [kRet, kB, kComp1, Res.bind_ok]
  exact ⟨ps, S4.length, rfl, new_get, fun p hp => (hs p hp).keep (ps := []) (Keep.new _) (by simp), by omega, by omega⟩
theorem streams_ok (ns : List Int) (hn : ns.length ≤ 63) : Sat (callN T G W (n + 3) "_law_streams" [.kl (ns.map D.int)] S) (PStrs ns.length S) := by
  rw [callN_eq T_f_law_streams rfl]
  have fin := fun dg => strs_tail (W := W) (n := n) (S := S) ns hn dg
  have hb : f_law_streams.body = .cns (headS f_law_streams.body) (dropS 1 f_law_streams.body) := rfl
  rw [hb]
  generalize dropS 1 f_law_streams.body = rest at fin
  have hN : f_law_streams.N.length = 2 := rfl
  cases ns with
  | nil =>
    simp only [List.map_nil] at fin
    simp [hN, headS, f_law_streams, v_cst, v_var, v_bo, v_cmp, v_prim, v_bv2, v_a0, v_a1, v_tvar, v_asg, v_b1, kVar, kCmp2, kCmp, kBV, kCons, kArg, kNx, kAsg, kB, Res.bind_ok, rprimD_0, seqOf, cop_gt]
    (first | (with_reducible refine Sat.p10 (fin false) ?_) | (with_reducible refine Sat.p9 (fin false) ?_) | (with_reducible refine Sat.p8 (fin false) ?_) | (with_reducible refine Sat.p7 (fin false) ?_) | (with_reducible refine Sat.p6 (fin false) ?_) | (with_reducible refine Sat.p5 (fin false) ?_) | (with_reducible refine Sat.p4 (fin false) ?_) | (with_reducible refine Sat.p3 (fin false) ?_) | (with_reducible refine Sat.p2 (fin false) ?_) | (with_reducible refine Sat.p1 (fin false) ?_) | (with_reducible refine Sat.p0 (fin false) ?_))
    rintro fl S2 ⟨d, rfl, hp⟩
    simp [Res.bind_ok, finF]
    exact hp
  | cons c ns =>
    simp only [List.map_cons] at fin
    simp [hN, headS, f_law_streams, v_cst, v_var, v_bin, v_bo, v_cmp, v_idx, v_prim, v_bv1, v_bv2, v_a0, v_a1, v_tvar, v_asg, v_b1, kVar, kBin, kCmp2, kCmp, kIdx, kBV, kCons, kArg, kNx, kAsg, kB, Res.bind_ok, rprimD_0, seqOf, cop_gt, kl0, b_mod]
    (first | (with_reducible refine Sat.p10 (fin _) ?_) | (with_reducible refine Sat.p9 (fin _) ?_) | (with_reducible refine Sat.p8 (fin _) ?_) | (with_reducible refine Sat.p7 (fin _) ?_) | (with_reducible refine Sat.p6 (fin _) ?_) | (with_reducible refine Sat.p5 (fin _) ?_) | (with_reducible refine Sat.p4 (fin _) ?_) | (with_reducible refine Sat.p3 (fin _) ?_) | (with_reducible refine Sat.p2 (fin _) ?_) | (with_reducible refine Sat.p1 (fin _) ?_) | (with_reducible refine Sat.p0 (fin _) ?_))
    rintro fl S2 ⟨d, rfl, hp⟩
    simp [Res.bind_ok, finF]
    exact hp
end
end K32

namespace K32
open PySem L2 Mi Tr
section
variable {W n : Nat} {r : Nd} {h x : Int} {t sd : Nat} {S : Store}
theorem cat_loc {l k : Nat} {a b : List D} {S : Store} (h1 : S[l]? = some (.lst a)) (h2 : S[k]? = some (.lst b)) (hz : a.length + b.length ≤ Line) : bop .add (.loc l) (.loc k) S = .ok (.loc S.length) (S ++ [.lst (a ++ b)]) := by
  rw [rbop_3, h1, h2]
  simp only [if_pos hz]
theorem At.kp {S' : Store} (a : At r h t sd S) (k : Keep [] S S') : At r h t sd S' := ⟨kp_get k a.ins, kp_get k a.sta, a.wf⟩
theorem At.st {l : Nat} {o : Mi.Obj} (a : At r h t sd S) (h1 : l ≠ t) (h2 : l ≠ sd) : At r h t sd (S.set l o) := ⟨by rw [List.getElem?_set_ne h1]; exact a.ins, by rw [List.getElem?_set_ne h2]; exact a.sta, a.wf⟩
theorem eqD_loc {m l k : Nat} : eqD S (m + 1) (.loc l) (.loc k) = (match seqAt S l, seqAt S k with
      | some as, some bs => if as.length = bs.length then eqL (eqD S m) as bs else some false
      | _, _ => none) := rfl
theorem eqL_ints {m : Nat} : ∀ xs : List Int, eqL (eqD S (m + 1)) (xs.map D.int) (xs.map D.int) = some true
  | [] => rfl
  | x :: xs => by
    have e : eqD S (m + 1) (.int x) (.int x) = some true := by simp [eqD, scalV, eqV]
    simp only [List.map_cons, eqL, eqL_ints xs, e]
    rfl
noncomputable def tp (p : Int × Int × Int) : D := .tup [.int p.1, .int p.2.1, .int p.2.2]
theorem rows_map : ∀ r : Nd, rows r = r.reverse.map tp
  | [] => rfl
  | (n, a, w) :: r => by rw [rows, rows_map r, List.reverse_cons, List.map_append]; rfl
theorem stand_keys : ∀ r : Nd, (stand r).map (fun p => D.int p.1) = ((0 : Int) :: (keys r).reverse).map D.int
  | [] => rfl
  | (n, a, w) :: r => by
    rw [stand, List.map_append, stand_keys r]
    simp [keys]
theorem nodes_ok (a : At r h t sd S) : callN T G W (n + 1) "Tree.nodes" [.loc t] S = .ok (.loc S.length) (S ++ [.lst (((0 : Int) :: (keys r).reverse).map D.int)]) := by
  rw [callN_eq T_f_Tree_nodes rfl]
  simp [f_Tree_nodes, v_var, v_prim, v_fld, v_a0, v_a1, v_ret, v_b1, kVar, kCons, kArg, kRet, kB, Res.bind_ok, finF, kFld_of a.ins (f := "standing") rfl, list_dct a.sta, stand_keys]
theorem anyEq_int {a : Int} : ∀ l : List Int, anyEq S Deep (.int a) (l.map D.int) = some (decide (a ∈ l))
  | [] => by simp [anyEq]
  | y :: l => by
    have e : eqD S Deep (.int y) (.int a) = some (decide (y = a)) := cop_eq_int (i := y) (j := a) (S := S)
    simp only [List.map_cons, anyEq, e, anyEq_int l]
    by_cases c : y = a
    · simp [c]
    · have : ¬ a = y := fun z => c z.symm
      simp [c, this]
theorem cop_in_lst {p : Nat} {a : Int} {l : List Int} (h : S[p]? = some (.lst (l.map D.int))) : cop .inn (.int a) (.loc p) S = some (decide (a ∈ l)) := by
  simp only [cop, seqOf, seqAt_of h, anyEq_int]
end
noncomputable def old (r : Nd) (k : Nat) : Nd := r.drop (r.length - k)
theorem old_zero (r : Nd) : old r 0 = [] := by unfold old; simp
theorem old_wf {r : Nd} (w : Wf r) (k : Nat) : Wf (old r k) := Wf.tail (a := r.take (r.length - k)) (by unfold old; rw [List.take_append_drop]; exact w)
theorem old_succ {r : Nd} {k : Nat} (h : k < r.length) : ∃ x y w, old r (k + 1) = (x, y, w) :: old r k ∧ (rows r)[k]? = some (.tup [.int x, .int y, .int w]) := by
  have hm : r.length - (k + 1) < r.length := by omega
  obtain ⟨p, hp⟩ : ∃ p, r[r.length - (k + 1)]? = some p := ⟨_, List.getElem?_eq_getElem hm⟩
  obtain ⟨x, y, w⟩ := p
  refine ⟨x, y, w, ?_, ?_⟩
  · unfold old
    obtain ⟨hlt, e⟩ := List.getElem?_eq_some_iff.mp hp
    rw [List.drop_eq_getElem_cons hlt, e, show r.length - (k + 1) + 1 = r.length - k by omega]
  · rw [rows_map, List.getElem?_map, List.getElem?_reverse h, show r.length - 1 - k = r.length - (k + 1) by omega, hp]
    rfl
theorem dif {S : Store} {l k : Nat} {o o' : Mi.Obj} (h : S[l]? = some o) (h' : S[k]? = some o') (n : o ≠ o') : l ≠ k := by
  rintro rfl
  rw [h] at h'
  exact n (Option.some.inj h')
theorem inT0 {r : Nd} : inT r 0 := Or.inl rfl
section
variable {W n : Nat} {r : Nd} {h x y : Int} {t sd : Nat} {S : Store}
theorem told_err (a : At r h t sd S) (i : ¬ inT r x) : callN T G W (n + 2) "Tree.told_of" [.loc t, .int x] S = .err "NoSuch" [some (.loc t), some (.int x)] S := by
  rw [callN_eq T_f_Tree_told_of rfl]
  simp [f_Tree_told_of, v_var, w_mcl, tMcl2, tMcl, w_nott, v_a0, v_a1, v_ifx, v_rsx, Res.kl_ok, v_b1, kVar, kTru, tNotB, kCons, kArg, kIfs, Res.bind_ok, Cn_call, isRec_of a.ins (m := "has") rfl, has_ok a, i, tru]
theorem height_err (a : At r h t sd S) (i : ¬ inT r x) : callN T G W (n + 3) "Tree.height" [.loc t, .int x] S = .err "NoSuch" [some (.loc t), some (.int x)] S := by
  rw [callN_eq T_f_Tree_height rfl]
  simp [f_Tree_height, v_var, v_idx, v_mcl, kMcl2, kMcl, v_a0, v_a1, v_rtx, v_b1, kVar, kCons, kArg, Res.bind_ok, Cn_call, isRec_of a.ins (m := "told_of") rfl, told_err a i]
theorem weight_err (a : At r h t sd S) (i : ¬ inT r x) : callN T G W (n + 3) "Tree.weight" [.loc t, .int x] S = .err "NoSuch" [some (.loc t), some (.int x)] S := by
  rw [callN_eq T_f_Tree_weight rfl]
  simp [f_Tree_weight, v_var, v_idx, v_mcl, kMcl2, kMcl, v_a0, v_a1, v_rtx, v_b1, kVar, kCons, kArg, Res.bind_ok, Cn_call, isRec_of a.ins (m := "told_of") rfl, told_err a i]
theorem ahead_err (a : At r h t sd S) (i : ¬ inT r x) : callN T G W (n + 3) "Tree.ahead" [.loc t, .int x] S = .err "NoSuch" [some (.loc t), some (.int x)] S := by
  rw [callN_eq T_f_Tree_ahead rfl]
  simp [f_Tree_ahead, v_var, v_idx, v_mcl, kMcl2, kMcl, v_a0, v_a1, v_rtx, v_b1, kVar, kCons, kArg, Res.bind_ok, Cn_call, isRec_of a.ins (m := "told_of") rfl, told_err a i]
theorem known_err (a : At r h t sd S) (i : inT r x) : callN T G W (n + 2) "Tree.check_place" [.loc t, .int x, .int y] S = .err "Known" [some (.loc t), some (.int x), some (.int y)] S := by
  rw [callN_eq T_f_Tree_check_place rfl]
  simp [f_Tree_check_place, v_var, w_mcl, tMcl2, tMcl, v_a0, v_a1, v_ifx, v_rsx, Res.kl_ok, v_b1, kVar, kTru, kCons, kArg, kIfs, Res.bind_ok, Cn_call, isRec_of a.ins (m := "has") rfl, has_ok a, i, tru]
theorem noahead_err (a : At r h t sd S) (i : ¬ inT r x) (j : ¬ inT r y) : callN T G W (n + 2) "Tree.check_place" [.loc t, .int x, .int y] S = .err "NoAhead" [some (.loc t), some (.int x), some (.int y)] S := by
  rw [callN_eq T_f_Tree_check_place rfl]
  simp [f_Tree_check_place, v_var, w_mcl, tMcl2, tMcl, w_nott, v_a0, v_a1, v_ifx, v_rsx, Res.kl_ok, v_b0, v_b1, kVar, kTru, tNotB, kCons, kArg, kIfs, kB, Res.bind_ok, Cn_call, isRec_of a.ins (m := "has") rfl, has_ok a, i, j, tru]
theorem add_known (a : At r h t sd S) (i : inT r x) {w : Int} : callN T G W (n + 3) "Tree.add" [.loc t, .int x, .int y, .int w] S = .err "Known" [some (.loc t), some (.int x), some (.int y), some (.int w)] S := by
  rw [callN_eq T_f_Tree_add rfl]
  simp [f_Tree_add, v_var, v_mcl, kMcl2, kMcl, v_a0, v_a1, v_exx, v_b1, kVar, kCons, kArg, Res.bind_ok, Cn_call, isRec_of a.ins (m := "check_place") rfl, known_err a i]
theorem add_noahead (a : At r h t sd S) (i : ¬ inT r x) (j : ¬ inT r y) {w : Int} : callN T G W (n + 3) "Tree.add" [.loc t, .int x, .int y, .int w] S = .err "NoAhead" [some (.loc t), some (.int x), some (.int y), some (.int w)] S := by
  rw [callN_eq T_f_Tree_add rfl]
  simp [f_Tree_add, v_var, v_mcl, kMcl2, kMcl, v_a0, v_a1, v_exx, v_b1, kVar, kCons, kArg, Res.bind_ok, Cn_call, isRec_of a.ins (m := "check_place") rfl, noahead_err a i j]
theorem whlL_succ {c : En → Store → Res Bool} {b : En → Store → Res Fl} {m : Nat} {τ : En} : whlL c b (m + 1) τ S = (c τ S).bind fun k S1 => if k then (b τ S1).bind fun fl S2 => (match fl with | .nx τ1 => whlL c b m τ1 S2 | .ct τ1 => whlL c b m τ1 S2 | .bk τ1 => .ok (.nx τ1) S2 | .rt d => .ok (.rt d) S2) else .ok (.nx τ) S1 := rfl
theorem down_err (a : At r h t sd S) (i : ¬ inT r x) (z : x ≠ y) : ∃ τ S', callN T G 100 (n + 4) "Tree.down" [.loc t, .int x, .int y] S = .err "NoSuch" τ S' ∧ Keep [] S S' := by
  rw [callN_eq T_f_Tree_down rfl]
  have h1 : (S ++ [Mi.Obj.lst []])[S.length]? = some (.lst []) := new_get
  have lt : S.length ≠ t := (Nat.ne_of_lt (get_lt a.ins)).symm
  have lt2 : S.length ≠ sd := (Nat.ne_of_lt (get_lt a.sta)).symm
  have a2 : At r h t sd (S ++ [Mi.Obj.lst [.int x]]) := a.kp (Keep.new _)
  have ap := meth_append (d := .int x) h1 (by decide)
  simp [f_Tree_down, v_var, v_lst, w_cmp, v_a0, v_tvar, v_asg, v_kls, v_whx, Res.kl_ok, v_b1, kVar, kLst, kNx, kAsg, kB, Res.bind_ok, Cn_W, Line]
  rw [show (100 : Nat) = 99 + 1 from rfl, whlL_succ]
  simp [v_var, v_meth, v_a0, v_a1, v_kls, Res.at_ok, v_exp, v_b1, kVar, kMeth, tCmp2, tCmp', kCons, kArg, Res.bind_ok, cop_ne_int, z, rcv_loc h1]
  simp [v_var, v_mcl, kMcl2, kMcl, v_a0, v_a1, v_asq, Res.kl_ok, v_b1, kVar, kCons, kArg, kExp, kB, Res.bind_ok, Cn_call, ap, isRec_of a2.ins (m := "ahead") rfl, ahead_err a2 i]
  exact ⟨_, _, ⟨rfl, rfl⟩, Keep.new _⟩
theorem branch_err (a : At r h t sd S) (i : ¬ inT r x) : ∃ τ S', callN T G 100 (n + 5) "Tree.branch" [.loc t, .int x] S = .err "NoSuch" τ S' ∧ Keep [] S S' := by
  rw [callN_eq T_f_Tree_branch rfl]
  obtain ⟨τ, S', e, k⟩ := down_err (n := n) (y := 0) a i (fun z => i (.inl z))
  simp [f_Tree_branch, v_var, v_glb, v_mcl, kMcl2, kMcl, v_a0, v_a1, v_revl, v_rtx, v_b1, kVar, kGlb, kCons, kArg, Res.bind_ok, Cn_call, Cn_glob, isRec_of a.ins (m := "down") rfl, e, G_ROOT]
  exact ⟨_, _, ⟨rfl, rfl⟩, k⟩
theorem meeting_err (a : At r h t sd S) (i : ¬ inT r x ∨ ¬ inT r y) : callN T G 100 (n + 4) "Tree.meeting" [.loc t, .int x, .int y] S = .err "NoSuch" [some (.loc t), some (.int x), some (.int y)] S := by
  rw [callN_eq T_f_Tree_meeting rfl]
  simp [f_Tree_meeting, v_var, v_mcl, w_cmp, v_whx, v_b1, kVar, Cn_W]
  rw [show (100 : Nat) = 99 + 1 from rfl, whlL_succ]
  by_cases c : inT r x
  · simp [v_var, v_mcl, kMcl2, kMcl, v_a0, v_a1, v_asq, v_b1, kVar, tCmp', kCons, kArg, Res.bind_ok, Cn_call, isRec_of a.ins (m := "height") rfl, height_ok a c, height_err a (i.resolve_left (fun z => z c))]
  · simp [v_var, v_mcl, kMcl2, kMcl, v_a0, v_a1, v_asq, v_b1, kVar, kCons, kArg, Res.bind_ok, Cn_call, isRec_of a.ins (m := "height") rfl, height_err a c]
theorem way_err (a : At r h t sd S) (i : ¬ inT r x ∨ ¬ inT r y) : callN T G 100 (n + 5) "Tree.way" [.loc t, .int x, .int y] S = .err "NoSuch" [some (.loc t), some (.int x), some (.int y), none] S := by
  rw [callN_eq T_f_Tree_way rfl]
  simp [f_Tree_way, v_var, v_mcl, kMcl2, kMcl, v_a0, v_a1, v_asq, v_b1, kVar, kCons, kArg, Res.bind_ok, Cn_call, isRec_of a.ins (m := "meeting") rfl, meeting_err a i]
noncomputable def PRef (bs : List Bool) (S : Store) (d : D) (S' : Store) : Prop := ∃ l, d = .loc l ∧ S'[l]? = some (.lst (bs.map D.bl)) ∧ Keep [] S S'
theorem ref_known (a : At r h t sd S) (i : inT r x) {w : Int} : Sat (callN T G 100 (n + 4) "_law_refused" [.loc t, .str "add", .tup [.int x, .int y, .int w]] S) (PRef [true, false, false, true] S) := by
  rw [callN_eq T_f_law_refused rfl]
  have a1 := a.kp (Keep.new [Mi.Obj.lst []])
  simp [f_law_refused, v_cst, v_var, v_lst, v_idx, v_mcl, kMcl2, kMcl, w_cmp, v_a0, v_a1, v_tvar, v_asg, v_ifx, v_tri, v_exx, Res.kl_ok, v_ret, v_b1, kVar, kLst, kIdx, tCmp2, tCmp', kCons, kArg, kNx, kAsg, kIfs, kRet, kB, Res.bind_ok, finF, Cn_call, Line, cop_eq_str, isRec_of a1.ins (m := "add") rfl, add_known a1 i, triD]
  exact ⟨_, rfl, by simp, Keep.new _⟩
theorem lk_na : List.lookup "NoAhead" [("Known", [true, false, false, true]), ("NoAhead", [false, true, false, true]), ("NoSuch", [false, false, true, true])] = some [false, true, false, true] := rfl
theorem lk_ns : List.lookup "NoSuch" [("Known", [true, false, false, true]), ("NoAhead", [false, true, false, true]), ("NoSuch", [false, false, true, true])] = some [false, false, true, true] := rfl
theorem ref_noahead (a : At r h t sd S) (i : ¬ inT r x) (j : ¬ inT r y) {w : Int} : Sat (callN T G 100 (n + 4) "_law_refused" [.loc t, .str "add", .tup [.int x, .int y, .int w]] S) (PRef [false, true, false, true] S) := by
  rw [callN_eq T_f_law_refused rfl]
  have a1 := a.kp (Keep.new [Mi.Obj.lst []])
  simp [f_law_refused, v_cst, v_var, v_lst, v_idx, v_mcl, kMcl2, kMcl, w_cmp, v_a0, v_a1, v_tvar, v_asg, v_ifx, v_tri, v_exx, Res.kl_ok, v_ret, v_b1, kVar, kLst, kIdx, tCmp2, tCmp', kCons, kArg, kNx, kAsg, kIfs, kRet, kB, Res.bind_ok, finF, Cn_call, Line, cop_eq_str, isRec_of a1.ins (m := "add") rfl, add_noahead a1 i j, triD, lk_na, lk_ns]
  exact ⟨_, rfl, by simp, Keep.new _⟩
noncomputable def one (w : String) : Prop := w = "height" ∨ w = "weight" ∨ w = "ahead" ∨ w = "branch"
theorem ref_one (a : At r h t sd S) (i : ¬ inT r x) {w : String} (o : one w) : Sat (callN T G 100 (n + 6) "_law_refused" [.loc t, .str w, .tup [.int x, .int y]] S) (PRef [false, false, true, true] S) := by
  rw [callN_eq T_f_law_refused rfl]
  have a1 := a.kp (Keep.new [Mi.Obj.lst []])
  rcases o with rfl | rfl | rfl | rfl
  · simp [f_law_refused, v_cst, v_var, v_lst, v_idx, v_mcl, kMcl2, kMcl, w_cmp, v_a0, v_a1, v_tvar, v_asg, v_ifx, v_tri, v_exx, Res.kl_ok, v_ret, v_b0, v_b1, kVar, kLst, kIdx, tCmp2, tCmp', kCons, kArg, kNx, kAsg, kIfs, kRet, kB, Res.bind_ok, finF, Cn_call, Line, cop_eq_str, isRec_of a1.ins (m := "height") rfl, height_err a1 i, triD, lk_na, lk_ns]
    exact ⟨_, rfl, by simp, Keep.new _⟩
  · simp [f_law_refused, v_cst, v_var, v_lst, v_idx, v_mcl, kMcl2, kMcl, w_cmp, v_a0, v_a1, v_tvar, v_asg, v_ifx, v_tri, v_exx, Res.kl_ok, v_ret, v_b0, v_b1, kVar, kLst, kIdx, tCmp2, tCmp', kCons, kArg, kNx, kAsg, kIfs, kRet, kB, Res.bind_ok, finF, Cn_call, Line, cop_eq_str, isRec_of a1.ins (m := "weight") rfl, weight_err a1 i, triD, lk_na, lk_ns]
    exact ⟨_, rfl, by simp, Keep.new _⟩
  · simp [f_law_refused, v_cst, v_var, v_lst, v_idx, v_mcl, kMcl2, kMcl, w_cmp, v_a0, v_a1, v_tvar, v_asg, v_ifx, v_tri, v_exx, Res.kl_ok, v_ret, v_b0, v_b1, kVar, kLst, kIdx, tCmp2, tCmp', kCons, kArg, kNx, kAsg, kIfs, kRet, kB, Res.bind_ok, finF, Cn_call, Line, cop_eq_str, isRec_of a1.ins (m := "ahead") rfl, ahead_err a1 i, triD, lk_na, lk_ns]
    exact ⟨_, rfl, by simp, Keep.new _⟩
  · obtain ⟨τ, S', e, k⟩ := branch_err (n := n) a1 i
    simp [f_law_refused, v_cst, v_var, v_lst, v_idx, v_mcl, kMcl2, kMcl, w_cmp, v_a0, v_a1, v_tvar, v_asg, v_ifx, v_tri, v_exx, Res.kl_ok, v_ret, v_b0, v_b1, kVar, kLst, kIdx, tCmp2, tCmp', kCons, kArg, kNx, kAsg, kIfs, kRet, kB, Res.bind_ok, finF, Cn_call, Line, cop_eq_str, isRec_of a1.ins (m := "branch") rfl, e, triD, lk_na, lk_ns]
    exact ⟨_, rfl, by simp, (Keep.new _).trans (k.trans (Keep.new _))⟩
theorem ref_two (a : At r h t sd S) (i : ¬ inT r x ∨ ¬ inT r y) {w : String} (o : w = "meeting" ∨ w = "way") : Sat (callN T G 100 (n + 6) "_law_refused" [.loc t, .str w, .tup [.int x, .int y]] S) (PRef [false, false, true, true] S) := by
  rw [callN_eq T_f_law_refused rfl]
  have a1 := a.kp (Keep.new [Mi.Obj.lst []])
  rcases o with rfl | rfl
  · simp [f_law_refused, v_cst, v_var, v_lst, v_idx, v_mcl, kMcl2, kMcl, w_cmp, v_a0, v_a1, v_tvar, v_asg, v_ifx, v_tri, v_exx, Res.kl_ok, v_ret, v_b0, v_b1, kVar, kLst, kIdx, tCmp2, tCmp', kCons, kArg, kNx, kAsg, kIfs, kRet, kB, Res.bind_ok, finF, Cn_call, Line, cop_eq_str, isRec_of a1.ins (m := "meeting") rfl, meeting_err a1 i, triD, lk_na, lk_ns]
    exact ⟨_, rfl, by simp, Keep.new _⟩
  · simp [f_law_refused, v_cst, v_var, v_lst, v_idx, v_mcl, kMcl2, kMcl, w_cmp, v_a0, v_a1, v_tvar, v_asg, v_ifx, v_tri, v_exx, Res.kl_ok, v_ret, v_b0, v_b1, kVar, kLst, kIdx, tCmp2, tCmp', kCons, kArg, kNx, kAsg, kIfs, kRet, kB, Res.bind_ok, finF, Cn_call, Line, cop_eq_str, isRec_of a1.ins (m := "way") rfl, way_err a1 i, triD, lk_na, lk_ns]
    exact ⟨_, rfl, by simp, Keep.new _⟩
end
end K32

namespace K32
open PySem L2 Mi Tr
section
variable {W n : Nat} {S : Store} {p : Nat} {r : Nd} {A : Nat}
noncomputable def INuK (p A : Nat) (S : Store) (τ : En) (S' : Store) : Prop := ∃ y, τ = [some (.loc p), some (.loc A), some (.int y)] ∧ 1 ≤ y ∧ S' = S
noncomputable def ZNuK (l : List Int) (p A : Nat) (S : Store) (τ : En) (S' : Store) : Prop := ∃ y, τ = [some (.loc p), some (.loc A), some (.int y)] ∧ 1 ≤ y ∧ ¬ y ∈ l ∧ S' = S
noncomputable def muK (l : List Int) (τ : En) : Nat := match τ with
  | [_, _, some (.int y)] => l.countP (fun k => decide (y ≤ k))
  | _ => 0
noncomputable def PNuK (l : List Int) (p : Nat) (S : Store) (d : D) (S' : Store) : Prop := ∃ k, d = .int k ∧ 1 ≤ k ∧ ¬ k ∈ l ∧ Strm S' p ∧ Keep [p] S S'
theorem numberK_ok {l : List Int} (st : Strm S p) (hA : S[A]? = some (.lst (l.map D.int))) (ne : p ≠ A) (ln : l.length < 99) : Sat (callN T G 100 (n + 2) "_law_number" [.loc p, .loc A] S) (PNuK l p S) := by
  rw [callN_eq T_f_law_number rfl]
  simp [f_law_number, v_cst, v_var, v_bin, v_lst, v_idx, v_call, v_a0, v_a1, v_asg, v_b1, kVar, kBin, kLst, kIdx, kCons, kArg, Res.bind_ok, Cn_call, pow30, Line]
  have st1 : Strm (S ++ [Mi.Obj.lst [D.int 9, D.int 40, D.int 1000000000000000000000000000000]]) p := st.keep (ps := []) (Keep.new _) (by simp)
  (first | (with_reducible refine Sat.p10 (take_ok (W := 100) (n := n) st1 (many := 3) (by decide) (by decide)) ?_) | (with_reducible refine Sat.p9 (take_ok (W := 100) (n := n) st1 (many := 3) (by decide) (by decide)) ?_) | (with_reducible refine Sat.p8 (take_ok (W := 100) (n := n) st1 (many := 3) (by decide) (by decide)) ?_) | (with_reducible refine Sat.p7 (take_ok (W := 100) (n := n) st1 (many := 3) (by decide) (by decide)) ?_) | (with_reducible refine Sat.p6 (take_ok (W := 100) (n := n) st1 (many := 3) (by decide) (by decide)) ?_) | (with_reducible refine Sat.p5 (take_ok (W := 100) (n := n) st1 (many := 3) (by decide) (by decide)) ?_) | (with_reducible refine Sat.p4 (take_ok (W := 100) (n := n) st1 (many := 3) (by decide) (by decide)) ?_) | (with_reducible refine Sat.p3 (take_ok (W := 100) (n := n) st1 (many := 3) (by decide) (by decide)) ?_) | (with_reducible refine Sat.p2 (take_ok (W := 100) (n := n) st1 (many := 3) (by decide) (by decide)) ?_) | (with_reducible refine Sat.p1 (take_ok (W := 100) (n := n) st1 (many := 3) (by decide) (by decide)) ?_) | (with_reducible refine Sat.p0 (take_ok (W := 100) (n := n) st1 (many := 3) (by decide) (by decide)) ?_))
  rintro _ S1 ⟨k, rfl, h0, h1, st2, k1, l1⟩
  obtain ⟨m, em, hm⟩ := pick3 (a := 9) (b := 40) (c := 1000000000000000000000000000000) h0 h1
  have hl : S1[S.length]? = some (.lst [D.int 9, D.int 40, D.int 1000000000000000000000000000000]) := k1.get new_get (by
    obtain ⟨a, b, c, e⟩ := st
    have := get_lt e
    simp; omega)
  simp [Res.bind_ok]
  rw [kIdx_loc hl em]
  simp [v_a0, kCons, kArg, Res.bind_ok]
  have mp : 0 < m := by rcases hm with rfl | rfl | rfl <;> decide
  have mb : m.natAbs < 2 ^ 4096 := by rcases hm with rfl | rfl | rfl <;> decide
  (first | (with_reducible refine Sat.p10 (take_ok (W := 100) (n := n) st2 mp mb) ?_) | (with_reducible refine Sat.p9 (take_ok (W := 100) (n := n) st2 mp mb) ?_) | (with_reducible refine Sat.p8 (take_ok (W := 100) (n := n) st2 mp mb) ?_) | (with_reducible refine Sat.p7 (take_ok (W := 100) (n := n) st2 mp mb) ?_) | (with_reducible refine Sat.p6 (take_ok (W := 100) (n := n) st2 mp mb) ?_) | (with_reducible refine Sat.p5 (take_ok (W := 100) (n := n) st2 mp mb) ?_) | (with_reducible refine Sat.p4 (take_ok (W := 100) (n := n) st2 mp mb) ?_) | (with_reducible refine Sat.p3 (take_ok (W := 100) (n := n) st2 mp mb) ?_) | (with_reducible refine Sat.p2 (take_ok (W := 100) (n := n) st2 mp mb) ?_) | (with_reducible refine Sat.p1 (take_ok (W := 100) (n := n) st2 mp mb) ?_) | (with_reducible refine Sat.p0 (take_ok (W := 100) (n := n) st2 mp mb) ?_))
  rintro _ S2 ⟨k', rfl, h2, h3, st3, k2, l2⟩
  have kk : Keep [p] S S2 := (Keep.new _).trans (k1.trans k2)
  have hA2 := kk.get hA (by simp; exact Ne.symm ne)
  simp [v_tvar, v_whl, v_b1, kNx, kAsg, kB, Res.bind_ok, Cn_W, rbop_0]
  (first | (with_reducible refine Sat.p10 (loopW (INuK p A S2) (fun τ _ => muK l τ) noB noR (ZNuK l p A S2) ?_ 100 _ _ ?_ ?_) ?_) | (with_reducible refine Sat.p9 (loopW (INuK p A S2) (fun τ _ => muK l τ) noB noR (ZNuK l p A S2) ?_ 100 _ _ ?_ ?_) ?_) | (with_reducible refine Sat.p8 (loopW (INuK p A S2) (fun τ _ => muK l τ) noB noR (ZNuK l p A S2) ?_ 100 _ _ ?_ ?_) ?_) | (with_reducible refine Sat.p7 (loopW (INuK p A S2) (fun τ _ => muK l τ) noB noR (ZNuK l p A S2) ?_ 100 _ _ ?_ ?_) ?_) | (with_reducible refine Sat.p6 (loopW (INuK p A S2) (fun τ _ => muK l τ) noB noR (ZNuK l p A S2) ?_ 100 _ _ ?_ ?_) ?_) | (with_reducible refine Sat.p5 (loopW (INuK p A S2) (fun τ _ => muK l τ) noB noR (ZNuK l p A S2) ?_ 100 _ _ ?_ ?_) ?_) | (with_reducible refine Sat.p4 (loopW (INuK p A S2) (fun τ _ => muK l τ) noB noR (ZNuK l p A S2) ?_ 100 _ _ ?_ ?_) ?_) | (with_reducible refine Sat.p3 (loopW (INuK p A S2) (fun τ _ => muK l τ) noB noR (ZNuK l p A S2) ?_ 100 _ _ ?_ ?_) ?_) | (with_reducible refine Sat.p2 (loopW (INuK p A S2) (fun τ _ => muK l τ) noB noR (ZNuK l p A S2) ?_ 100 _ _ ?_ ?_) ?_) | (with_reducible refine Sat.p1 (loopW (INuK p A S2) (fun τ _ => muK l τ) noB noR (ZNuK l p A S2) ?_ 100 _ _ ?_ ?_) ?_) | (with_reducible refine Sat.p0 (loopW (INuK p A S2) (fun τ _ => muK l τ) noB noR (ZNuK l p A S2) ?_ 100 _ _ ?_ ?_) ?_))
  · rintro _ _ ⟨y, rfl, hy, rfl⟩
    simp [v_cst, v_var, v_bin, w_cmp, v_tvar, v_asg, v_b0, v_b1, kVar, kBin, tCmp2, tCmp', kNx, kAsg, kB, Res.bind_ok, cop_in_lst hA2]
    by_cases c : y ∈ l
    · simp [c, rbop_0]
      refine ⟨⟨y + 1, rfl, by omega, rfl⟩, ?_⟩
      exact count_lt c
    · simp [c]
      exact ⟨y, rfl, hy, c, rfl⟩
  · exact ⟨_, rfl, by omega, rfl⟩
  · have : l.countP (fun k => decide (1 + k' ≤ k)) ≤ l.length := List.countP_le_length
    show l.countP (fun k => decide (1 + k' ≤ k)) < 100
    omega
  intro fl S3 q
  obtain ⟨_, rfl, y, rfl, hy, hn, rfl⟩ := q.nx
  simp [v_var, v_ret, v_b1, kVar, kRet, kB, Res.bind_ok, finF]
  exact ⟨y, rfl, hy, hn, st3, kk⟩
end
end K32

namespace K32
open PySem L2 Mi Tr
section
variable {n : Nat} {S : Store} {p t sd R : Nat} {r : Nd} {h : Int}
theorem strm_rows (st : Strm S p) (hR : S[R]? = some (.lst (rows r))) : p ≠ R := by
  rintro rfl
  obtain ⟨a, b, c, e⟩ := st
  rw [hR, rows_map] at e
  have e := Mi.Obj.lst.inj (Option.some.inj e)
  rcases hq : r.reverse with _ | ⟨x, xs⟩
  · rw [hq] at e; cases e
  · rw [hq, List.map_cons] at e
    injection e with e1 e2
    cases e1
theorem eqL_bls {m : Nat} : ∀ xs : List Bool, eqL (eqD S (m + 1)) (xs.map D.bl) (xs.map D.bl) = some true
  | [] => rfl
  | x :: xs => by
    have e : eqD S (m + 1) (.bl x) (.bl x) = some true := by simp [eqD, scalV, eqV]
    simp only [List.map_cons, eqL, eqL_bls xs, e]
    rfl
theorem eq_bls {l k : Nat} {xs : List Bool} (h1 : S[l]? = some (.lst (xs.map D.bl))) (h2 : S[k]? = some (.lst (xs.map D.bl))) : eqD S Deep (.loc l) (.loc k) = some true := by
  rw [deep_eq, eqD_loc, seqAt_of h1, seqAt_of h2]
  show (if _ = _ then _ else _) = _
  rw [if_pos rfl]
  exact eqL_bls (m := 10) xs
theorem cop_eq_bls {l k : Nat} {xs : List Bool} (h1 : S[l]? = some (.lst (xs.map D.bl))) (h2 : S[k]? = some (.lst (xs.map D.bl))) : cop .eq (.loc l) (.loc k) S = some true := eq_bls h1 h2
theorem cop_ne_bls {l k : Nat} {xs : List Bool} (h1 : S[l]? = some (.lst (xs.map D.bl))) (h2 : S[k]? = some (.lst (xs.map D.bl))) : cop .ne (.loc l) (.loc k) S = some false := by
  simp only [cop, eq_bls h1 h2]
  rfl
noncomputable def there (r : Nd) : List Int := 0 :: (keys r).reverse
theorem mem_there {x : Int} : x ∈ there r ↔ inT r x := by simp [there, inT]
theorem there_len : (there r).length = r.length + 1 := by simp [there, keys]
noncomputable instance {w : String} : Decidable (one w) := inferInstanceAs (Decidable (w = "height" ∨ w = "weight" ∨ w = "ahead" ∨ w = "branch"))
theorem in_words {w : String} (o : one w ∨ w = "meeting" ∨ w = "way") : cop .inn (.str w) (.tup [.str "height", .str "weight", .str "ahead", .str "branch"]) S = some (decide (one w)) := by
  unfold one at *
  rcases o with (rfl | rfl | rfl | rfl) | rfl | rfl <;> simp [cop, seqOf, anyEq, eqD, deep_eq, scalV, eqV]
theorem pick6 {k : Int} (h0 : 0 ≤ k) (h1 : k < 6) : ∃ w : String, atI [D.str "height", .str "weight", .str "ahead", .str "branch", .str "meeting", .str "way"] k = some (.str w) ∧ (one w ∨ w = "meeting" ∨ w = "way") := by
  have : k = 0 ∨ k = 1 ∨ k = 2 ∨ k = 3 ∨ k = 4 ∨ k = 5 := by omega
  rcases this with rfl | rfl | rfl | rfl | rfl | rfl
  · exact ⟨_, rfl, .inl (.inl rfl)⟩
  · exact ⟨_, rfl, .inl (.inr (.inl rfl))⟩
  · exact ⟨_, rfl, .inl (.inr (.inr (.inl rfl)))⟩
  · exact ⟨_, rfl, .inl (.inr (.inr (.inr rfl)))⟩
  · exact ⟨_, rfl, .inr (.inl rfl)⟩
  · exact ⟨_, rfl, .inr (.inr rfl)⟩
theorem pick4 {k x y : Int} (h0 : 0 ≤ k) (h1 : k < 4) (i : ¬ inT r x) : ∃ u v : Int, atI [D.tup [.int x, .int y], .tup [.int y, .int x], .tup [.int x, .int x], .tup [.int 0, .int x]] k = some (.tup [.int u, .int v]) ∧ (¬ inT r u ∨ ¬ inT r v) := by
  have : k = 0 ∨ k = 1 ∨ k = 2 ∨ k = 3 := by omega
  rcases this with rfl | rfl | rfl | rfl
  · exact ⟨_, _, rfl, .inl i⟩
  · exact ⟨_, _, rfl, .inr i⟩
  · exact ⟨_, _, rfl, .inl i⟩
  · exact ⟨_, _, rfl, .inr i⟩
theorem pick_row {k : Int} (h0 : 0 ≤ k) (h1 : k < r.length) : ∃ x y w : Int, atI (rows r) k = some (.tup [.int x, .int y, .int w]) := by
  obtain ⟨d, e, m, _⟩ := atI_lt (xs := rows r) h0 (by rw [rows_len]; exact h1)
  rw [rows_map] at m
  obtain ⟨⟨x, y, w⟩, _, rfl⟩ := List.mem_map.mp m
  exact ⟨x, y, w, e⟩
theorem gather {C : Pr} {τ : En} {N : List String} {keep : List Nat} (hR : S[R]? = some (.lst (rows r))) (b : r.length ≤ 100) : kComp C 1 keep (.tvar 0) .nul (.idx (.var 0) (.cst (.int 0))) τ (some (R, .lst), rows r) S = .ok (.loc S.length) (S ++ [.lst ((keys r).reverse.map D.int)]) := by
  obtain ⟨q, hq⟩ : ∃ q, r.reverse = q := ⟨_, rfl⟩
  have ql : q.length ≤ 100 := by rw [← hq, List.length_reverse]; exact b
  have hRq : S[R]? = some (.lst (q.map tp)) := by rw [← hq, ← rows_map]; exact hR
  have eq1 : q.map (fun p => D.int p.1) = ((keys r).reverse).map D.int := by rw [← hq]; simp [keys]
  rw [rows_map, hq, kComp_of (h := tp) (f := fun p => D.int p.1) (by omega) (.inr ⟨R, rfl, hRq⟩) (fun p _ => by simp [turnC, inEn, tp, v_cst, v_var, v_idx, v_c0, v_tvar, kVar, kIdx, Res.bind_ok]), eq1]
noncomputable def PSt (p : Nat) (S : Store) (d : D) (S' : Store) : Prop := d = .bl true ∧ Strm S' p ∧ Keep [p] S S'
theorem strange_ok (a : At r h t sd S) (st : Strm S p) (hR : S[R]? = some (.lst (rows r))) (b : r.length ≤ 90) (b0 : 0 < r.length) (pt : p ≠ t) (ps : p ≠ sd) : Sat (callN T G 100 (n + 7) "_law_strange" [.loc t, .loc p, .loc R] S) (PSt p S) := by
  rw [callN_eq T_f_law_strange rfl]
  have pR := strm_rows st hR
  have pl : p < S.length := by obtain ⟨a, b, c, e⟩ := st; exact get_lt e
  have hR1 : (S ++ [Mi.Obj.lst [D.int 0]])[R]? = some (.lst (rows r)) := old_get hR
  simp [f_law_strange, v_cst, v_var, v_bin, v_lst, v_call, v_comp, v_a0, v_a1, v_seq, v_asg, v_b1, kVar, kBin, kLst, kCons, kArg, kSeq, Res.bind_ok, Cn_call, Line, seqAt_of hR1]
  rw [gather (N := []) hR1 (by omega)]
  obtain ⟨S2, hS2⟩ : ∃ S2, S ++ [Mi.Obj.lst [D.int 0]] ++ [Mi.Obj.lst (((keys r).reverse).map D.int)] = S2 := ⟨_, rfl⟩
  have k2 : Keep [] S S2 := by rw [← hS2]; exact (Keep.new _).trans (Keep.new _)
  have h20 : S2[S.length]? = some (.lst [D.int 0]) := by rw [← hS2]; exact old_get new_get
  have h21 : S2[(S ++ [Mi.Obj.lst [D.int 0]]).length]? = some (.lst (((keys r).reverse).map D.int)) := by rw [← hS2]; exact new_get
  simp only [Res.bind_ok]
  rw [hS2, cat_loc h20 h21 (by simp [Line, keys]; omega)]
  have e3 : [D.int 0] ++ ((keys r).reverse).map D.int = (there r).map D.int := rfl
  rw [e3]
  obtain ⟨S3, hS3⟩ : ∃ S3, S2 ++ [Mi.Obj.lst ((there r).map D.int)] = S3 := ⟨_, rfl⟩
  have k3 : Keep [] S S3 := by rw [← hS3]; exact k2.trans (Keep.new _)
  have hV3 : S3[S2.length]? = some (.lst ((there r).map D.int)) := by rw [← hS3]; exact new_get
  rw [hS3]
  obtain ⟨_, S4, e4, x, rfl, hx, nx, st4, k4⟩ := numberK_ok (n := n + 4) (st.keep k3 (by simp)) hV3 (by have := k2.1; omega) (by rw [there_len]; omega)
  have k34 : Keep [p] S S4 := (k3.mono (by simp)).trans k4
  have ix : ¬ inT r x := fun z => nx (mem_there.mpr z)
  have hR4 := k34.get hR (by simpa using pR.symm)
  have a4 : At r h t sd S4 := ⟨k34.get a.ins (by simpa using pt.symm), k34.get a.sta (by simpa using ps.symm), a.wf⟩
  obtain ⟨S5, hS5⟩ : ∃ S5, S4 ++ [Mi.Obj.lst [D.str "height", .str "weight", .str "ahead", .str "branch", .str "meeting", .str "way"]] = S5 := ⟨_, rfl⟩
  have k5 : Keep [] S4 S5 := by rw [← hS5]; exact Keep.new _
  have h54 : S5[S4.length]? = some (.lst [D.str "height", .str "weight", .str "ahead", .str "branch", .str "meeting", .str "way"]) := by rw [← hS5]; exact new_get
  obtain ⟨_, S6, e6, i6, rfl, l6, u6, st6, k6, _⟩ := take_ok (W := 100) (n := n + 5) (st4.keep k5 (by simp)) (many := 6) (by decide) (by decide)
  have pl4 : p < S4.length := Nat.lt_of_lt_of_le pl k34.1
  have h64 := k6.get h54 (by simp; omega)
  obtain ⟨w, ew, ow⟩ := pick6 l6 u6
  have k46 : Keep [p] S4 S6 := (k5.mono (by simp)).trans k6
  have hR6 := k46.get hR4 (by simpa using pR.symm)
  obtain ⟨Z, hZ⟩ : ∃ Z : Int, ((rows r).length : Int) = Z := ⟨_, rfl⟩
  have zr : (r.length : Int) = Z := by rw [← hZ, rows_len]
  have len6 : primD .len [.loc R] S6 = .ok (.int Z) S6 := by rw [prim_len_loc hR6, hZ]
  obtain ⟨_, S7, e7, i7, rfl, l7, u7, st7, k7, _⟩ := take_ok (W := 100) (n := n + 5) st6 (many := Z) (by omega) (by omega)
  have hR7 := k7.get hR6 (by simpa using pR.symm)
  obtain ⟨x1, y1, w1, er⟩ := pick_row (r := r) l7 (by omega)
  obtain ⟨S8, hS8⟩ : ∃ S8, S7 ++ [Mi.Obj.lst [D.tup [.int x, .int x1], .tup [.int x1, .int x], .tup [.int x, .int x], .tup [.int 0, .int x]]] = S8 := ⟨_, rfl⟩
  have k8 : Keep [] S7 S8 := by rw [← hS8]; exact Keep.new _
  have h87 : S8[S7.length]? = some (.lst [D.tup [.int x, .int x1], .tup [.int x1, .int x], .tup [.int x, .int x], .tup [.int 0, .int x]]) := by rw [← hS8]; exact new_get
  obtain ⟨_, S9, e9, i9, rfl, l9, u9, st9, k9, _⟩ := take_ok (W := 100) (n := n + 5) (st7.keep k8 (by simp)) (many := 4) (by decide) (by decide)
  have k47 : Keep [p] S4 S7 := k46.trans k7
  have pl7 : p < S7.length := Nat.lt_of_lt_of_le pl4 k47.1
  have h97 := k9.get h87 (by simp; omega)
  obtain ⟨u, v, eu, hu⟩ := pick4 (r := r) (y := x1) l9 u9 ix
  have k79 : Keep [p] S7 S9 := (k8.mono (by simp)).trans k9
  have kk : Keep [p] S S9 := k34.trans (k47.trans k79)
  have a9 : At r h t sd S9 := ⟨kk.get a.ins (by simpa using pt.symm), kk.get a.sta (by simpa using ps.symm), a.wf⟩
  have f6 := kIdx_loc h64 ew
  have f7 := kIdx_loc hR7 er
  have f9 := kIdx_loc h97 eu
  have iw := in_words (S := S9) ow
  simp [v_cst, v_var, v_tup, v_lst, v_idx, v_call, v_prim, w_cmp, v_a0, v_a1, v_tvar, v_asg, v_ifs, v_b0, v_b1, kVar, kTup, kLst, kIdx, tCmp2, tCmp', kCons, kArg, kNx, kAsg, kIfs, kB, Res.bind_ok, Cn_call, Line, e4, hS5, e6, f6, len6, e7, f7, hS8, e9, f9, iw]
  have fin : ∀ {d : D} {S' : Store}, PRef [false, false, true, true] S9 d S' → ∃ l, d = .loc l ∧ cop .eq (.loc l) (.loc S'.length) (S' ++ [Mi.Obj.lst [D.bl false, .bl false, .bl true, .bl true]]) = some true ∧ PSt p S (.bl true) (S' ++ [Mi.Obj.lst [D.bl false, .bl false, .bl true, .bl true]]) := by
    rintro d S' ⟨l, rfl, hl, k⟩
    refine ⟨l, rfl, cop_eq_bls (xs := [false, false, true, true]) (old_get hl) new_get, rfl, ?_, ?_⟩
    · exact st9.keep (k.trans (Keep.new _)) (by simp)
    · exact kk.trans ((k.trans (Keep.new _)).mono (by simp))
  by_cases c : one w
  · obtain ⟨d, S', e, q⟩ := ref_one (n := n) (y := 0) a9 ix c
    obtain ⟨l, rfl, e2, q2⟩ := fin q
    simp [v_cst, v_var, v_cmp, v_lst, v_call, v_a0, v_a1, v_ret, v_b1, kVar, kCmp2, kCmp, kLst, kCons, kArg, kRet, kB, Res.bind_ok, finF, Cn_call, Line, c, e, e2]
    exact q2
  · obtain ⟨d, S', e, q⟩ := ref_two (n := n) a9 hu (ow.resolve_left c)
    obtain ⟨l, rfl, e2, q2⟩ := fin q
    simp [v_cst, v_var, v_cmp, v_lst, v_call, v_a0, v_a1, v_ret, v_b1, kVar, kCmp2, kCmp, kLst, kCons, kArg, kRet, kB, Res.bind_ok, finF, Cn_call, Line, c, e, e2]
    exact q2
end
end K32

namespace K32
open PySem L2 Mi Tr
theorem loopE {C : Pr} {t b : M} {ds : List D} {S : Store} {τ : En} {l : Nat} (I : Nat → En → Store → Prop) (B : En → Store → Prop) (R : D → Store → Prop) (h0 : I 0 τ S) (hst : ∀ i τ S, I i τ S → S[l]? = some (.lst ds)) (hturn : ∀ i d τ S, ds[i]? = some d → I i τ S → Sat (turnF C t b (.tup [.int i, d]) τ S) (FlP (I (i + 1)) B R)) : Sat (kFor C t b τ (some (l, .enm), ds) S) (OutP (I ds.length) B R) :=
  forL_enm I hst (fun τ S h => .inl h) (fun i d τ S e h => (hturn i d τ S e h).mono fun fl S1 q => by
    cases fl with
    | nx τ1 => exact q
    | ct τ1 => exact q
    | bk τ1 => exact .inr q
    | rt d => exact q) _ 0 τ S (by simp) h0
section
variable {W n : Nat} {r : Nd} {h x : Int} {t sd : Nat} {S : Store}
theorem head_ok (a : At r h t sd S) : callN T G W (n + 1) "Tree.head" [.loc t] S = .ok (.int h) S := by
  rw [callN_eq T_f_Tree_head rfl]
  simp [f_Tree_head, v_var, v_fld, v_ret, v_b1, kVar, kRet, kB, Res.bind_ok, finF, kFld_of a.ins (f := "heaviest") rfl]
theorem max_of : ∀ {l : List Int}, l ≠ [] → ∃ m, maxI (l.map D.int) = some m ∧ ∀ x ∈ l, x ≤ m
  | [x], _ => ⟨x, rfl, by simp⟩
  | x :: y :: l, _ => by
    obtain ⟨m, e, h⟩ := max_of (l := y :: l) (by simp)
    refine ⟨if x < m then m else x, ?_, ?_⟩
    · rw [List.map_cons] at e
      show (maxI (D.int y :: l.map D.int)).map (fun m => if x < m then m else x) = _
      rw [e]
      rfl
    · intro z hz
      rcases List.mem_cons.mp hz with rfl | hz
      · split <;> omega
      · have := h z hz
        split <;> omega
theorem max_loc {l : Nat} {xs : List Int} {m : Int} (hl : S[l]? = some (.lst (xs.map D.int))) (e : maxI (xs.map D.int) = some m) : primD .max1 [.loc l] S = .ok (.int m) S := by
  simp only [rprimD_13, seqAt_of hl, e]
theorem eqD_tup {m : Nat} {as bs : List D} : eqD S (m + 1) (.tup as) (.tup bs) = if as.length = bs.length then eqL (eqD S m) as bs else (if (eqL (eqD S m) (as.take bs.length) (bs.take as.length)).isSome then some false else none) := rfl
theorem ne_pair {l k : Nat} {xs : List Int} (h1 : S[l]? = some (.lst (xs.map D.int))) (h2 : S[k]? = some (.lst (xs.map D.int))) : cop .ne (.tup [.loc l, .int h]) (.tup [.loc k, .int h]) S = some false := by
  have e1 : eqD S 11 (.loc l) (.loc k) = some true := by
    rw [eqD_loc, seqAt_of h1, seqAt_of h2]
    show (if _ = _ then _ else _) = _
    rw [if_pos rfl]
    exact eqL_ints (m := 9) xs
  have e2 : eqD S 11 (.int h) (.int h) = some true := by simp [eqD, scalV, eqV]
  have e3 : eqD S Deep (.tup [.loc l, .int h]) (.tup [.loc k, .int h]) = some true := by
    rw [deep_eq, eqD_tup, if_pos (show [D.loc l, D.int h].length = [D.loc k, D.int h].length from rfl)]
    simp only [eqL, e1, e2]
    rfl
  simp only [cop, e3]
  rfl
theorem rows_old {k : Nat} : rows (old r k) = (rows r).take k := by
  unfold old
  rw [rows_map, rows_map, ← List.map_take, List.reverse_drop]
  congr 1
  by_cases c : k ≤ r.length
  · rw [show r.length - (r.length - k) = k by omega]
  · rw [show r.length - (r.length - k) = r.length by omega, List.take_of_length_le (by simp), List.take_of_length_le (by simp; omega)]
end
structure Lw (r : Nd) (ps : List Nat) (t sd R L : Nat) (k : Nat) (h : Int) (S : Store) : Prop where
  a : At (old r k) h t sd S
  i : inT (old r k) h
  rr : S[R]? = some (.lst (rows r))
  l : S[L]? = some (.lst (ps.map D.loc))
  st : ∀ p ∈ ps, Strm S p
noncomputable def ILw (r : Nd) (ps : List Nat) (t sd R L : Nat) (c0 : Option D) (k : Nat) (τ : En) (S : Store) : Prop := ∃ u4 u5 u6 u7 u8 u9 ua ub h, τ = [c0, some (.loc L), some (.loc R), some (.loc t), u4, u5, u6, u7, u8, u9, ua, ub] ∧ Lw r ps t sd R L k h S
@[reducible] noncomputable def bL : M := match f_law.body with
  | .cns _ (.cns _ (.cns _ (.cns (.forr _ _ b) _))) => b
  | _ => .nul
theorem turn_ok {n : Nat} {r : Nd} {ps : List Nat} {t sd R L p k : Nat} {h : Int} {S : Store} {c0 u4 u5 u6 u7 u8 u9 ua ub : Option D} (w : Wf r) (y : Lw r ps t sd R L k h S) (hp : p ∈ ps) (c : k < r.length) (b : r.length ≤ 60) :
    Sat (turnF (Cn T G 100 (n + 8)) (.ttup (.cns (.tvar 4) (.cns (.tvar 5) .nul))) bL (.tup [.int k, .loc p]) [c0, some (.loc L), some (.loc R), some (.loc t), u4, u5, u6, u7, u8, u9, ua, ub] S) (fun fl S' => ∃ τ, fl = .nx τ ∧ ILw r ps t sd R L c0 (k + 1) τ S') := by
  obtain ⟨x, yy, wg, eo, ek⟩ := old_succ c
  have wf2 : Wf ((x, yy, wg) :: old r k) := eo ▸ old_wf w (k + 1)
  have wf3 : x ≠ 0 ∧ x ∉ keys (old r k) ∧ (yy = 0 ∨ yy ∈ keys (old r k)) ∧ Wf (old r k) := wf2
  have nx : ¬ inT (old r k) x := fun z => Or.elim z wf3.1 wf3.2.1
  have jy : inT (old r k) yy := wf3.2.2.1
  have lo : (old r k).length < 1000 := by unfold old; rw [List.length_drop]; omega
  have eat : atI (rows r) (k : Int) = some (.tup [.int x, .int yy, .int wg]) := by rw [atI_nat (by rw [rows_len]; exact c)]; exact ek
  have ts : t ≠ sd := dif y.a.ins y.a.sta (by simp)
  obtain ⟨_, S1, e1, rfl, ⟨h', a1, i1⟩, k1⟩ := add_ok (n := n + 3) (W := 100) (w := wg) (x := x) (y := yy) y.a y.i ts nx jy lo
  rw [← eo] at a1 i1
  obtain ⟨q, hq⟩ : ∃ q, old r (k + 1) = q := ⟨_, rfl⟩
  rw [hq] at a1 i1
  have ql : q.length = k + 1 := by rw [← hq]; unfold old; rw [List.length_drop]; omega
  have rq : rows q = (rows r).take (k + 1) := by rw [← hq]; exact rows_old
  have stp := y.st p hp
  obtain ⟨s1, s2, s3, es⟩ := stp
  have pt : p ≠ t := dif es y.a.ins (by simp)
  have psd : p ≠ sd := dif es y.a.sta (by simp)
  have st1 : Strm S1 p := ⟨s1, s2, s3, k1.get es (by simp [pt, psd])⟩
  have Rt : R ≠ t := dif y.rr y.a.ins (by simp)
  have Rsd : R ≠ sd := dif y.rr y.a.sta (by simp)
  have hR1 := k1.get y.rr (by simp [Rt, Rsd])
  have pl : p < S1.length := by obtain ⟨a, b, c, e⟩ := st1; exact get_lt e
  have Rp : R ≠ p := (strm_rows st1 hR1).symm
  -- the numbers there
  obtain ⟨S2, hS2⟩ : ∃ S2, S1 ++ [Mi.Obj.lst [D.int 0]] = S2 := ⟨_, rfl⟩
  have k2 : Keep [] S1 S2 := by rw [← hS2]; exact Keep.new _
  have h20 : S2[S1.length]? = some (.lst [D.int 0]) := by rw [← hS2]; exact new_get
  have cut2 : sliD (.loc R) none (some ((k : Int) + 1)) S2 = .ok (.loc S2.length) (S2 ++ [.lst (rows q)]) := by
    rw [sliD_loc (kp_get k2 hR1), cut_to (by omega), rq, show ((k : Int) + 1).toNat = k + 1 by omega]
  obtain ⟨S3, hS3⟩ : ∃ S3, S2 ++ [Mi.Obj.lst (rows q)] = S3 := ⟨_, rfl⟩
  have k3 : Keep [] S2 S3 := by rw [← hS3]; exact Keep.new _
  have h32 : S3[S2.length]? = some (.lst (rows q)) := by rw [← hS3]; exact new_get
  have gat := gather (C := Cn T G 100 (n + 8)) (N := []) (keep := []) (τ := [c0, some (.loc L), some (.loc R), some (.loc t), some (.int k), some (.loc p), u6, u7, u8, u9, ua, ub]) h32 (by omega)
  have e5 : [D.int 0] ++ ((keys q).reverse).map D.int = (there q).map D.int := rfl
  obtain ⟨kd, hkd⟩ : ∃ kd, ((keys q).reverse).map D.int = kd := ⟨_, rfl⟩
  have kdl : kd.length ≤ 60 := by rw [← hkd]; simp [keys]; omega
  rw [hkd] at gat e5
  obtain ⟨S4, hS4⟩ : ∃ S4, S3 ++ [Mi.Obj.lst kd] = S4 := ⟨_, rfl⟩
  have k4 : Keep [] S3 S4 := by rw [← hS4]; exact Keep.new _
  have h43 : S4[S3.length]? = some (.lst kd) := by rw [← hS4]; exact new_get
  have cat := cat_loc (kp_get (k3.trans k4) h20) h43 (by simp [Line]; omega)
  rw [e5] at cat
  obtain ⟨S5, hS5⟩ : ∃ S5, S4 ++ [Mi.Obj.lst ((there q).map D.int)] = S5 := ⟨_, rfl⟩
  have k5 : Keep [] S4 S5 := by rw [← hS5]; exact Keep.new _
  have hV5 : S5[S4.length]? = some (.lst ((there q).map D.int)) := by rw [← hS5]; exact new_get
  have k15 : Keep [] S1 S5 := k2.trans (k3.trans (k4.trans k5))
  have a5 := a1.kp k15
  have nd := nodes_ok (W := 100) (n := n + 7) a5
  rw [show ((0 : Int) :: (keys q).reverse) = there q from rfl] at nd
  obtain ⟨S6, hS6⟩ : ∃ S6, S5 ++ [Mi.Obj.lst ((there q).map D.int)] = S6 := ⟨_, rfl⟩
  have k6 : Keep [] S5 S6 := by rw [← hS6]; exact Keep.new _
  have hB6 : S6[S5.length]? = some (.lst ((there q).map D.int)) := by rw [← hS6]; exact new_get
  have a6 := a5.kp k6
  have hd6 := head_ok (W := 100) (n := n + 7) a6
  have k16 : Keep [] S1 S6 := k15.trans k6
  have V6 := kp_get k6 hV5
  have l14 : S1.length ≤ S4.length := (k2.trans (k3.trans k4)).1
  have pV : p ≠ S4.length := by omega
  have pB : p ≠ S5.length := by have := k15.1; omega
  obtain ⟨_, S7, e7, xs, rfl, hx1, nx7, st7, k7⟩ := numberK_ok (n := n + 6) (st1.keep k16 (by simp)) V6 pV (by rw [there_len]; omega)
  have ixs : ¬ inT q xs := fun z => nx7 (mem_there.mpr z)
  have V7 := k7.get V6 (by simpa using pV.symm)
  obtain ⟨Z, hZ⟩ : ∃ Z : Int, (((there q).map D.int).length : Int) = Z := ⟨_, rfl⟩
  have zq : Z = q.length + 1 := by rw [← hZ, List.length_map, there_len]; omega
  have len7 : primD .len [.loc S4.length] S7 = .ok (.int Z) S7 := by rw [prim_len_loc V7, hZ]
  obtain ⟨_, S8, e8, j8, rfl, l8, u8', st8, k8, _⟩ := take_ok (W := 100) (n := n + 7) st7 (many := Z) (by omega) (by omega)
  have V8 := k8.get V7 (by simpa using pV.symm)
  obtain ⟨d8, ed8, md8, _⟩ := atI_lt (xs := (there q).map D.int) l8 (by omega)
  obtain ⟨od, hod, rfl⟩ := List.mem_map.mp md8
  have iod : inT q od := mem_there.mp hod
  have f8 := kIdx_loc V8 ed8
  have len8 : primD .len [.loc S4.length] S8 = .ok (.int Z) S8 := by rw [prim_len_loc V8, hZ]
  obtain ⟨_, S9, e9, j9, rfl, l9, u9', st9, k9, _⟩ := take_ok (W := 100) (n := n + 7) st8 (many := Z) (by omega) (by omega)
  have V9 := k9.get V8 (by simpa using pV.symm)
  obtain ⟨d9, ed9, md9, _⟩ := atI_lt (xs := (there q).map D.int) l9 (by omega)
  obtain ⟨oa, _, rfl⟩ := List.mem_map.mp md9
  have f9 := kIdx_loc V9 ed9
  obtain ⟨SA, hSA⟩ : ∃ SA, S9 ++ [Mi.Obj.lst [D.int oa, D.int xs]] = SA := ⟨_, rfl⟩
  have kA : Keep [] S9 SA := by rw [← hSA]; exact Keep.new _
  have hA9 : SA[S9.length]? = some (.lst [D.int oa, D.int xs]) := by rw [← hSA]; exact new_get
  obtain ⟨_, SB, eB, jB, rfl, lB, uB, stB, kB', _⟩ := take_ok (W := 100) (n := n + 7) (st9.keep kA (by simp)) (many := 2) (by decide) (by decide)
  have k69 : Keep [p] S6 S9 := k7.trans (k8.trans k9)
  have p9 : p < S9.length := Nat.lt_of_lt_of_le pl (Nat.le_trans k16.1 k69.1)
  have hAB := kB'.get hA9 (by simp; omega)
  obtain ⟨ya, eya⟩ : ∃ ya, atI [D.int oa, D.int xs] jB = some (.int ya) := by
    have : jB = 0 ∨ jB = 1 := by omega
    rcases this with rfl | rfl
    · exact ⟨oa, rfl⟩
    · exact ⟨xs, rfl⟩
  have fB := kIdx_loc hAB eya
  obtain ⟨_, SC, eC, wC, rfl, _, stC, kC⟩ := weightL_ok (W := 100) (n := n + 6) stB
  have kpC : Keep [p] S6 SC := k69.trans ((kA.mono (by simp)).trans (kB'.trans kC))
  have k1C : Keep [p] S1 SC := (k16.mono (by simp)).trans kpC
  have atC : At q h' t sd SC := ⟨k1C.get a1.ins (by simpa using pt.symm), k1C.get a1.sta (by simpa using psd.symm), a1.wf⟩
  obtain ⟨_, SD, eD, lD, rfl, hlD, kD⟩ := ref_known (n := n + 4) (y := ya) (w := wC) atC iod
  have VC := kpC.get V6 (by simpa using pV.symm)
  have BC := kpC.get hB6 (by simpa using pB.symm)
  obtain ⟨SE, hSE⟩ : ∃ SE, SD ++ [Mi.Obj.lst [D.bl true, .bl false, .bl false, .bl true]] = SE := ⟨_, rfl⟩
  have kE : Keep [] SC SE := by rw [← hSE]; exact kD.trans (Keep.new _)
  have neD : cop .ne (.loc lD) (.loc SD.length) SE = some false := by rw [← hSE]; exact cop_ne_bls (xs := [true, false, false, true]) (old_get hlD) new_get
  obtain ⟨m, em, hm⟩ := max_of (l := there q) (by simp [there])
  have mxE := max_loc (kp_get kE VC) em
  obtain ⟨fa, hfa⟩ : ∃ fa : Int, m + 1 + (if m + 1 = xs then 1 else 0) = fa := ⟨_, rfl⟩
  have ifa : ¬ inT q fa := fun z => by
    have := hm fa (mem_there.mpr z)
    split at hfa <;> omega
  obtain ⟨_, SF, eF, lF, rfl, hlF, kF⟩ := ref_noahead (n := n + 4) (w := 5) (atC.kp kE) ixs ifa
  obtain ⟨SG, hSG⟩ : ∃ SG, SF ++ [Mi.Obj.lst [D.bl false, .bl true, .bl false, .bl true]] = SG := ⟨_, rfl⟩
  have kG : Keep [] SE SG := by rw [← hSG]; exact kF.trans (Keep.new _)
  have neF : cop .ne (.loc lF) (.loc SF.length) SG = some false := by rw [← hSG]; exact cop_ne_bls (xs := [false, true, false, true]) (old_get hlF) new_get
  have k1G : Keep [p] S1 SG := k1C.trans ((kE.trans kG).mono (by simp))
  have hRG := k1G.get hR1 (by simpa using Rp)
  have cutG : sliD (.loc R) none (some ((k : Int) + 1)) SG = .ok (.loc SG.length) (SG ++ [.lst (rows q)]) := by
    rw [sliD_loc hRG, cut_to (by omega), rq, show ((k : Int) + 1).toNat = k + 1 by omega]
  obtain ⟨SH, hSH⟩ : ∃ SH, SG ++ [Mi.Obj.lst (rows q)] = SH := ⟨_, rfl⟩
  have kH : Keep [] SG SH := by rw [← hSH]; exact Keep.new _
  have hHG : SH[SG.length]? = some (.lst (rows q)) := by rw [← hSH]; exact new_get
  have kCH : Keep [] SC SH := kE.trans (kG.trans kH)
  obtain ⟨_, SI, eI, rfl, stI, kI⟩ := strange_ok (n := n + 1) (atC.kp kCH) (stC.keep kCH (by simp)) hHG (by omega) (by omega) pt psd
  have k1I : Keep [p] S1 SI := k1C.trans ((kCH.mono (by simp)).trans kI)
  have atI' : At q h' t sd SI := ⟨k1I.get a1.ins (by simpa using pt.symm), k1I.get a1.sta (by simpa using psd.symm), a1.wf⟩
  have ndI := nodes_ok (W := 100) (n := n + 7) atI'
  rw [show ((0 : Int) :: (keys q).reverse) = there q from rfl] at ndI
  obtain ⟨SJ, hSJ⟩ : ∃ SJ, SI ++ [Mi.Obj.lst ((there q).map D.int)] = SJ := ⟨_, rfl⟩
  have kJ : Keep [] SI SJ := by rw [← hSJ]; exact Keep.new _
  have hJI : SJ[SI.length]? = some (.lst ((there q).map D.int)) := by rw [← hSJ]; exact new_get
  have atJ := atI'.kp kJ
  have hdJ := head_ok (W := 100) (n := n + 7) atJ
  have BJ := kp_get kJ (kI.get (kp_get kCH BC) (by simpa using pB.symm))
  have neJ := ne_pair (h := h') hJI BJ
  have f0 := kIdx_loc y.rr eat
  simp [turnF, bL, f_law, v_cst, v_var, v_bin, v_cmp, v_tup, v_lst, v_idx, v_sli, v_call, v_prim, v_comp, v_mcl, kMcl2, kMcl, w_nott, w_bo, w_cmp, w_call, v_bt1, v_bt2, v_a0, v_a1, v_o0, v_o1, v_seq, v_tvar, v_ttup, v_gs0, v_gs1, v_asg, v_ifs, v_exp, v_b0, v_b1, kVar, kBin, kCmp2, kCmp, kTup, kLst, kIdx, kSli2, kSli, kTru, tNotB, tCmp2, tCmp', tCal, kBT, kCons, kArg, kOpt, kSeq, kNx, kAsg, kIfs, kExp, kB, Res.bind_ok, Cn_call, Line, isRec_of y.a.ins (m := "add") rfl, f0, e1, hS2, cut2, hS3, seqAt_of h32, gat, hS4, cat, hS5, isRec_of a5.ins (m := "nodes") rfl, nd, hS6, isRec_of a6.ins (m := "head") rfl, hd6, e7, len7, e8, f8, len8, e9, f9, hSA, eB, fB, eC, eD, hSE, neD, mxE, rbop_0, rprimD_5, hfa, eF, hSG, neF, cutG, hSH, eI, isRec_of atI'.ins (m := "nodes") rfl, ndI, hSJ, isRec_of atJ.ins (m := "head") rfl, hdJ, neJ]
  have k1J : Keep [p] S1 SJ := k1I.trans (kJ.mono (by simp))
  have Lt : L ≠ t := dif y.l y.a.ins (by simp)
  have Lsd : L ≠ sd := dif y.l y.a.sta (by simp)
  have hL1 := k1.get y.l (by simp [Lt, Lsd])
  have Lp : L ≠ p := strm_ne st1 hL1
  refine ⟨_, _, _, _, _, _, _, _, h', rfl, by rw [hq]; exact atJ, by rw [hq]; exact i1, k1J.get hR1 (by simpa using Rp), k1J.get hL1 (by simpa using Lp), fun p' hp' => ?_⟩
  by_cases e : p' = p
  · subst e
    exact stI.keep kJ (by simp)
  · obtain ⟨z1, z2, z3, ez⟩ := y.st p' hp'
    have n1 : p' ≠ t := dif ez y.a.ins (by simp)
    have n2 : p' ≠ sd := dif ez y.a.sta (by simp)
    exact ⟨z1, z2, z3, k1J.get (k1.get ez (by simp [n1, n2])) (by simpa using e)⟩
theorem run (ns : List Int) (hn : ns.length ≤ 63) : ∃ S', callN T G 100 30 "law" [.kl (ns.map D.int)] [] = .ok (.bl true) S' := by
  have main : Sat (callN T G 100 30 "law" [.kl (ns.map D.int)] []) (fun d S' => d = .bl true) := by
    rw [callN_eq (n := 29) T_f_law rfl]
    obtain ⟨_, S1, e1, ps, L, rfl, hL, hs, hp1, hp2⟩ := streams_ok (W := 100) (n := 26) (S := []) ns hn
    obtain ⟨_, S2, e2, r, rl, w, rfl, hA, hB, hR, hs2, hL2, k2⟩ := grown_ok (n := 26) hL hs hp1
    obtain ⟨_, S3, e3, rfl, sd, at3, _, _, _, k3⟩ := init_ok (n := 28) (W := 100) (S := S2 ++ [Mi.Obj.ins "Tree" []]) (t := S2.length) new_get
    have k23 : Keep [] S2 S3 := kp_nil (Keep.new _) k3 (by simp)
    have y3 : Lw r ps S2.length sd (S1.length + 2) L 0 0 S3 := ⟨by rw [old_zero]; exact at3, by rw [old_zero]; exact inT0, kp_get k23 hR, kp_get k23 hL2, fun p hp => (hs2 p hp).keep k23 (by simp)⟩
    simp [f_law, v_cst, v_var, v_idx, v_call, v_new, v_enm, kNew, v_a0, v_a1, v_tvar, v_asg, v_for, v_b1, kVar, kIdx, kCons, kArg, kNx, kAsg, kB, Res.bind_ok, Cn_call, e1, e2, e3, kEnm_of y3.l]
    (first | (with_reducible refine Sat.p10 (loopE (l := L) (ILw r ps S2.length sd (S1.length + 2) L (some (.kl (ns.map D.int)))) noB noR ?_ ?_ ?_) ?_) | (with_reducible refine Sat.p9 (loopE (l := L) (ILw r ps S2.length sd (S1.length + 2) L (some (.kl (ns.map D.int)))) noB noR ?_ ?_ ?_) ?_) | (with_reducible refine Sat.p8 (loopE (l := L) (ILw r ps S2.length sd (S1.length + 2) L (some (.kl (ns.map D.int)))) noB noR ?_ ?_ ?_) ?_) | (with_reducible refine Sat.p7 (loopE (l := L) (ILw r ps S2.length sd (S1.length + 2) L (some (.kl (ns.map D.int)))) noB noR ?_ ?_ ?_) ?_) | (with_reducible refine Sat.p6 (loopE (l := L) (ILw r ps S2.length sd (S1.length + 2) L (some (.kl (ns.map D.int)))) noB noR ?_ ?_ ?_) ?_) | (with_reducible refine Sat.p5 (loopE (l := L) (ILw r ps S2.length sd (S1.length + 2) L (some (.kl (ns.map D.int)))) noB noR ?_ ?_ ?_) ?_) | (with_reducible refine Sat.p4 (loopE (l := L) (ILw r ps S2.length sd (S1.length + 2) L (some (.kl (ns.map D.int)))) noB noR ?_ ?_ ?_) ?_) | (with_reducible refine Sat.p3 (loopE (l := L) (ILw r ps S2.length sd (S1.length + 2) L (some (.kl (ns.map D.int)))) noB noR ?_ ?_ ?_) ?_) | (with_reducible refine Sat.p2 (loopE (l := L) (ILw r ps S2.length sd (S1.length + 2) L (some (.kl (ns.map D.int)))) noB noR ?_ ?_ ?_) ?_) | (with_reducible refine Sat.p1 (loopE (l := L) (ILw r ps S2.length sd (S1.length + 2) L (some (.kl (ns.map D.int)))) noB noR ?_ ?_ ?_) ?_) | (with_reducible refine Sat.p0 (loopE (l := L) (ILw r ps S2.length sd (S1.length + 2) L (some (.kl (ns.map D.int)))) noB noR ?_ ?_ ?_) ?_))
    · exact ⟨_, _, _, _, _, _, _, _, _, rfl, y3⟩
    · rintro i τ S5 ⟨u4, u5, u6, u7, u8, u9, ua, ub, h, e, y⟩
      exact y.l
    · rintro i d _ S5 hd ⟨u4, u5, u6, u7, u8, u9, ua, ub, h, rfl, y⟩
      rw [List.getElem?_map] at hd
      obtain ⟨p, hpi, rfl⟩ := Option.map_eq_some_iff.mp hd
      have hi := (List.getElem?_eq_some_iff.mp hpi).1
      obtain ⟨fl, S6, e6, τ6, rfl, q6⟩ := turn_ok (n := 21) (c0 := some (.kl (ns.map D.int))) (u4 := u4) (u5 := u5) (u6 := u6) (u7 := u7) (u8 := u8) (u9 := u9) (ua := ua) (ub := ub) w y (List.mem_of_getElem? hpi) (by omega) (by omega)
      exact ⟨_, S6, e6, q6⟩
    intro fl S4 q
    obtain ⟨_, rfl, _⟩ := q.nx
    simp [v_cst, v_ret, v_b1, kRet, kB, Res.bind_ok, finF]
  obtain ⟨d, S', e, rfl⟩ := main
  exact ⟨S', e⟩
end K32

namespace K32
open PySem L2 Mi
noncomputable def top (i : Nat) : Stmt := PySem.Challenge.pw_spentonce_k32_tree_refused.main.body.getD i (.Pass ⟨0, 0, 0, 0⟩)
noncomputable def B : List String := ["int", "len", "enumerate", "list", "isinstance", "max", "min", "reversed"]
noncomputable def F : List String := ["_law_mixed", "_law_stream", "_law_take", "_law_streams", "_law_number", "_law_weight", "_law_grown", "_law_refused", "_law_strange", "law"]
noncomputable def O : Ow := ⟨[("Tree", "__init__", "Tree.__init__"), ("Tree", "check_place", "Tree.check_place"), ("Tree", "add", "Tree.add"), ("Tree", "rank", "Tree.rank"), ("Tree", "has", "Tree.has"), ("Tree", "nodes", "Tree.nodes"), ("Tree", "told_of", "Tree.told_of"), ("Tree", "height", "Tree.height"), ("Tree", "weight", "Tree.weight"), ("Tree", "ahead", "Tree.ahead"), ("Tree", "branch", "Tree.branch"), ("Tree", "head", "Tree.head"), ("Tree", "meeting", "Tree.meeting"), ("Tree", "way", "Tree.way"), ("Tree", "down", "Tree.down")], [("Tree", "standing"), ("Tree", "heaviest")], [("Tree", "Tree.__init__")], ["Known", "NoAhead", "NoSuch"], ["Tree.check_place", "Tree.add", "Tree.rank", "Tree.told_of", "Tree.height", "Tree.weight", "Tree.ahead", "Tree.branch", "Tree.meeting", "Tree.way", "Tree.down"], [("CoinError", "Known", [("Known", true), ("NoAhead", false), ("NoSuch", false), ("ValueError", true)]), ("CoinError", "NoAhead", [("Known", false), ("NoAhead", true), ("NoSuch", false), ("ValueError", true)]), ("CoinError", "NoSuch", [("Known", false), ("NoAhead", false), ("NoSuch", true), ("ValueError", true)])]⟩
noncomputable def cbody : Stmt → List Stmt
  | .ClassDef _ _ _ b _ _ _ _ _ _ _ => b
  | _ => []
noncomputable def topM (i j : Nat) : Stmt := (cbody (top i)).getD j (.Pass ⟨0, 0, 0, 0⟩)
theorem msc_0 : FnScope (f_Tree___init__.N.map Str.ofString) (f_Tree___init__.ps.map Str.ofString) (defScope (topM 10 0)) := ⟨rfl, rfl, rfl, by decide +kernel, by decide +kernel, by decide +kernel, by decide +kernel⟩
theorem mck_0 : chkB f_Tree___init__.body ⟨f_Tree___init__.N.map Str.ofString, (defScope (topM 10 0)).names, true, B, F, O, true⟩ (defBody (topM 10 0)) = true := by decide +kernel
theorem msc_1 : FnScope (f_Tree_check_place.N.map Str.ofString) (f_Tree_check_place.ps.map Str.ofString) (defScope (topM 10 1)) := ⟨rfl, rfl, rfl, by decide +kernel, by decide +kernel, by decide +kernel, by decide +kernel⟩
theorem mck_1 : chkB f_Tree_check_place.body ⟨f_Tree_check_place.N.map Str.ofString, (defScope (topM 10 1)).names, true, B, F, O, true⟩ (defBody (topM 10 1)) = true := by decide +kernel
theorem msc_2 : FnScope (f_Tree_add.N.map Str.ofString) (f_Tree_add.ps.map Str.ofString) (defScope (topM 10 2)) := ⟨rfl, rfl, rfl, by decide +kernel, by decide +kernel, by decide +kernel, by decide +kernel⟩
theorem mck_2 : chkB f_Tree_add.body ⟨f_Tree_add.N.map Str.ofString, (defScope (topM 10 2)).names, true, B, F, O, true⟩ (defBody (topM 10 2)) = true := by decide +kernel
theorem msc_3 : FnScope (f_Tree_rank.N.map Str.ofString) (f_Tree_rank.ps.map Str.ofString) (defScope (topM 10 3)) := ⟨rfl, rfl, rfl, by decide +kernel, by decide +kernel, by decide +kernel, by decide +kernel⟩
theorem mck_3 : chkB f_Tree_rank.body ⟨f_Tree_rank.N.map Str.ofString, (defScope (topM 10 3)).names, true, B, F, O, true⟩ (defBody (topM 10 3)) = true := by decide +kernel
theorem msc_4 : FnScope (f_Tree_has.N.map Str.ofString) (f_Tree_has.ps.map Str.ofString) (defScope (topM 10 4)) := ⟨rfl, rfl, rfl, by decide +kernel, by decide +kernel, by decide +kernel, by decide +kernel⟩
theorem mck_4 : chkB f_Tree_has.body ⟨f_Tree_has.N.map Str.ofString, (defScope (topM 10 4)).names, true, B, F, O, true⟩ (defBody (topM 10 4)) = true := by decide +kernel
theorem msc_5 : FnScope (f_Tree_nodes.N.map Str.ofString) (f_Tree_nodes.ps.map Str.ofString) (defScope (topM 10 5)) := ⟨rfl, rfl, rfl, by decide +kernel, by decide +kernel, by decide +kernel, by decide +kernel⟩
theorem mck_5 : chkB f_Tree_nodes.body ⟨f_Tree_nodes.N.map Str.ofString, (defScope (topM 10 5)).names, true, B, F, O, true⟩ (defBody (topM 10 5)) = true := by decide +kernel
theorem msc_6 : FnScope (f_Tree_told_of.N.map Str.ofString) (f_Tree_told_of.ps.map Str.ofString) (defScope (topM 10 6)) := ⟨rfl, rfl, rfl, by decide +kernel, by decide +kernel, by decide +kernel, by decide +kernel⟩
theorem mck_6 : chkB f_Tree_told_of.body ⟨f_Tree_told_of.N.map Str.ofString, (defScope (topM 10 6)).names, true, B, F, O, true⟩ (defBody (topM 10 6)) = true := by decide +kernel
theorem msc_7 : FnScope (f_Tree_height.N.map Str.ofString) (f_Tree_height.ps.map Str.ofString) (defScope (topM 10 7)) := ⟨rfl, rfl, rfl, by decide +kernel, by decide +kernel, by decide +kernel, by decide +kernel⟩
theorem mck_7 : chkB f_Tree_height.body ⟨f_Tree_height.N.map Str.ofString, (defScope (topM 10 7)).names, true, B, F, O, true⟩ (defBody (topM 10 7)) = true := by decide +kernel
theorem msc_8 : FnScope (f_Tree_weight.N.map Str.ofString) (f_Tree_weight.ps.map Str.ofString) (defScope (topM 10 8)) := ⟨rfl, rfl, rfl, by decide +kernel, by decide +kernel, by decide +kernel, by decide +kernel⟩
theorem mck_8 : chkB f_Tree_weight.body ⟨f_Tree_weight.N.map Str.ofString, (defScope (topM 10 8)).names, true, B, F, O, true⟩ (defBody (topM 10 8)) = true := by decide +kernel
theorem msc_9 : FnScope (f_Tree_ahead.N.map Str.ofString) (f_Tree_ahead.ps.map Str.ofString) (defScope (topM 10 9)) := ⟨rfl, rfl, rfl, by decide +kernel, by decide +kernel, by decide +kernel, by decide +kernel⟩
theorem mck_9 : chkB f_Tree_ahead.body ⟨f_Tree_ahead.N.map Str.ofString, (defScope (topM 10 9)).names, true, B, F, O, true⟩ (defBody (topM 10 9)) = true := by decide +kernel
theorem msc_10 : FnScope (f_Tree_branch.N.map Str.ofString) (f_Tree_branch.ps.map Str.ofString) (defScope (topM 10 10)) := ⟨rfl, rfl, rfl, by decide +kernel, by decide +kernel, by decide +kernel, by decide +kernel⟩
theorem mck_10 : chkB f_Tree_branch.body ⟨f_Tree_branch.N.map Str.ofString, (defScope (topM 10 10)).names, true, B, F, O, true⟩ (defBody (topM 10 10)) = true := by decide +kernel
theorem msc_11 : FnScope (f_Tree_head.N.map Str.ofString) (f_Tree_head.ps.map Str.ofString) (defScope (topM 10 11)) := ⟨rfl, rfl, rfl, by decide +kernel, by decide +kernel, by decide +kernel, by decide +kernel⟩
theorem mck_11 : chkB f_Tree_head.body ⟨f_Tree_head.N.map Str.ofString, (defScope (topM 10 11)).names, true, B, F, O, true⟩ (defBody (topM 10 11)) = true := by decide +kernel
theorem msc_12 : FnScope (f_Tree_meeting.N.map Str.ofString) (f_Tree_meeting.ps.map Str.ofString) (defScope (topM 10 12)) := ⟨rfl, rfl, rfl, by decide +kernel, by decide +kernel, by decide +kernel, by decide +kernel⟩
theorem mck_12 : chkB f_Tree_meeting.body ⟨f_Tree_meeting.N.map Str.ofString, (defScope (topM 10 12)).names, true, B, F, O, true⟩ (defBody (topM 10 12)) = true := by decide +kernel
theorem msc_13 : FnScope (f_Tree_way.N.map Str.ofString) (f_Tree_way.ps.map Str.ofString) (defScope (topM 10 13)) := ⟨rfl, rfl, rfl, by decide +kernel, by decide +kernel, by decide +kernel, by decide +kernel⟩
theorem mck_13 : chkB f_Tree_way.body ⟨f_Tree_way.N.map Str.ofString, (defScope (topM 10 13)).names, true, B, F, O, true⟩ (defBody (topM 10 13)) = true := by decide +kernel
theorem msc_14 : FnScope (f_Tree_down.N.map Str.ofString) (f_Tree_down.ps.map Str.ofString) (defScope (topM 10 14)) := ⟨rfl, rfl, rfl, by decide +kernel, by decide +kernel, by decide +kernel, by decide +kernel⟩
theorem mck_14 : chkB f_Tree_down.body ⟨f_Tree_down.N.map Str.ofString, (defScope (topM 10 14)).names, true, B, F, O, true⟩ (defBody (topM 10 14)) = true := by decide +kernel
theorem sc_0 : FnScope (f_law_mixed.N.map Str.ofString) (f_law_mixed.ps.map Str.ofString) (defScope (top 12)) := ⟨rfl, rfl, rfl, by decide +kernel, by decide +kernel, by decide +kernel, by decide +kernel⟩
theorem ck_0 : chkB f_law_mixed.body ⟨f_law_mixed.N.map Str.ofString, (defScope (top 12)).names, true, B, F, O, true⟩ (defBody (top 12)) = true := by decide +kernel
theorem sc_1 : FnScope (f_law_stream.N.map Str.ofString) (f_law_stream.ps.map Str.ofString) (defScope (top 13)) := ⟨rfl, rfl, rfl, by decide +kernel, by decide +kernel, by decide +kernel, by decide +kernel⟩
theorem ck_1 : chkB f_law_stream.body ⟨f_law_stream.N.map Str.ofString, (defScope (top 13)).names, true, B, F, O, true⟩ (defBody (top 13)) = true := by decide +kernel
theorem sc_2 : FnScope (f_law_take.N.map Str.ofString) (f_law_take.ps.map Str.ofString) (defScope (top 14)) := ⟨rfl, rfl, rfl, by decide +kernel, by decide +kernel, by decide +kernel, by decide +kernel⟩
theorem ck_2 : chkB f_law_take.body ⟨f_law_take.N.map Str.ofString, (defScope (top 14)).names, true, B, F, O, true⟩ (defBody (top 14)) = true := by decide +kernel
theorem sc_3 : FnScope (f_law_streams.N.map Str.ofString) (f_law_streams.ps.map Str.ofString) (defScope (top 15)) := ⟨rfl, rfl, rfl, by decide +kernel, by decide +kernel, by decide +kernel, by decide +kernel⟩
theorem ck_3 : chkB f_law_streams.body ⟨f_law_streams.N.map Str.ofString, (defScope (top 15)).names, true, B, F, O, true⟩ (defBody (top 15)) = true := by decide +kernel
theorem sc_4 : FnScope (f_law_number.N.map Str.ofString) (f_law_number.ps.map Str.ofString) (defScope (top 16)) := ⟨rfl, rfl, rfl, by decide +kernel, by decide +kernel, by decide +kernel, by decide +kernel⟩
theorem ck_4 : chkB f_law_number.body ⟨f_law_number.N.map Str.ofString, (defScope (top 16)).names, true, B, F, O, true⟩ (defBody (top 16)) = true := by decide +kernel
theorem sc_5 : FnScope (f_law_weight.N.map Str.ofString) (f_law_weight.ps.map Str.ofString) (defScope (top 17)) := ⟨rfl, rfl, rfl, by decide +kernel, by decide +kernel, by decide +kernel, by decide +kernel⟩
theorem ck_5 : chkB f_law_weight.body ⟨f_law_weight.N.map Str.ofString, (defScope (top 17)).names, true, B, F, O, true⟩ (defBody (top 17)) = true := by decide +kernel
theorem sc_6 : FnScope (f_law_grown.N.map Str.ofString) (f_law_grown.ps.map Str.ofString) (defScope (top 18)) := ⟨rfl, rfl, rfl, by decide +kernel, by decide +kernel, by decide +kernel, by decide +kernel⟩
theorem ck_6 : chkB f_law_grown.body ⟨f_law_grown.N.map Str.ofString, (defScope (top 18)).names, true, B, F, O, true⟩ (defBody (top 18)) = true := by decide +kernel
theorem sc_7 : FnScope (f_law_refused.N.map Str.ofString) (f_law_refused.ps.map Str.ofString) (defScope (top 19)) := ⟨rfl, rfl, rfl, by decide +kernel, by decide +kernel, by decide +kernel, by decide +kernel⟩
theorem ck_7 : chkB f_law_refused.body ⟨f_law_refused.N.map Str.ofString, (defScope (top 19)).names, true, B, F, O, true⟩ (defBody (top 19)) = true := by decide +kernel
theorem sc_8 : FnScope (f_law_strange.N.map Str.ofString) (f_law_strange.ps.map Str.ofString) (defScope (top 20)) := ⟨rfl, rfl, rfl, by decide +kernel, by decide +kernel, by decide +kernel, by decide +kernel⟩
theorem ck_8 : chkB f_law_strange.body ⟨f_law_strange.N.map Str.ofString, (defScope (top 20)).names, true, B, F, O, true⟩ (defBody (top 20)) = true := by decide +kernel
theorem sc_9 : FnScope (f_law.N.map Str.ofString) (f_law.ps.map Str.ofString) (defScope (top 21)) := ⟨rfl, rfl, rfl, by decide +kernel, by decide +kernel, by decide +kernel, by decide +kernel⟩
theorem ck_9 : chkB f_law.body ⟨f_law.N.map Str.ofString, (defScope (top 21)).names, true, B, F, O, true⟩ (defBody (top 21)) = true := by decide +kernel
theorem txt {K : PySem.W.Frag} {mg : Str → Option Value} {h : Heap} {t0 : Tok} {t1 : Tok} {t2 : Tok} {t3 : Tok} (KX : K.In h) (hG : h.Ns mainGlobals mg) (f0 : FE K (Str.ofString "_law_mixed") (top 12)) (f1 : FE K (Str.ofString "_law_stream") (top 13)) (f2 : FE K (Str.ofString "_law_take") (top 14)) (f3 : FE K (Str.ofString "_law_streams") (top 15)) (f4 : FE K (Str.ofString "_law_number") (top 16)) (f5 : FE K (Str.ofString "_law_weight") (top 17)) (f6 : FE K (Str.ofString "_law_grown") (top 18)) (f7 : FE K (Str.ofString "_law_refused") (top 19)) (f8 : FE K (Str.ofString "_law_strange") (top 20)) (f9 : FE K (Str.ofString "law") (top 21)) (b0 : PySem.W.nsIn K mainGlobals (Str.ofString "int") = some none) (b1 : PySem.W.nsIn K mainGlobals (Str.ofString "len") = some none) (b2 : PySem.W.nsIn K mainGlobals (Str.ofString "enumerate") = some none) (b3 : PySem.W.nsIn K mainGlobals (Str.ofString "list") = some none) (b4 : PySem.W.nsIn K mainGlobals (Str.ofString "isinstance") = some none) (b5 : PySem.W.nsIn K mainGlobals (Str.ofString "max") = some none) (b6 : PySem.W.nsIn K mainGlobals (Str.ofString "min") = some none) (b7 : PySem.W.nsIn K mainGlobals (Str.ofString "reversed") = some none) (cf : CF K (Str.ofString "Tree")) (nw : NW K (Str.ofString "Tree")) (n0 : NF K (Str.ofString "Tree") (Str.ofString "standing")) (n1 : NF K (Str.ofString "Tree") (Str.ofString "heaviest")) (m0 : MF K (Str.ofString "Tree") (Str.ofString "__init__") (Str.ofString "Tree.__init__") (topM 10 0)) (m1 : MF K (Str.ofString "Tree") (Str.ofString "check_place") (Str.ofString "Tree.check_place") (topM 10 1)) (m2 : MF K (Str.ofString "Tree") (Str.ofString "add") (Str.ofString "Tree.add") (topM 10 2)) (m3 : MF K (Str.ofString "Tree") (Str.ofString "rank") (Str.ofString "Tree.rank") (topM 10 3)) (m4 : MF K (Str.ofString "Tree") (Str.ofString "has") (Str.ofString "Tree.has") (topM 10 4)) (m5 : MF K (Str.ofString "Tree") (Str.ofString "nodes") (Str.ofString "Tree.nodes") (topM 10 5)) (m6 : MF K (Str.ofString "Tree") (Str.ofString "told_of") (Str.ofString "Tree.told_of") (topM 10 6)) (m7 : MF K (Str.ofString "Tree") (Str.ofString "height") (Str.ofString "Tree.height") (topM 10 7)) (m8 : MF K (Str.ofString "Tree") (Str.ofString "weight") (Str.ofString "Tree.weight") (topM 10 8)) (m9 : MF K (Str.ofString "Tree") (Str.ofString "ahead") (Str.ofString "Tree.ahead") (topM 10 9)) (m10 : MF K (Str.ofString "Tree") (Str.ofString "branch") (Str.ofString "Tree.branch") (topM 10 10)) (m11 : MF K (Str.ofString "Tree") (Str.ofString "head") (Str.ofString "Tree.head") (topM 10 11)) (m12 : MF K (Str.ofString "Tree") (Str.ofString "meeting") (Str.ofString "Tree.meeting") (topM 10 12)) (m13 : MF K (Str.ofString "Tree") (Str.ofString "way") (Str.ofString "Tree.way") (topM 10 13)) (m14 : MF K (Str.ofString "Tree") (Str.ofString "down") (Str.ofString "Tree.down") (topM 10 14)) (xr0 : XC K (Str.ofString "Known")) (xr1 : XC K (Str.ofString "NoAhead")) (xr2 : XC K (Str.ofString "NoSuch")) (xt0 : XT K (Str.ofString "CoinError") (Str.ofString "Known")) (xi0_0 : XI K (Str.ofString "Known") (Str.ofString "Known") true) (xi0_1 : XI K (Str.ofString "Known") (Str.ofString "NoAhead") false) (xi0_2 : XI K (Str.ofString "Known") (Str.ofString "NoSuch") false) (xi0_3 : XV K (Str.ofString "Known") true) (xt1 : XT K (Str.ofString "CoinError") (Str.ofString "NoAhead")) (xi1_0 : XI K (Str.ofString "NoAhead") (Str.ofString "Known") false) (xi1_1 : XI K (Str.ofString "NoAhead") (Str.ofString "NoAhead") true) (xi1_2 : XI K (Str.ofString "NoAhead") (Str.ofString "NoSuch") false) (xi1_3 : XV K (Str.ofString "NoAhead") true) (xt2 : XT K (Str.ofString "CoinError") (Str.ofString "NoSuch")) (xi2_0 : XI K (Str.ofString "NoSuch") (Str.ofString "Known") false) (xi2_1 : XI K (Str.ofString "NoSuch") (Str.ofString "NoAhead") false) (xi2_2 : XI K (Str.ofString "NoSuch") (Str.ofString "NoSuch") true) (xi2_3 : XV K (Str.ofString "NoSuch") true) (g0 : PySem.W.nsIn K mainGlobals (Str.ofString "ROOT") = some (some (.int 0 t0))) (g1 : PySem.W.nsIn K mainGlobals (Str.ofString "HEIGHT") = some (some (.int 1 t1))) (g2 : PySem.W.nsIn K mainGlobals (Str.ofString "WEIGHT") = some (some (.int 2 t2))) (g3 : PySem.W.nsIn K mainGlobals (Str.ofString "AHEAD") = some (some (.int 0 t3))) : Txt K mg T G B F O where
  fns := by
    intro f hf
    simp only [F, List.mem_cons, List.not_mem_nil, or_false] at hf
    rcases hf with rfl | rfl | rfl | rfl | rfl | rfl | rfl | rfl | rfl | rfl
    · exact fnf_of KX hG f0 T_f_law_mixed sc_0 ck_0 fun _ _ _ _ _ _ => len1 fun _ => rfl
    · exact fnf_of KX hG f1 T_f_law_stream sc_1 ck_1 fun _ _ _ _ _ _ => len3 fun _ _ _ => rfl
    · exact fnf_of KX hG f2 T_f_law_take sc_2 ck_2 fun _ _ _ _ _ _ => len2 fun _ _ => rfl
    · exact fnf_of KX hG f3 T_f_law_streams sc_3 ck_3 fun _ _ _ _ _ _ => len1 fun _ => rfl
    · exact fnf_of KX hG f4 T_f_law_number sc_4 ck_4 fun _ _ _ _ _ _ => len2 fun _ _ => rfl
    · exact fnf_of KX hG f5 T_f_law_weight sc_5 ck_5 fun _ _ _ _ _ _ => len1 fun _ => rfl
    · exact fnf_of KX hG f6 T_f_law_grown sc_6 ck_6 fun _ _ _ _ _ _ => len1 fun _ => rfl
    · exact fnf_of KX hG f7 T_f_law_refused sc_7 ck_7 fun _ _ _ _ _ _ => len3 fun _ _ _ => rfl
    · exact fnf_of KX hG f8 T_f_law_strange sc_8 ck_8 fun _ _ _ _ _ _ => len3 fun _ _ _ => rfl
    · exact fnf_of KX hG f9 T_f_law sc_9 ck_9 fun _ _ _ _ _ _ => len1 fun _ => rfl
  blt := by
    intro x hx
    simp only [B, List.mem_cons, List.not_mem_nil, or_false] at hx
    rcases hx with rfl | rfl | rfl | rfl | rfl | rfl | rfl | rfl
    · exact gb_of KX hG b0
    · exact gb_of KX hG b1
    · exact gb_of KX hG b2
    · exact gb_of KX hG b3
    · exact gb_of KX hG b4
    · exact gb_of KX hG b5
    · exact gb_of KX hG b6
    · exact gb_of KX hG b7
  gl := by
    intro x d hd
    unfold G at hd
    split at hd
    · rename_i e; subst e; cases hd; exact gi_of KX hG g0
    split at hd
    · rename_i e; subst e; cases hd; exact gi_of KX hG g1
    split at hd
    · rename_i e; subst e; cases hd; exact gi_of KX hG g2
    split at hd
    · rename_i e; subst e; cases hd; exact gi_of KX hG g3
    cases hd
  mts := by
    intro c m f hf
    simp only [O, List.mem_cons, List.not_mem_nil, or_false, Prod.mk.injEq] at hf
    rcases hf with ⟨rfl, rfl, rfl⟩ | ⟨rfl, rfl, rfl⟩ | ⟨rfl, rfl, rfl⟩ | ⟨rfl, rfl, rfl⟩ | ⟨rfl, rfl, rfl⟩ | ⟨rfl, rfl, rfl⟩ | ⟨rfl, rfl, rfl⟩ | ⟨rfl, rfl, rfl⟩ | ⟨rfl, rfl, rfl⟩ | ⟨rfl, rfl, rfl⟩ | ⟨rfl, rfl, rfl⟩ | ⟨rfl, rfl, rfl⟩ | ⟨rfl, rfl, rfl⟩ | ⟨rfl, rfl, rfl⟩ | ⟨rfl, rfl, rfl⟩
    · exact mtf_of cf m0 T_f_Tree___init__ msc_0 mck_0 fun _ _ _ _ _ _ => len1 fun _ => rfl
    · exact mtf_of cf m1 T_f_Tree_check_place msc_1 mck_1 fun _ _ _ _ _ _ => len3 fun _ _ _ => rfl
    · exact mtf_of cf m2 T_f_Tree_add msc_2 mck_2 fun _ _ _ _ _ _ => len4 fun _ _ _ _ => rfl
    · exact mtf_of cf m3 T_f_Tree_rank msc_3 mck_3 fun _ _ _ _ _ _ => len2 fun _ _ => rfl
    · exact mtf_of cf m4 T_f_Tree_has msc_4 mck_4 fun _ _ _ _ _ _ => len2 fun _ _ => rfl
    · exact mtf_of cf m5 T_f_Tree_nodes msc_5 mck_5 fun _ _ _ _ _ _ => len1 fun _ => rfl
    · exact mtf_of cf m6 T_f_Tree_told_of msc_6 mck_6 fun _ _ _ _ _ _ => len2 fun _ _ => rfl
    · exact mtf_of cf m7 T_f_Tree_height msc_7 mck_7 fun _ _ _ _ _ _ => len2 fun _ _ => rfl
    · exact mtf_of cf m8 T_f_Tree_weight msc_8 mck_8 fun _ _ _ _ _ _ => len2 fun _ _ => rfl
    · exact mtf_of cf m9 T_f_Tree_ahead msc_9 mck_9 fun _ _ _ _ _ _ => len2 fun _ _ => rfl
    · exact mtf_of cf m10 T_f_Tree_branch msc_10 mck_10 fun _ _ _ _ _ _ => len2 fun _ _ => rfl
    · exact mtf_of cf m11 T_f_Tree_head msc_11 mck_11 fun _ _ _ _ _ _ => len1 fun _ => rfl
    · exact mtf_of cf m12 T_f_Tree_meeting msc_12 mck_12 fun _ _ _ _ _ _ => len3 fun _ _ _ => rfl
    · exact mtf_of cf m13 T_f_Tree_way msc_13 mck_13 fun _ _ _ _ _ _ => len3 fun _ _ _ => rfl
    · exact mtf_of cf m14 T_f_Tree_down msc_14 mck_14 fun _ _ _ _ _ _ => len3 fun _ _ _ => rfl
  fds := by
    intro c f hf
    simp only [O, List.mem_cons, List.not_mem_nil, or_false, Prod.mk.injEq] at hf
    rcases hf with ⟨rfl, rfl⟩ | ⟨rfl, rfl⟩
    · exact fdf_of cf n0
    · exact fdf_of cf n1
  nws := by
    intro c f hf
    simp only [O, List.mem_cons, List.not_mem_nil, or_false, Prod.mk.injEq] at hf
    obtain ⟨rfl, rfl⟩ := hf
    exact nwf_of KX hG cf nw (mtf_of cf m0 T_f_Tree___init__ msc_0 mck_0 fun _ _ _ _ _ _ => len1 fun _ => rfl)
  rss := by
    intro c hc
    simp only [O, List.mem_cons, List.not_mem_nil, or_false] at hc
    rcases hc with rfl | rfl | rfl
    · exact rsf_of KX hG xr0
    · exact rsf_of KX hG xr1
    · exact rsf_of KX hG xr2
  exs := by
    intro x c ts hx
    simp only [O, List.mem_cons, List.not_mem_nil, or_false, Prod.mk.injEq] at hx
    rcases hx with ⟨rfl, rfl, rfl⟩ | ⟨rfl, rfl, rfl⟩ | ⟨rfl, rfl, rfl⟩
    · refine exf_of KX hG xt0 fun Ca n t b hb => ?_
      simp only [List.mem_cons, List.not_mem_nil, or_false, Prod.mk.injEq] at hb
      rcases hb with ⟨rfl, rfl⟩ | ⟨rfl, rfl⟩ | ⟨rfl, rfl⟩ | ⟨rfl, rfl⟩
      · exact isI KX hG n xi0_0
      · exact isI KX hG n xi0_1
      · exact isI KX hG n xi0_2
      · exact isV KX hG n xi0_3
    · refine exf_of KX hG xt1 fun Ca n t b hb => ?_
      simp only [List.mem_cons, List.not_mem_nil, or_false, Prod.mk.injEq] at hb
      rcases hb with ⟨rfl, rfl⟩ | ⟨rfl, rfl⟩ | ⟨rfl, rfl⟩ | ⟨rfl, rfl⟩
      · exact isI KX hG n xi1_0
      · exact isI KX hG n xi1_1
      · exact isI KX hG n xi1_2
      · exact isV KX hG n xi1_3
    · refine exf_of KX hG xt2 fun Ca n t b hb => ?_
      simp only [List.mem_cons, List.not_mem_nil, or_false, Prod.mk.injEq] at hb
      rcases hb with ⟨rfl, rfl⟩ | ⟨rfl, rfl⟩ | ⟨rfl, rfl⟩ | ⟨rfl, rfl⟩
      · exact isI KX hG n xi2_0
      · exact isI KX hG n xi2_1
      · exact isI KX hG n xi2_2
      · exact isV KX hG n xi2_3
  rzs := by
    intro f hf
    simp only [O, List.mem_cons, List.not_mem_nil, or_false] at hf
    rcases hf with rfl | rfl | rfl | rfl | rfl | rfl | rfl | rfl | rfl | rfl | rfl
    · exact ⟨_, T_f_Tree_check_place, rfl⟩
    · exact ⟨_, T_f_Tree_add, rfl⟩
    · exact ⟨_, T_f_Tree_rank, rfl⟩
    · exact ⟨_, T_f_Tree_told_of, rfl⟩
    · exact ⟨_, T_f_Tree_height, rfl⟩
    · exact ⟨_, T_f_Tree_weight, rfl⟩
    · exact ⟨_, T_f_Tree_ahead, rfl⟩
    · exact ⟨_, T_f_Tree_branch, rfl⟩
    · exact ⟨_, T_f_Tree_meeting, rfl⟩
    · exact ⟨_, T_f_Tree_way, rfl⟩
    · exact ⟨_, T_f_Tree_down, rfl⟩
end K32

namespace K32
open PySem L2 Mi
noncomputable abbrev kE (P : Params) (x : Str) (t : Nat) (v : Value) : DictEntry := ⟨PyData.keyHash P x, .str x t, v⟩
noncomputable def q : Program := { PySem.Challenge.pw_spentonce_k32_tree_refused with main := { PySem.Challenge.pw_spentonce_k32_tree_refused.main with body := [1, 2, 3, 4, 6, 7, 8, 9, 10, 12, 13, 14, 15, 16, 17, 18, 19, 20, 21].map top } }
noncomputable def K (P : Params) : PySem.W.Frag :=
  (nat_lit 2, ⟨.none, none, (.dict #[] 0), #[]⟩) ::
  (nat_lit 3, ⟨(.type "dict"), none, (.dict #[kE P "__name__" 165 (.str "law_spentonce_k32_tree_refused" 412), kE P "__doc__" 166 .none, kE P "__package__" 167 .none, kE P "__loader__" 168 (.builtin "__main__.__loader__#opaque"), kE P "__spec__" 169 .none, kE P "__annotations__" 170 (.ref 6), kE P "__builtins__" 171 (.ref 4), kE P "__file__" 173 (.str "/claim/cut.py" 172), kE P "__cached__" 174 .none, kE P "CoinError" 206 (.ref 24), kE P "Known" 222 (.ref 37), kE P "NoAhead" 238 (.ref 49), kE P "NoSuch" 254 (.ref 61), kE P "ROOT" 258 (.int 0 257), kE P "AHEAD" 260 (.int 0 259), kE P "HEIGHT" 262 (.int 1 261), kE P "WEIGHT" 264 (.int 2 263), kE P "Tree" 411 (.ref 178), kE P "_law_mixed" 420 (.ref 189), kE P "_law_stream" 430 (.ref 196), kE P "_law_take" 439 (.ref 203), kE P "_law_streams" 445 (.ref 208), kE P "_law_number" 454 (.ref 215), kE P "_law_weight" 461 (.ref 222), kE P "_law_grown" 475 (.ref 229), kE P "_law_refused" 486 (.ref 236), kE P "_law_strange" 492 (.ref 241), kE P "law" 498 (.ref 246)] 28), #[]⟩) ::
  (nat_lit 15, ⟨(.type "tuple"), none, (.seq #[(.type "ValueError")] 0), #[]⟩) ::
  (nat_lit 22, ⟨(.type "tuple"), none, (.seq #[] 0), #[]⟩) ::
  (nat_lit 23, ⟨(.type "dict"), none, (.dict #[kE P "__module__" 196 (.str "spentonce.errors" 187), kE P "__firstlineno__" 200 (.int 2 199), kE P "__static_attributes__" 201 (.ref 22), kE P "__weakref__" 203 (.ref 25), kE P "__doc__" 204 .none] 3), #[]⟩) ::
  (nat_lit 24, ⟨(.type "type"), none, (.cls ⟨"CoinError", [(.type "ValueError")], [(.ref 24), (.type "ValueError"), (.type "Exception"), (.type "BaseException"), (.type "object")], 23, "CoinError", true, [], [(.ref 37), (.ref 49), (.ref 61)], false, none, false⟩), #[(some (.ref 15)), none, (some (.str "CoinError" 189)), (some (.str "CoinError" 197)), (some (.builtin "ValueError.__new__")), (some (.bool true))]⟩) ::
  (nat_lit 25, ⟨(.type "getset_descriptor"), none, (.fields #[(.str "__weakref__" 202), (.ref 24), (.builtin "ExceptionGroup.__weakref__"), .none]), #[]⟩) ::
  (nat_lit 28, ⟨(.type "tuple"), none, (.seq #[(.ref 24)] 0), #[]⟩) ::
  (nat_lit 35, ⟨(.type "tuple"), none, (.seq #[] 0), #[]⟩) ::
  (nat_lit 36, ⟨(.type "dict"), none, (.dict #[kE P "__module__" 214 (.str "spentonce.errors" 187), kE P "__firstlineno__" 218 (.int 4 217), kE P "__static_attributes__" 219 (.ref 35), kE P "__doc__" 220 .none] 2), #[]⟩) ::
  (nat_lit 37, ⟨(.type "type"), none, (.cls ⟨"Known", [(.ref 24)], [(.ref 37), (.ref 24), (.type "ValueError"), (.type "Exception"), (.type "BaseException"), (.type "object")], 36, "Known", true, [], [], false, none, false⟩), #[(some (.ref 28)), none, (some (.str "Known" 207)), (some (.str "Known" 215)), (some (.builtin "ValueError.__new__")), (some (.bool true))]⟩) ::
  (nat_lit 40, ⟨(.type "tuple"), none, (.seq #[(.ref 24)] 0), #[]⟩) ::
  (nat_lit 47, ⟨(.type "tuple"), none, (.seq #[] 0), #[]⟩) ::
  (nat_lit 48, ⟨(.type "dict"), none, (.dict #[kE P "__module__" 230 (.str "spentonce.errors" 187), kE P "__firstlineno__" 234 (.int 6 233), kE P "__static_attributes__" 235 (.ref 47), kE P "__doc__" 236 .none] 2), #[]⟩) ::
  (nat_lit 49, ⟨(.type "type"), none, (.cls ⟨"NoAhead", [(.ref 24)], [(.ref 49), (.ref 24), (.type "ValueError"), (.type "Exception"), (.type "BaseException"), (.type "object")], 48, "NoAhead", true, [], [], false, none, false⟩), #[(some (.ref 40)), none, (some (.str "NoAhead" 223)), (some (.str "NoAhead" 231)), (some (.builtin "ValueError.__new__")), (some (.bool true))]⟩) ::
  (nat_lit 52, ⟨(.type "tuple"), none, (.seq #[(.ref 24)] 0), #[]⟩) ::
  (nat_lit 59, ⟨(.type "tuple"), none, (.seq #[] 0), #[]⟩) ::
  (nat_lit 60, ⟨(.type "dict"), none, (.dict #[kE P "__module__" 246 (.str "spentonce.errors" 187), kE P "__firstlineno__" 250 (.int 8 249), kE P "__static_attributes__" 251 (.ref 59), kE P "__doc__" 252 .none] 2), #[]⟩) ::
  (nat_lit 61, ⟨(.type "type"), none, (.cls ⟨"NoSuch", [(.ref 24)], [(.ref 61), (.ref 24), (.type "ValueError"), (.type "Exception"), (.type "BaseException"), (.type "object")], 60, "NoSuch", true, [], [], false, none, false⟩), #[(some (.ref 52)), none, (some (.str "NoSuch" 239)), (some (.str "NoSuch" 247)), (some (.builtin "ValueError.__new__")), (some (.bool true))]⟩) ::
  (nat_lit 71, ⟨(.type "tuple"), none, (.seq #[] 0), #[]⟩) ::
  (nat_lit 73, ⟨(.type "tuple"), none, (.seq #[(.str "self" 280)] 0), #[]⟩) ::
  (nat_lit 74, ⟨(.type "tuple"), none, (.seq #[] 0), #[]⟩) ::
  (nat_lit 76, ⟨(.type "code"), none, (.fields #[(.str "__init__" 277), (.str "Tree.__init__" 278), (.str "/claim/cut.py" 279), (.int 17 0), (.int 1 0), (.int 0 0), (.int 0 0), (.int 3 0), (.ref 71), (.bool true), (.int 181 0), (.ref 72), .none, (.ref 73), (.ref 74), (.ref 75), (.int 281 0), (.int 17 0), (.str "/claim/cut.py" 282)]), #[]⟩) ::
  (nat_lit 77, ⟨(.type "function"), none, (.func ⟨"__init__", "Tree.__init__", defArgs (topM 10 0), .stmts (defBody (topM 10 0)), defScope (topM 10 0), 3, [], .none, .none, .none, (.str "spentonce.tree" 255), none, (.ref 76), .none, 0⟩), #[]⟩) ::
  (nat_lit 78, ⟨(.type "tuple"), none, (.seq #[] 0), #[]⟩) ::
  (nat_lit 80, ⟨(.type "tuple"), none, (.seq #[(.str "self" 287), (.str "number" 288), (.str "ahead" 289)] 0), #[]⟩) ::
  (nat_lit 81, ⟨(.type "tuple"), none, (.seq #[] 0), #[]⟩) ::
  (nat_lit 83, ⟨(.type "code"), none, (.fields #[(.str "check_place" 284), (.str "Tree.check_place" 285), (.str "/claim/cut.py" 286), (.int 21 0), (.int 3 0), (.int 0 0), (.int 0 0), (.int 3 0), (.ref 78), (.bool true), (.int 181 0), (.ref 79), .none, (.ref 80), (.ref 81), (.ref 82), (.int 290 0), (.int 21 0), (.str "/claim/cut.py" 291)]), #[]⟩) ::
  (nat_lit 84, ⟨(.type "function"), none, (.func ⟨"check_place", "Tree.check_place", defArgs (topM 10 1), .stmts (defBody (topM 10 1)), defScope (topM 10 1), 3, [], .none, .none, .none, (.str "spentonce.tree" 255), none, (.ref 83), .none, 0⟩), #[]⟩) ::
  (nat_lit 85, ⟨(.type "tuple"), none, (.seq #[] 0), #[]⟩) ::
  (nat_lit 87, ⟨(.type "tuple"), none, (.seq #[(.str "self" 296), (.str "number" 297), (.str "ahead" 298), (.str "weight" 299)] 0), #[]⟩) ::
  (nat_lit 88, ⟨(.type "tuple"), none, (.seq #[] 0), #[]⟩) ::
  (nat_lit 90, ⟨(.type "code"), none, (.fields #[(.str "add" 293), (.str "Tree.add" 294), (.str "/claim/cut.py" 295), (.int 27 0), (.int 4 0), (.int 0 0), (.int 0 0), (.int 3 0), (.ref 85), (.bool true), (.int 181 0), (.ref 86), .none, (.ref 87), (.ref 88), (.ref 89), (.int 300 0), (.int 27 0), (.str "/claim/cut.py" 301)]), #[]⟩) ::
  (nat_lit 91, ⟨(.type "function"), none, (.func ⟨"add", "Tree.add", defArgs (topM 10 2), .stmts (defBody (topM 10 2)), defScope (topM 10 2), 3, [], .none, .none, .none, (.str "spentonce.tree" 255), none, (.ref 90), .none, 0⟩), #[]⟩) ::
  (nat_lit 92, ⟨(.type "tuple"), none, (.seq #[] 0), #[]⟩) ::
  (nat_lit 94, ⟨(.type "tuple"), none, (.seq #[(.str "self" 306), (.str "number" 307)] 0), #[]⟩) ::
  (nat_lit 95, ⟨(.type "tuple"), none, (.seq #[] 0), #[]⟩) ::
  (nat_lit 97, ⟨(.type "code"), none, (.fields #[(.str "rank" 303), (.str "Tree.rank" 304), (.str "/claim/cut.py" 305), (.int 32 0), (.int 2 0), (.int 0 0), (.int 0 0), (.int 3 0), (.ref 92), (.bool true), (.int 181 0), (.ref 93), .none, (.ref 94), (.ref 95), (.ref 96), (.int 308 0), (.int 32 0), (.str "/claim/cut.py" 309)]), #[]⟩) ::
  (nat_lit 98, ⟨(.type "function"), none, (.func ⟨"rank", "Tree.rank", defArgs (topM 10 3), .stmts (defBody (topM 10 3)), defScope (topM 10 3), 3, [], .none, .none, .none, (.str "spentonce.tree" 255), none, (.ref 97), .none, 0⟩), #[]⟩) ::
  (nat_lit 99, ⟨(.type "tuple"), none, (.seq #[] 0), #[]⟩) ::
  (nat_lit 101, ⟨(.type "tuple"), none, (.seq #[(.str "self" 314), (.str "number" 315)] 0), #[]⟩) ::
  (nat_lit 102, ⟨(.type "tuple"), none, (.seq #[] 0), #[]⟩) ::
  (nat_lit 104, ⟨(.type "code"), none, (.fields #[(.str "has" 311), (.str "Tree.has" 312), (.str "/claim/cut.py" 313), (.int 35 0), (.int 2 0), (.int 0 0), (.int 0 0), (.int 3 0), (.ref 99), (.bool true), (.int 181 0), (.ref 100), .none, (.ref 101), (.ref 102), (.ref 103), (.int 316 0), (.int 35 0), (.str "/claim/cut.py" 317)]), #[]⟩) ::
  (nat_lit 105, ⟨(.type "function"), none, (.func ⟨"has", "Tree.has", defArgs (topM 10 4), .stmts (defBody (topM 10 4)), defScope (topM 10 4), 3, [], .none, .none, .none, (.str "spentonce.tree" 255), none, (.ref 104), .none, 0⟩), #[]⟩) ::
  (nat_lit 106, ⟨(.type "tuple"), none, (.seq #[] 0), #[]⟩) ::
  (nat_lit 108, ⟨(.type "tuple"), none, (.seq #[(.str "self" 322)] 0), #[]⟩) ::
  (nat_lit 109, ⟨(.type "tuple"), none, (.seq #[] 0), #[]⟩) ::
  (nat_lit 111, ⟨(.type "code"), none, (.fields #[(.str "nodes" 319), (.str "Tree.nodes" 320), (.str "/claim/cut.py" 321), (.int 38 0), (.int 1 0), (.int 0 0), (.int 0 0), (.int 3 0), (.ref 106), (.bool true), (.int 181 0), (.ref 107), .none, (.ref 108), (.ref 109), (.ref 110), (.int 323 0), (.int 38 0), (.str "/claim/cut.py" 324)]), #[]⟩) ::
  (nat_lit 112, ⟨(.type "function"), none, (.func ⟨"nodes", "Tree.nodes", defArgs (topM 10 5), .stmts (defBody (topM 10 5)), defScope (topM 10 5), 3, [], .none, .none, .none, (.str "spentonce.tree" 255), none, (.ref 111), .none, 0⟩), #[]⟩) ::
  (nat_lit 113, ⟨(.type "tuple"), none, (.seq #[] 0), #[]⟩) ::
  (nat_lit 115, ⟨(.type "tuple"), none, (.seq #[(.str "self" 329), (.str "number" 330)] 0), #[]⟩) ::
  (nat_lit 116, ⟨(.type "tuple"), none, (.seq #[] 0), #[]⟩) ::
  (nat_lit 118, ⟨(.type "code"), none, (.fields #[(.str "told_of" 326), (.str "Tree.told_of" 327), (.str "/claim/cut.py" 328), (.int 41 0), (.int 2 0), (.int 0 0), (.int 0 0), (.int 3 0), (.ref 113), (.bool true), (.int 181 0), (.ref 114), .none, (.ref 115), (.ref 116), (.ref 117), (.int 331 0), (.int 41 0), (.str "/claim/cut.py" 332)]), #[]⟩) ::
  (nat_lit 119, ⟨(.type "function"), none, (.func ⟨"told_of", "Tree.told_of", defArgs (topM 10 6), .stmts (defBody (topM 10 6)), defScope (topM 10 6), 3, [], .none, .none, .none, (.str "spentonce.tree" 255), none, (.ref 118), .none, 0⟩), #[]⟩) ::
  (nat_lit 120, ⟨(.type "tuple"), none, (.seq #[] 0), #[]⟩) ::
  (nat_lit 122, ⟨(.type "tuple"), none, (.seq #[(.str "self" 337), (.str "number" 338)] 0), #[]⟩) ::
  (nat_lit 123, ⟨(.type "tuple"), none, (.seq #[] 0), #[]⟩) ::
  (nat_lit 125, ⟨(.type "code"), none, (.fields #[(.str "height" 334), (.str "Tree.height" 335), (.str "/claim/cut.py" 336), (.int 46 0), (.int 2 0), (.int 0 0), (.int 0 0), (.int 3 0), (.ref 120), (.bool true), (.int 181 0), (.ref 121), .none, (.ref 122), (.ref 123), (.ref 124), (.int 339 0), (.int 46 0), (.str "/claim/cut.py" 340)]), #[]⟩) ::
  (nat_lit 126, ⟨(.type "function"), none, (.func ⟨"height", "Tree.height", defArgs (topM 10 7), .stmts (defBody (topM 10 7)), defScope (topM 10 7), 3, [], .none, .none, .none, (.str "spentonce.tree" 255), none, (.ref 125), .none, 0⟩), #[]⟩) ::
  (nat_lit 127, ⟨(.type "tuple"), none, (.seq #[] 0), #[]⟩) ::
  (nat_lit 129, ⟨(.type "tuple"), none, (.seq #[(.str "self" 345), (.str "number" 346)] 0), #[]⟩) ::
  (nat_lit 130, ⟨(.type "tuple"), none, (.seq #[] 0), #[]⟩) ::
  (nat_lit 132, ⟨(.type "code"), none, (.fields #[(.str "weight" 342), (.str "Tree.weight" 343), (.str "/claim/cut.py" 344), (.int 49 0), (.int 2 0), (.int 0 0), (.int 0 0), (.int 3 0), (.ref 127), (.bool true), (.int 181 0), (.ref 128), .none, (.ref 129), (.ref 130), (.ref 131), (.int 347 0), (.int 49 0), (.str "/claim/cut.py" 348)]), #[]⟩) ::
  (nat_lit 133, ⟨(.type "function"), none, (.func ⟨"weight", "Tree.weight", defArgs (topM 10 8), .stmts (defBody (topM 10 8)), defScope (topM 10 8), 3, [], .none, .none, .none, (.str "spentonce.tree" 255), none, (.ref 132), .none, 0⟩), #[]⟩) ::
  (nat_lit 134, ⟨(.type "tuple"), none, (.seq #[] 0), #[]⟩) ::
  (nat_lit 136, ⟨(.type "tuple"), none, (.seq #[(.str "self" 353), (.str "number" 354)] 0), #[]⟩) ::
  (nat_lit 137, ⟨(.type "tuple"), none, (.seq #[] 0), #[]⟩) ::
  (nat_lit 139, ⟨(.type "code"), none, (.fields #[(.str "ahead" 350), (.str "Tree.ahead" 351), (.str "/claim/cut.py" 352), (.int 52 0), (.int 2 0), (.int 0 0), (.int 0 0), (.int 3 0), (.ref 134), (.bool true), (.int 181 0), (.ref 135), .none, (.ref 136), (.ref 137), (.ref 138), (.int 355 0), (.int 52 0), (.str "/claim/cut.py" 356)]), #[]⟩) ::
  (nat_lit 140, ⟨(.type "function"), none, (.func ⟨"ahead", "Tree.ahead", defArgs (topM 10 9), .stmts (defBody (topM 10 9)), defScope (topM 10 9), 3, [], .none, .none, .none, (.str "spentonce.tree" 255), none, (.ref 139), .none, 0⟩), #[]⟩) ::
  (nat_lit 141, ⟨(.type "tuple"), none, (.seq #[] 0), #[]⟩) ::
  (nat_lit 143, ⟨(.type "tuple"), none, (.seq #[(.str "self" 361), (.str "number" 362)] 0), #[]⟩) ::
  (nat_lit 144, ⟨(.type "tuple"), none, (.seq #[] 0), #[]⟩) ::
  (nat_lit 146, ⟨(.type "code"), none, (.fields #[(.str "branch" 358), (.str "Tree.branch" 359), (.str "/claim/cut.py" 360), (.int 55 0), (.int 2 0), (.int 0 0), (.int 0 0), (.int 3 0), (.ref 141), (.bool true), (.int 181 0), (.ref 142), .none, (.ref 143), (.ref 144), (.ref 145), (.int 363 0), (.int 55 0), (.str "/claim/cut.py" 364)]), #[]⟩) ::
  (nat_lit 147, ⟨(.type "function"), none, (.func ⟨"branch", "Tree.branch", defArgs (topM 10 10), .stmts (defBody (topM 10 10)), defScope (topM 10 10), 3, [], .none, .none, .none, (.str "spentonce.tree" 255), none, (.ref 146), .none, 0⟩), #[]⟩) ::
  (nat_lit 148, ⟨(.type "tuple"), none, (.seq #[] 0), #[]⟩) ::
  (nat_lit 150, ⟨(.type "tuple"), none, (.seq #[(.str "self" 369)] 0), #[]⟩) ::
  (nat_lit 151, ⟨(.type "tuple"), none, (.seq #[] 0), #[]⟩) ::
  (nat_lit 153, ⟨(.type "code"), none, (.fields #[(.str "head" 366), (.str "Tree.head" 367), (.str "/claim/cut.py" 368), (.int 58 0), (.int 1 0), (.int 0 0), (.int 0 0), (.int 3 0), (.ref 148), (.bool true), (.int 181 0), (.ref 149), .none, (.ref 150), (.ref 151), (.ref 152), (.int 370 0), (.int 58 0), (.str "/claim/cut.py" 371)]), #[]⟩) ::
  (nat_lit 154, ⟨(.type "function"), none, (.func ⟨"head", "Tree.head", defArgs (topM 10 11), .stmts (defBody (topM 10 11)), defScope (topM 10 11), 3, [], .none, .none, .none, (.str "spentonce.tree" 255), none, (.ref 153), .none, 0⟩), #[]⟩) ::
  (nat_lit 155, ⟨(.type "tuple"), none, (.seq #[] 0), #[]⟩) ::
  (nat_lit 157, ⟨(.type "tuple"), none, (.seq #[(.str "self" 376), (.str "one" 377), (.str "other" 378)] 0), #[]⟩) ::
  (nat_lit 158, ⟨(.type "tuple"), none, (.seq #[] 0), #[]⟩) ::
  (nat_lit 160, ⟨(.type "code"), none, (.fields #[(.str "meeting" 373), (.str "Tree.meeting" 374), (.str "/claim/cut.py" 375), (.int 61 0), (.int 3 0), (.int 0 0), (.int 0 0), (.int 3 0), (.ref 155), (.bool true), (.int 181 0), (.ref 156), .none, (.ref 157), (.ref 158), (.ref 159), (.int 379 0), (.int 61 0), (.str "/claim/cut.py" 380)]), #[]⟩) ::
  (nat_lit 161, ⟨(.type "function"), none, (.func ⟨"meeting", "Tree.meeting", defArgs (topM 10 12), .stmts (defBody (topM 10 12)), defScope (topM 10 12), 3, [], .none, .none, .none, (.str "spentonce.tree" 255), none, (.ref 160), .none, 0⟩), #[]⟩) ::
  (nat_lit 162, ⟨(.type "tuple"), none, (.seq #[] 0), #[]⟩) ::
  (nat_lit 164, ⟨(.type "tuple"), none, (.seq #[(.str "self" 385), (.str "one" 386), (.str "other" 387), (.str "last" 388)] 0), #[]⟩) ::
  (nat_lit 165, ⟨(.type "tuple"), none, (.seq #[] 0), #[]⟩) ::
  (nat_lit 167, ⟨(.type "code"), none, (.fields #[(.str "way" 382), (.str "Tree.way" 383), (.str "/claim/cut.py" 384), (.int 71 0), (.int 3 0), (.int 0 0), (.int 0 0), (.int 3 0), (.ref 162), (.bool true), (.int 181 0), (.ref 163), .none, (.ref 164), (.ref 165), (.ref 166), (.int 389 0), (.int 71 0), (.str "/claim/cut.py" 390)]), #[]⟩) ::
  (nat_lit 168, ⟨(.type "function"), none, (.func ⟨"way", "Tree.way", defArgs (topM 10 13), .stmts (defBody (topM 10 13)), defScope (topM 10 13), 3, [], .none, .none, .none, (.str "spentonce.tree" 255), none, (.ref 167), .none, 0⟩), #[]⟩) ::
  (nat_lit 169, ⟨(.type "tuple"), none, (.seq #[] 0), #[]⟩) ::
  (nat_lit 171, ⟨(.type "tuple"), none, (.seq #[(.str "self" 395), (.str "number" 396), (.str "last" 397), (.str "found" 398)] 0), #[]⟩) ::
  (nat_lit 172, ⟨(.type "tuple"), none, (.seq #[] 0), #[]⟩) ::
  (nat_lit 174, ⟨(.type "code"), none, (.fields #[(.str "down" 392), (.str "Tree.down" 393), (.str "/claim/cut.py" 394), (.int 75 0), (.int 3 0), (.int 0 0), (.int 0 0), (.int 3 0), (.ref 169), (.bool true), (.int 181 0), (.ref 170), .none, (.ref 171), (.ref 172), (.ref 173), (.int 399 0), (.int 75 0), (.str "/claim/cut.py" 400)]), #[]⟩) ::
  (nat_lit 175, ⟨(.type "function"), none, (.func ⟨"down", "Tree.down", defArgs (topM 10 14), .stmts (defBody (topM 10 14)), defScope (topM 10 14), 3, [], .none, .none, .none, (.str "spentonce.tree" 255), none, (.ref 174), .none, 0⟩), #[]⟩) ::
  (nat_lit 176, ⟨(.type "tuple"), none, (.seq #[(.str "heaviest" 402), (.str "standing" 403)] 0), #[]⟩) ::
  (nat_lit 177, ⟨(.type "dict"), none, (.dict #[kE P "__module__" 272 (.str "spentonce.tree" 255), kE P "__firstlineno__" 276 (.int 15 275), kE P "__init__" 283 (.ref 77), kE P "check_place" 292 (.ref 84), kE P "add" 302 (.ref 91), kE P "rank" 310 (.ref 98), kE P "has" 318 (.ref 105), kE P "nodes" 325 (.ref 112), kE P "told_of" 333 (.ref 119), kE P "height" 341 (.ref 126), kE P "weight" 349 (.ref 133), kE P "ahead" 357 (.ref 140), kE P "branch" 365 (.ref 147), kE P "head" 372 (.ref 154), kE P "meeting" 381 (.ref 161), kE P "way" 391 (.ref 168), kE P "down" 401 (.ref 175), kE P "__static_attributes__" 404 (.ref 176), kE P "__dict__" 406 (.ref 179), kE P "__weakref__" 408 (.ref 180), kE P "__doc__" 409 .none] 4), #[]⟩) ::
  (nat_lit 178, ⟨(.type "type"), none, (.cls ⟨"Tree", [(.type "object")], [(.ref 178), (.type "object")], 177, "Tree", true, [], [], false, none, false⟩), #[none, none, (some (.str "Tree" 265)), (some (.str "Tree" 273)), (some (.builtin "object.__new__")), (some (.bool true))]⟩) ::
  (nat_lit 179, ⟨(.type "getset_descriptor"), none, (.fields #[(.str "__dict__" 405), (.ref 178), (.builtin "function.__dict__"), (.builtin "function.__dict__#set")]), #[]⟩) ::
  (nat_lit 180, ⟨(.type "getset_descriptor"), none, (.fields #[(.str "__weakref__" 407), (.ref 178), (.builtin "ExceptionGroup.__weakref__"), .none]), #[]⟩) ::
  (nat_lit 183, ⟨(.type "tuple"), none, (.seq #[] 0), #[]⟩) ::
  (nat_lit 185, ⟨(.type "tuple"), none, (.seq #[(.str "_law_cell" 417)] 0), #[]⟩) ::
  (nat_lit 186, ⟨(.type "tuple"), none, (.seq #[] 0), #[]⟩) ::
  (nat_lit 188, ⟨(.type "code"), none, (.fields #[(.str "_law_mixed" 414), (.str "_law_mixed" 415), (.str "/claim/cut.py" 416), (.int 82 0), (.int 1 0), (.int 0 0), (.int 0 0), (.int 3 0), (.ref 183), (.bool true), (.int 181 0), (.ref 184), .none, (.ref 185), (.ref 186), (.ref 187), (.int 418 0), (.int 82 0), (.str "/claim/cut.py" 419)]), #[]⟩) ::
  (nat_lit 189, ⟨(.type "function"), none, (.func ⟨"_law_mixed", "_law_mixed", defArgs (top 12), .stmts (defBody (top 12)), defScope (top 12), 3, [], .none, .none, .none, (.str "law_spentonce_k32_tree_refused" 412), none, (.ref 188), .none, 0⟩), #[]⟩) ::
  (nat_lit 190, ⟨(.type "tuple"), none, (.seq #[] 0), #[]⟩) ::
  (nat_lit 192, ⟨(.type "tuple"), none, (.seq #[(.str "_law_cell" 424), (.str "_law_k" 425), (.str "_law_digits" 426), (.str "_law_seed" 427)] 0), #[]⟩) ::
  (nat_lit 193, ⟨(.type "tuple"), none, (.seq #[] 0), #[]⟩) ::
  (nat_lit 195, ⟨(.type "code"), none, (.fields #[(.str "_law_stream" 421), (.str "_law_stream" 422), (.str "/claim/cut.py" 423), (.int 84 0), (.int 3 0), (.int 0 0), (.int 0 0), (.int 3 0), (.ref 190), (.bool true), (.int 181 0), (.ref 191), .none, (.ref 192), (.ref 193), (.ref 194), (.int 428 0), (.int 84 0), (.str "/claim/cut.py" 429)]), #[]⟩) ::
  (nat_lit 196, ⟨(.type "function"), none, (.func ⟨"_law_stream", "_law_stream", defArgs (top 13), .stmts (defBody (top 13)), defScope (top 13), 3, [], .none, .none, .none, (.str "law_spentonce_k32_tree_refused" 412), none, (.ref 195), .none, 0⟩), #[]⟩) ::
  (nat_lit 197, ⟨(.type "tuple"), none, (.seq #[] 0), #[]⟩) ::
  (nat_lit 199, ⟨(.type "tuple"), none, (.seq #[(.str "_law_stream_here" 434), (.str "_law_many" 435), (.str "_law_found" 436)] 0), #[]⟩) ::
  (nat_lit 200, ⟨(.type "tuple"), none, (.seq #[] 0), #[]⟩) ::
  (nat_lit 202, ⟨(.type "code"), none, (.fields #[(.str "_law_take" 431), (.str "_law_take" 432), (.str "/claim/cut.py" 433), (.int 89 0), (.int 2 0), (.int 0 0), (.int 0 0), (.int 3 0), (.ref 197), (.bool true), (.int 181 0), (.ref 198), .none, (.ref 199), (.ref 200), (.ref 201), (.int 437 0), (.int 89 0), (.str "/claim/cut.py" 438)]), #[]⟩) ::
  (nat_lit 203, ⟨(.type "function"), none, (.func ⟨"_law_take", "_law_take", defArgs (top 14), .stmts (defBody (top 14)), defScope (top 14), 3, [], .none, .none, .none, (.str "law_spentonce_k32_tree_refused" 412), none, (.ref 202), .none, 0⟩), #[]⟩) ::
  (nat_lit 204, ⟨(.type "tuple"), none, (.seq #[] 0), #[]⟩) ::
  (nat_lit 207, ⟨(.type "code"), none, (.fields #[(.str "_law_streams" 440), (.str "_law_streams" 441), (.str "/claim/cut.py" 442), (.int 99 0), (.int 1 0), (.int 0 0), (.int 0 0), (.int 3 0), (.ref 204), (.bool true), (.int 181 0), (.ref 205), .none, .none, .none, (.ref 206), (.int 443 0), (.int 99 0), (.str "/claim/cut.py" 444)]), #[]⟩) ::
  (nat_lit 208, ⟨(.type "function"), none, (.func ⟨"_law_streams", "_law_streams", defArgs (top 15), .stmts (defBody (top 15)), defScope (top 15), 3, [], .none, .none, .none, (.str "law_spentonce_k32_tree_refused" 412), none, (.ref 207), .none, 0⟩), #[]⟩) ::
  (nat_lit 209, ⟨(.type "tuple"), none, (.seq #[] 0), #[]⟩) ::
  (nat_lit 211, ⟨(.type "tuple"), none, (.seq #[(.str "_law_stream_here" 449), (.str "_law_aheads" 450), (.str "_law_number_here" 451)] 0), #[]⟩) ::
  (nat_lit 212, ⟨(.type "tuple"), none, (.seq #[] 0), #[]⟩) ::
  (nat_lit 214, ⟨(.type "code"), none, (.fields #[(.str "_law_number" 446), (.str "_law_number" 447), (.str "/claim/cut.py" 448), (.int 102 0), (.int 2 0), (.int 0 0), (.int 0 0), (.int 3 0), (.ref 209), (.bool true), (.int 181 0), (.ref 210), .none, (.ref 211), (.ref 212), (.ref 213), (.int 452 0), (.int 102 0), (.str "/claim/cut.py" 453)]), #[]⟩) ::
  (nat_lit 215, ⟨(.type "function"), none, (.func ⟨"_law_number", "_law_number", defArgs (top 16), .stmts (defBody (top 16)), defScope (top 16), 3, [], .none, .none, .none, (.str "law_spentonce_k32_tree_refused" 412), none, (.ref 214), .none, 0⟩), #[]⟩) ::
  (nat_lit 216, ⟨(.type "tuple"), none, (.seq #[] 0), #[]⟩) ::
  (nat_lit 218, ⟨(.type "tuple"), none, (.seq #[(.str "_law_stream_here" 458)] 0), #[]⟩) ::
  (nat_lit 219, ⟨(.type "tuple"), none, (.seq #[] 0), #[]⟩) ::
  (nat_lit 221, ⟨(.type "code"), none, (.fields #[(.str "_law_weight" 455), (.str "_law_weight" 456), (.str "/claim/cut.py" 457), (.int 107 0), (.int 1 0), (.int 0 0), (.int 0 0), (.int 3 0), (.ref 216), (.bool true), (.int 181 0), (.ref 217), .none, (.ref 218), (.ref 219), (.ref 220), (.int 459 0), (.int 107 0), (.str "/claim/cut.py" 460)]), #[]⟩) ::
  (nat_lit 222, ⟨(.type "function"), none, (.func ⟨"_law_weight", "_law_weight", defArgs (top 17), .stmts (defBody (top 17)), defScope (top 17), 3, [], .none, .none, .none, (.str "law_spentonce_k32_tree_refused" 412), none, (.ref 221), .none, 0⟩), #[]⟩) ::
  (nat_lit 223, ⟨(.type "tuple"), none, (.seq #[] 0), #[]⟩) ::
  (nat_lit 225, ⟨(.type "tuple"), none, (.seq #[(.str "_law_streams_here" 465), (.str "_law_aheads" 466), (.str "_law_weights" 467), (.str "_law_row" 468), (.str "_law_stream_here" 469), (.str "_law_some" 470), (.str "_law_ahead" 471), (.str "_law_number_here" 472)] 0), #[]⟩) ::
  (nat_lit 226, ⟨(.type "tuple"), none, (.seq #[] 0), #[]⟩) ::
  (nat_lit 228, ⟨(.type "code"), none, (.fields #[(.str "_law_grown" 462), (.str "_law_grown" 463), (.str "/claim/cut.py" 464), (.int 109 0), (.int 1 0), (.int 0 0), (.int 0 0), (.int 3 0), (.ref 223), (.bool true), (.int 181 0), (.ref 224), .none, (.ref 225), (.ref 226), (.ref 227), (.int 473 0), (.int 109 0), (.str "/claim/cut.py" 474)]), #[]⟩) ::
  (nat_lit 229, ⟨(.type "function"), none, (.func ⟨"_law_grown", "_law_grown", defArgs (top 18), .stmts (defBody (top 18)), defScope (top 18), 3, [], .none, .none, .none, (.str "law_spentonce_k32_tree_refused" 412), none, (.ref 228), .none, 0⟩), #[]⟩) ::
  (nat_lit 230, ⟨(.type "tuple"), none, (.seq #[] 0), #[]⟩) ::
  (nat_lit 232, ⟨(.type "tuple"), none, (.seq #[(.str "_law_tree" 479), (.str "_law_word" 480), (.str "_law_row" 481), (.str "_law_found" 482), (.str "e" 483)] 0), #[]⟩) ::
  (nat_lit 233, ⟨(.type "tuple"), none, (.seq #[] 0), #[]⟩) ::
  (nat_lit 235, ⟨(.type "code"), none, (.fields #[(.str "_law_refused" 476), (.str "_law_refused" 477), (.str "/claim/cut.py" 478), (.int 121 0), (.int 3 0), (.int 0 0), (.int 0 0), (.int 3 0), (.ref 230), (.bool true), (.int 181 0), (.ref 231), .none, (.ref 232), (.ref 233), (.ref 234), (.int 484 0), (.int 121 0), (.str "/claim/cut.py" 485)]), #[]⟩) ::
  (nat_lit 236, ⟨(.type "function"), none, (.func ⟨"_law_refused", "_law_refused", defArgs (top 19), .stmts (defBody (top 19)), defScope (top 19), 3, [], .none, .none, .none, (.str "law_spentonce_k32_tree_refused" 412), none, (.ref 235), .none, 0⟩), #[]⟩) ::
  (nat_lit 237, ⟨(.type "tuple"), none, (.seq #[] 0), #[]⟩) ::
  (nat_lit 240, ⟨(.type "code"), none, (.fields #[(.str "_law_strange" 487), (.str "_law_strange" 488), (.str "/claim/cut.py" 489), (.int 141 0), (.int 3 0), (.int 0 0), (.int 0 0), (.int 3 0), (.ref 237), (.bool true), (.int 181 0), (.ref 238), .none, .none, .none, (.ref 239), (.int 490 0), (.int 141 0), (.str "/claim/cut.py" 491)]), #[]⟩) ::
  (nat_lit 241, ⟨(.type "function"), none, (.func ⟨"_law_strange", "_law_strange", defArgs (top 20), .stmts (defBody (top 20)), defScope (top 20), 3, [], .none, .none, .none, (.str "law_spentonce_k32_tree_refused" 412), none, (.ref 240), .none, 0⟩), #[]⟩) ::
  (nat_lit 242, ⟨(.type "tuple"), none, (.seq #[] 0), #[]⟩) ::
  (nat_lit 245, ⟨(.type "code"), none, (.fields #[(.str "law" 493), (.str "law" 494), (.str "/claim/cut.py" 495), (.int 149 0), (.int 1 0), (.int 0 0), (.int 0 0), (.int 3 0), (.ref 242), (.bool true), (.int 181 0), (.ref 243), .none, .none, .none, (.ref 244), (.int 496 0), (.int 149 0), (.str "/claim/cut.py" 497)]), #[]⟩) ::
  (nat_lit 246, ⟨(.type "function"), none, (.func ⟨"law", "law", defArgs (top 21), .stmts (defBody (top 21)), defScope (top 21), 3, [], .none, .none, .none, (.str "law_spentonce_k32_tree_refused" 412), none, (.ref 245), .none, 0⟩), #[]⟩) :: []
noncomputable def as : List Addr := [2, 3, 15, 22, 23, 24, 25, 28, 35, 36, 37, 40, 47, 48, 49, 52, 59, 60, 61, 71, 73, 74, 76, 77, 78, 80, 81, 83, 84, 85, 87, 88, 90, 91, 92, 94, 95, 97, 98, 99, 101, 102, 104, 105, 106, 108, 109, 111, 112, 113, 115, 116, 118, 119, 120, 122, 123, 125, 126, 127, 129, 130, 132, 133, 134, 136, 137, 139, 140, 141, 143, 144, 146, 147, 148, 150, 151, 153, 154, 155, 157, 158, 160, 161, 162, 164, 165, 167, 168, 169, 171, 172, 174, 175, 176, 177, 178, 179, 180, 183, 185, 186, 188, 189, 190, 192, 193, 195, 196, 197, 199, 200, 202, 203, 204, 207, 208, 209, 211, 212, 214, 215, 216, 218, 219, 221, 222, 223, 225, 226, 228, 229, 230, 232, 233, 235, 236, 237, 240, 241, 242, 245, 246]
theorem asK : ∀ P, as = (K P).map (·.1) := fun _ => by kernel_rfl
theorem said : PySem.Challenge.rw_spentonce_k32_tree_refused.wellSaid = true := by kernel_rfl
theorem left : PySem.W.LeftO PySem.Challenge.pw_spentonce_k32_tree_refused q [] (fun s => PySem.W.xlAt q [] s && PySem.W.recOk [] s) (fun s => as.map s.heap.get?) (fun w => (K w.params).map fun p => some p.2) 3852 := fun w => by kernel_rfl
noncomputable def defPos : Stmt → Pos
  | .FunctionDef _ _ _ _ _ _ _ _ _ p => p
  | _ => ⟨0, 0, 0, 0⟩
noncomputable def dL : DefRec := ⟨"law", defArgs (top 21), defBody (top 21), defScope (top 21), defPos (top 21)⟩
end K32

open PySem PySem.W PyProof.Rows
set_option maxRecDepth 100000 in
set_option maxHeartbeats 0 in
theorem PySem.Challenge.cw_spentonce_k32_tree_refused_holds : PySem.Challenge.rw_spentonce_k32_tree_refused.Holds := by
  refine Mi.holds (q := K32.q) (d := K32.dL) K32.said K32.asK K32.left (by kernel_rfl) (by kernel_rfl) (by kernel_rfl) (by decide +kernel) ⟨rfl, rfl, rfl, rfl, rfl, by decide +kernel⟩ ?hw ?hc
  (case hw => w_witness2)
  k_fill
  refine Mi.walk (l := PySem.Challenge.rw_spentonce_k32_tree_refused) (T := K32.T) (G := K32.G) (B := K32.B) (F := K32.F) (O := K32.O) (x := "_law_script") (W := 100) (n := 30) rfl rfl (fun w h Y => Y) ⟨rfl, by decide, by decide⟩ rfl (by decide) ⟨_, rfl, rfl⟩ ?X K32.run
  case X =>
    intro w mg h KX hG
    refine' K32.txt KX hG ?f0 ?f1 ?f2 ?f3 ?f4 ?f5 ?f6 ?f7 ?f8 ?f9 ?b0 ?b1 ?b2 ?b3 ?b4 ?b5 ?b6 ?b7 ?cf ?nw ?n0 ?n1 ?m0 ?m1 ?m2 ?m3 ?m4 ?m5 ?m6 ?m7 ?m8 ?m9 ?m10 ?m11 ?m12 ?m13 ?m14 ?xr0 ?xr1 ?xr2 ?xt0 ?xi0_0 ?xi0_1 ?xi0_2 ?xi0_3 ?xt1 ?xi1_0 ?xi1_1 ?xi1_2 ?xi1_3 ?xt2 ?xi2_0 ?xi2_1 ?xi2_2 ?xi2_3 ?zg0 ?zg1 ?zg2 ?zg3
    (case f0 => refine' Mi.fe_mk ?a ?l ?c ?k; (case a => k_is); (case l => k_is); (case c => k_is); (case k => k_is))
    (case f1 => refine' Mi.fe_mk ?a ?l ?c ?k; (case a => k_is); (case l => k_is); (case c => k_is); (case k => k_is))
    (case f2 => refine' Mi.fe_mk ?a ?l ?c ?k; (case a => k_is); (case l => k_is); (case c => k_is); (case k => k_is))
    (case f3 => refine' Mi.fe_mk ?a ?l ?c ?k; (case a => k_is); (case l => k_is); (case c => k_is); (case k => k_is))
    (case f4 => refine' Mi.fe_mk ?a ?l ?c ?k; (case a => k_is); (case l => k_is); (case c => k_is); (case k => k_is))
    (case f5 => refine' Mi.fe_mk ?a ?l ?c ?k; (case a => k_is); (case l => k_is); (case c => k_is); (case k => k_is))
    (case f6 => refine' Mi.fe_mk ?a ?l ?c ?k; (case a => k_is); (case l => k_is); (case c => k_is); (case k => k_is))
    (case f7 => refine' Mi.fe_mk ?a ?l ?c ?k; (case a => k_is); (case l => k_is); (case c => k_is); (case k => k_is))
    (case f8 => refine' Mi.fe_mk ?a ?l ?c ?k; (case a => k_is); (case l => k_is); (case c => k_is); (case k => k_is))
    (case f9 => refine' Mi.fe_mk ?a ?l ?c ?k; (case a => k_is); (case l => k_is); (case c => k_is); (case k => k_is))
    (case b0 => k_is)
    (case b1 => k_is)
    (case b2 => k_is)
    (case b3 => k_is)
    (case b4 => k_is)
    (case b5 => k_is)
    (case b6 => k_is)
    (case b7 => k_is)
    (case cf => refine' Mi.cf_mk ?qn ?qp ?qh ?qo ?qs; (case qn => k_is); (case qp => k_is); (case qh => k_is); (case qo => k_is); (case qs => k_is))
    (case nw => refine' Mi.nw_mk ?qn ?qm ?qk; (case qn => k_is); (case qm => k_is); (case qk => k_is))
    (case n0 => refine' Mi.nf_mk ?qn ?qa; (case qn => k_is); (case qa => k_is))
    (case n1 => refine' Mi.nf_mk ?qn ?qa; (case qn => k_is); (case qa => k_is))
    (case m0 => refine' Mi.mf_mk ?qn ?qa ?ql ?qc ?qk ?qi ?qg ?qt ?qp; (case qn => k_is); (case qa => k_is); (case ql => k_is); (case qc => k_is); (case qk => k_is); (case qi => k_is); (case qg => k_is); (case qt => k_is); (case qp => decide +kernel))
    (case m1 => refine' Mi.mf_mk ?qn ?qa ?ql ?qc ?qk ?qi ?qg ?qt ?qp; (case qn => k_is); (case qa => k_is); (case ql => k_is); (case qc => k_is); (case qk => k_is); (case qi => k_is); (case qg => k_is); (case qt => k_is); (case qp => decide +kernel))
    (case m2 => refine' Mi.mf_mk ?qn ?qa ?ql ?qc ?qk ?qi ?qg ?qt ?qp; (case qn => k_is); (case qa => k_is); (case ql => k_is); (case qc => k_is); (case qk => k_is); (case qi => k_is); (case qg => k_is); (case qt => k_is); (case qp => decide +kernel))
    (case m3 => refine' Mi.mf_mk ?qn ?qa ?ql ?qc ?qk ?qi ?qg ?qt ?qp; (case qn => k_is); (case qa => k_is); (case ql => k_is); (case qc => k_is); (case qk => k_is); (case qi => k_is); (case qg => k_is); (case qt => k_is); (case qp => decide +kernel))
    (case m4 => refine' Mi.mf_mk ?qn ?qa ?ql ?qc ?qk ?qi ?qg ?qt ?qp; (case qn => k_is); (case qa => k_is); (case ql => k_is); (case qc => k_is); (case qk => k_is); (case qi => k_is); (case qg => k_is); (case qt => k_is); (case qp => decide +kernel))
    (case m5 => refine' Mi.mf_mk ?qn ?qa ?ql ?qc ?qk ?qi ?qg ?qt ?qp; (case qn => k_is); (case qa => k_is); (case ql => k_is); (case qc => k_is); (case qk => k_is); (case qi => k_is); (case qg => k_is); (case qt => k_is); (case qp => decide +kernel))
    (case m6 => refine' Mi.mf_mk ?qn ?qa ?ql ?qc ?qk ?qi ?qg ?qt ?qp; (case qn => k_is); (case qa => k_is); (case ql => k_is); (case qc => k_is); (case qk => k_is); (case qi => k_is); (case qg => k_is); (case qt => k_is); (case qp => decide +kernel))
    (case m7 => refine' Mi.mf_mk ?qn ?qa ?ql ?qc ?qk ?qi ?qg ?qt ?qp; (case qn => k_is); (case qa => k_is); (case ql => k_is); (case qc => k_is); (case qk => k_is); (case qi => k_is); (case qg => k_is); (case qt => k_is); (case qp => decide +kernel))
    (case m8 => refine' Mi.mf_mk ?qn ?qa ?ql ?qc ?qk ?qi ?qg ?qt ?qp; (case qn => k_is); (case qa => k_is); (case ql => k_is); (case qc => k_is); (case qk => k_is); (case qi => k_is); (case qg => k_is); (case qt => k_is); (case qp => decide +kernel))
    (case m9 => refine' Mi.mf_mk ?qn ?qa ?ql ?qc ?qk ?qi ?qg ?qt ?qp; (case qn => k_is); (case qa => k_is); (case ql => k_is); (case qc => k_is); (case qk => k_is); (case qi => k_is); (case qg => k_is); (case qt => k_is); (case qp => decide +kernel))
    (case m10 => refine' Mi.mf_mk ?qn ?qa ?ql ?qc ?qk ?qi ?qg ?qt ?qp; (case qn => k_is); (case qa => k_is); (case ql => k_is); (case qc => k_is); (case qk => k_is); (case qi => k_is); (case qg => k_is); (case qt => k_is); (case qp => decide +kernel))
    (case m11 => refine' Mi.mf_mk ?qn ?qa ?ql ?qc ?qk ?qi ?qg ?qt ?qp; (case qn => k_is); (case qa => k_is); (case ql => k_is); (case qc => k_is); (case qk => k_is); (case qi => k_is); (case qg => k_is); (case qt => k_is); (case qp => decide +kernel))
    (case m12 => refine' Mi.mf_mk ?qn ?qa ?ql ?qc ?qk ?qi ?qg ?qt ?qp; (case qn => k_is); (case qa => k_is); (case ql => k_is); (case qc => k_is); (case qk => k_is); (case qi => k_is); (case qg => k_is); (case qt => k_is); (case qp => decide +kernel))
    (case m13 => refine' Mi.mf_mk ?qn ?qa ?ql ?qc ?qk ?qi ?qg ?qt ?qp; (case qn => k_is); (case qa => k_is); (case ql => k_is); (case qc => k_is); (case qk => k_is); (case qi => k_is); (case qg => k_is); (case qt => k_is); (case qp => decide +kernel))
    (case m14 => refine' Mi.mf_mk ?qn ?qa ?ql ?qc ?qk ?qi ?qg ?qt ?qp; (case qn => k_is); (case qa => k_is); (case ql => k_is); (case qc => k_is); (case qk => k_is); (case qi => k_is); (case qg => k_is); (case qt => k_is); (case qp => decide +kernel))
    (case xr0 => refine' Mi.xc_mk ?qn ?qe; (case qn => k_is); (case qe => first | kit_is | kts_exm | kernel_rfl))
    (case xr1 => refine' Mi.xc_mk ?qn ?qe; (case qn => k_is); (case qe => first | kit_is | kts_exm | kernel_rfl))
    (case xr2 => refine' Mi.xc_mk ?qn ?qe; (case qn => k_is); (case qe => first | kit_is | kts_exm | kernel_rfl))
    (case xt0 => refine' Mi.xt_mk ?qn ?qm ?qe ?q1 ?q2 ?q3 ?q4 ?q5 ?q6 ?q7 ?q8; (case qn => k_is); (case qm => k_is); (case qe => first | kit_is | kts_exm | kernel_rfl); (case q1 => first | k_is | kernel_rfl); (case q2 => first | k_is | kernel_rfl); (case q3 => first | k_is | kernel_rfl); (case q4 => first | k_is | kernel_rfl); (case q5 => first | k_is | kernel_rfl); (case q6 => first | k_is | kernel_rfl); (case q7 => first | k_is | kernel_rfl); (case q8 => first | k_is | kernel_rfl))
    (case xi0_0 => refine' Mi.xi_mk ?qn ?qm ?qe; (case qn => k_is); (case qm => k_is); (case qe => first | kit_is | kts_exm | kernel_rfl))
    (case xi0_1 => refine' Mi.xi_mk ?qn ?qm ?qe; (case qn => k_is); (case qm => k_is); (case qe => first | kit_is | kts_exm | kernel_rfl))
    (case xi0_2 => refine' Mi.xi_mk ?qn ?qm ?qe; (case qn => k_is); (case qm => k_is); (case qe => first | kit_is | kts_exm | kernel_rfl))
    (case xi0_3 => refine' Mi.xv_mk ?qn ?qm ?qe; (case qn => k_is); (case qm => k_is); (case qe => first | kit_is | kts_exm | kernel_rfl))
    (case xt1 => refine' Mi.xt_mk ?qn ?qm ?qe ?q1 ?q2 ?q3 ?q4 ?q5 ?q6 ?q7 ?q8; (case qn => k_is); (case qm => k_is); (case qe => first | kit_is | kts_exm | kernel_rfl); (case q1 => first | k_is | kernel_rfl); (case q2 => first | k_is | kernel_rfl); (case q3 => first | k_is | kernel_rfl); (case q4 => first | k_is | kernel_rfl); (case q5 => first | k_is | kernel_rfl); (case q6 => first | k_is | kernel_rfl); (case q7 => first | k_is | kernel_rfl); (case q8 => first | k_is | kernel_rfl))
    (case xi1_0 => refine' Mi.xi_mk ?qn ?qm ?qe; (case qn => k_is); (case qm => k_is); (case qe => first | kit_is | kts_exm | kernel_rfl))
    (case xi1_1 => refine' Mi.xi_mk ?qn ?qm ?qe; (case qn => k_is); (case qm => k_is); (case qe => first | kit_is | kts_exm | kernel_rfl))
    (case xi1_2 => refine' Mi.xi_mk ?qn ?qm ?qe; (case qn => k_is); (case qm => k_is); (case qe => first | kit_is | kts_exm | kernel_rfl))
    (case xi1_3 => refine' Mi.xv_mk ?qn ?qm ?qe; (case qn => k_is); (case qm => k_is); (case qe => first | kit_is | kts_exm | kernel_rfl))
    (case xt2 => refine' Mi.xt_mk ?qn ?qm ?qe ?q1 ?q2 ?q3 ?q4 ?q5 ?q6 ?q7 ?q8; (case qn => k_is); (case qm => k_is); (case qe => first | kit_is | kts_exm | kernel_rfl); (case q1 => first | k_is | kernel_rfl); (case q2 => first | k_is | kernel_rfl); (case q3 => first | k_is | kernel_rfl); (case q4 => first | k_is | kernel_rfl); (case q5 => first | k_is | kernel_rfl); (case q6 => first | k_is | kernel_rfl); (case q7 => first | k_is | kernel_rfl); (case q8 => first | k_is | kernel_rfl))
    (case xi2_0 => refine' Mi.xi_mk ?qn ?qm ?qe; (case qn => k_is); (case qm => k_is); (case qe => first | kit_is | kts_exm | kernel_rfl))
    (case xi2_1 => refine' Mi.xi_mk ?qn ?qm ?qe; (case qn => k_is); (case qm => k_is); (case qe => first | kit_is | kts_exm | kernel_rfl))
    (case xi2_2 => refine' Mi.xi_mk ?qn ?qm ?qe; (case qn => k_is); (case qm => k_is); (case qe => first | kit_is | kts_exm | kernel_rfl))
    (case xi2_3 => refine' Mi.xv_mk ?qn ?qm ?qe; (case qn => k_is); (case qm => k_is); (case qe => first | kit_is | kts_exm | kernel_rfl))
    (case zg0 => k_is)
    (case zg1 => k_is)
    (case zg2 => k_is)
    (case zg3 => k_is)

