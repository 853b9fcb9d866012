import PyProof.Rows.All
import Wide.All
import OpenK.AllK
import Wide.FinOn
import Lean
import PyProof.EqAt
import PyProof.EqKinds
import PyProof.TupleCall
import PyProof.ZipIter
import PyProof.ListMulRoad
import PyProof.NeKinds
import PyProof.IsRules
import PyProof.ConsumeWalk
import PyProof.SumAny
import PySem.Challenge.RW_spentonce_k12_makers_and_sums
set_option Elab.async false
set_option linter.all false
set_option maxRecDepth 100000
set_option maxHeartbeats 4000000
namespace L2
open PySem PySem.Spec PyProof.Rows

noncomputable abbrev Key := Sum Int Str
noncomputable def keyIs : Key → Value → Bool
  | .inl k, v => Value.isInt k v
  | .inr x, v => Value.isStrOf x v
noncomputable def keyH (w : World) : Key → Int
  | .inl k => hashInt k
  | .inr x => hashStr w x
theorem keyIs_shape : ∀ {k : Key} {v : Value}, keyIs k v = true → (∃ i t, k = Sum.inl i ∧ v = Value.int i t) ∨ (∃ x t, k = Sum.inr x ∧ v = Value.str x t)
  | .inl i, v, h => by
    obtain ⟨t, e⟩ := Value.isInt_shape (k := i) (v := v) h
    exact .inl ⟨i, t, rfl, e⟩
  | .inr x, v, h => by
    obtain ⟨t, e⟩ := Value.isStrOf_shape (x := x) (v := v) h
    exact .inr ⟨x, t, rfl, e⟩
theorem key_ll (a b : Int) : decide ((Sum.inl a : Key) = Sum.inl b) = (a == b) := by
  by_cases e : a = b
  · subst e; simp
  · have h : ¬ (Sum.inl a : Key) = Sum.inl b := fun q => e (Sum.inl.inj q)
    rw [decide_eq_false h]
    exact (beq_eq_false_iff_ne.mpr e).symm
theorem key_rr (a b : Str) : decide ((Sum.inr a : Key) = Sum.inr b) = decide (a = b) := by
  by_cases e : a = b
  · subst e; simp
  · have h : ¬ (Sum.inr a : Key) = Sum.inr b := fun q => e (Sum.inr.inj q)
    rw [decide_eq_false h, decide_eq_false e]
theorem key_lr (a : Int) (b : Str) : decide ((Sum.inl a : Key) = Sum.inr b) = false := decide_eq_false (fun q => nomatch q)
theorem key_rl (a : Str) (b : Int) : decide ((Sum.inr a : Key) = Sum.inl b) = false := decide_eq_false (fun q => nomatch q)

noncomputable def mixKind (prog : Program) (w : World) : PySem.KeyKind prog w Key where
  is := keyIs
  hash := keyH w
  inj := fun v a b ha hb => by
    rcases keyIs_shape ha with ⟨i, t, rfl, rfl⟩ | ⟨x, t, rfl, rfl⟩
    · rcases keyIs_shape hb with ⟨j, u, rfl, e⟩ | ⟨y, u, rfl, e⟩
      · injection e with e1 _; rw [e1]
      · exact nomatch e
    · rcases keyIs_shape hb with ⟨j, u, rfl, e⟩ | ⟨y, u, rfl, e⟩
      · exact nomatch e
      · injection e with e1 _; rw [e1]
  byValue := fun k v h => by
    rcases keyIs_shape h with ⟨i, t, rfl, rfl⟩ | ⟨x, t, rfl, rfl⟩ <;> rfl
  pyHash := fun hv h => by
    rcases keyIs_shape hv with ⟨i, t, rfl, rfl⟩ | ⟨x, t, rfl, rfl⟩
    · exact wpAny_pyHash_int h
    · exact wpAny_pyHash_str h
  eqBool := fun hu hv h => by
    rcases keyIs_shape hu with ⟨i, t, rfl, rfl⟩ | ⟨x, t, rfl, rfl⟩
    · rcases keyIs_shape hv with ⟨j, u, rfl, rfl⟩ | ⟨y, u, rfl, rfl⟩
      · rw [key_ll] at h; exact wpAny_eqBool_int h
      · rw [key_lr] at h; exact SeqAt.EqAt.int_str i t y u _ _ _ _ h
    · rcases keyIs_shape hv with ⟨j, u, rfl, rfl⟩ | ⟨y, u, rfl, rfl⟩
      · rw [key_rl] at h; exact SeqAt.EqAt.str_int x t j u _ _ _ _ h
      · rw [key_rr] at h; exact wpAny_eqBool_str h
  «strs» := fun k x t v h => by
    rcases keyIs_shape h with ⟨i, u, rfl, e⟩ | ⟨y, u, rfl, e⟩
    · exact nomatch e
    · injection e with e1 _
      subst e1
      cases v <;> rfl

end L2

namespace L2
open PySem PySem.Spec PyProof.Rows

inductive V where
  | non | bl (b : Bool) | int (i : Int) | str (x : Str) | byt (b : Array UInt8) | flt (b : UInt64) | ref (a : Addr) | ty (n : String)
  deriving DecidableEq

noncomputable def RelV : V → Value → Prop
  | .non, u => u = Value.none
  | .bl b, u => u = Value.bool b
  | .int i, u => ∃ t, u = Value.int i t
  | .str x, u => ∃ t, u = Value.str x t
  | .byt b, u => ∃ t, u = Value.bytes b t
  | .flt b, u => ∃ t, u = Value.float b t
  | .ref a, u => u = Value.ref a
  | .ty n, u => u = Value.type n

noncomputable abbrev Vals : List V → List Value → Prop := Paired RelV
theorem Vals.length {xs : List V} {us : List Value} (r : Vals xs us) : xs.length = us.length := Paired.length r
theorem Vals.get : ∀ {xs : List V} {us : List Value} {i : Nat} {x : V}, Vals xs us → xs[i]? = some x → ∃ u, us[i]? = some u ∧ RelV x u
  | _, _, _, _, .nil, e => by simp at e
  | _, _, 0, _, .cons r _, e => by simp at e; subst e; exact ⟨_, rfl, r⟩
  | _, _, i + 1, x, .cons _ t, e => by
    obtain ⟨u, h1, h2⟩ := Vals.get (i := i) (x := x) t (by simpa using e)
    exact ⟨u, by simpa using h1, h2⟩
theorem Vals.set {x : V} {u : Value} (r : RelV x u) : ∀ {xs : List V} {us : List Value} (i : Nat), Vals xs us → Vals (xs.set i x) (us.set i u)
  | _, _, _, .nil => .nil
  | _, _, 0, .cons _ t => .cons r t
  | _, _, i + 1, .cons q t => .cons q (Vals.set r i t)
theorem Vals.append : ∀ {xs ys : List V} {us ws : List Value}, Vals xs us → Vals ys ws → Vals (xs ++ ys) (us ++ ws)
  | _, _, _, _, .nil, s => s
  | _, _, _, _, .cons r t, s => .cons r (Vals.append t s)
theorem Vals.take : ∀ {xs : List V} {us : List Value} (n : Nat), Vals xs us → Vals (xs.take n) (us.take n)
  | _, _, 0, _ => .nil
  | _, _, _ + 1, .nil => .nil
  | _, _, n + 1, .cons r t => .cons r (Vals.take n t)
theorem Vals.drop : ∀ {xs : List V} {us : List Value} (n : Nat), Vals xs us → Vals (xs.drop n) (us.drop n)
  | _, _, 0, r => r
  | _, _, _ + 1, .nil => .nil
  | _, _, n + 1, .cons _ t => Vals.drop n t
noncomputable def RelO : Option V → Option Value → Prop
  | some v, some u => RelV v u
  | none, none => True
  | _, _ => False
noncomputable def KV {κ : Type} : List (κ × V) → List (κ × Value) → Prop := Paired fun (p : κ × V) (q : κ × Value) => p.1 = q.1 ∧ RelV p.2 q.2

noncomputable def kV : Key → V
  | .inl i => .int i
  | .inr x => .str x

inductive HO where
  /-- a list -/
  | lst (xs : List V)
  /-- a tuple (never changes) -/
  | tup (xs : List V)
  /-- a dict whose keys are ints and texts; one whose keys are tuples of ints and texts (the empty one is both) -/
  | dK (kvs : List (Key × V)) | dT (kvs : List (List Key × V))
  /-- a set of ints: its members, its size -/
  | set (S : Int → Bool) (n : Nat)
  /-- an instance of the class at C, its dict at dx, its attributes -/
  | ins (C dx : Addr) (fs : List (Str × V))
  /-- the dict of the instance at x -/
  | own (x : Addr)
  /-- the dict of an exception -/
  | xd (fs : List (Str × V))
  /-- a bound method, f of x -/
  | met (f x : Addr)
  /-- a range object lo, lo + 1, .. below hi -/
  | rng (lo hi : Int)
  /-- a thing that is known to the object (the script; a dict while a loop walks it): read, never written while it is so -/
  | frz (o : Obj) (u : HO)
  /-- a code object's table -/
  | tbl (ps : Array Value)
  /-- any other thing, by what is true of its one object (a def of one's own: SetO a S n := HO.ext fun h => ..) -/
  | ext (φ : Heap → Prop)

noncomputable abbrev Hp := Addr → Option HO
noncomputable def upd (H : Hp) (a : Addr) (o : HO) : Hp := fun b => if b = a then some o else H b
theorem upd_same {H : Hp} {a : Addr} {o : HO} : upd H a o a = some o := by unfold upd; rw [if_pos rfl]
theorem upd_ne {H : Hp} {a b : Addr} {o : HO} (h : b ≠ a) : upd H a o b = H b := by unfold upd; rw [if_neg h]
theorem ne_of {H : Hp} {a b : Addr} {o u : HO} (h : H a = some o) (h' : H b = some u) (d : o ≠ u) : a ≠ b := by
  intro e; subst e; rw [h] at h'; exact d (Option.some.inj h')
theorem ne_of_none {H : Hp} {a b : Addr} {o : HO} (h : H a = some o) (h' : H b = none) : a ≠ b := by
  intro e; subst e; rw [h] at h'; cases h'

section
variable (P : Program) (w : World)
noncomputable def ObjOk (H : Hp) (h : Heap) (a : Addr) : HO → Prop
  | .lst xs => xs.length ≤ sizeLine ∧ ∃ (its : List Value) (n : Nat), Vals xs its ∧ h.get? a = some { cls := .type "list", data := .seq its.toArray n }
  | .tup xs => xs.length ≤ sizeLine ∧ ∃ its : List Value, Vals xs its ∧ IsTup h a its.toArray
  | .dK kvs => kvs.length ≤ sizeLine ∧ (a == sysModules) = false ∧ ∃ vs, KV kvs vs ∧ h.DictOf (mixKind P w) a vs
  | .dT kvs => kvs.length ≤ sizeLine ∧ (a == sysModules) = false ∧ ∃ xs : List (List Key × Addr × Value),
      Paired (fun (p : List Key × V) (q : List Key × Addr × Value) => p.1 = q.1 ∧ H q.2.1 = some (.tup (p.1.map kV)) ∧ RelV p.2 q.2.2) kvs xs ∧
      ∃ o es ep, h.get? a = some o ∧ o.ExactDict ∧ o.data = .dict es ep ∧ es.toList = xs.map (entryOfKey (tupleKind (mixKind P w))) ∧ (xs.map (·.1)).Nodup
  | .set S n => h.SetOf (intKind P w) a S n
  | .ins C dx fs => H dx = some (.own a) ∧ fs.length ≤ 1000 ∧ dx ≠ a ∧ h.get? a = some (PySem.W.instObj C dx) ∧
      ∃ mA, h.Ns1 dx mA ∧ (∀ f, RelO (fs.lookup f) (mA f)) ∧ PySem.Within mA (fs.map (·.1))
  | .own _ => ∃ o, h.get? a = some o
  | .xd fs => ∃ mA, h.Ns1 a mA ∧ ∀ f, RelO (fs.lookup f) (mA f)
  | .rng lo hi => ∃ t u v, h.get? a = some { cls := .type "range", data := .fields #[.int lo t, .int hi u, .int 1 v] }
  | .frz o u => h.get? a = some o ∧ ObjOk H h a u
  | .tbl ps => h.get? a = some { cls := .none, data := .fields ps }
  | .met f x => h.get? a = some (PySem.W.methodObj (.ref f) (.ref x))
  | .ext φ => φ h ∧ (∃ o, h.get? a = some o) ∧ ∀ h1 h2 : Heap, φ h1 → (∀ o, h1.get? a = some o → h2.get? a = some o) → φ h2
noncomputable def HOk (H : Hp) (h : Heap) : Prop := ∀ a o, H a = some o → ObjOk P w H h a o
end

section
variable {P : Program} {w : World} {H H' : Hp} {h h' : Heap} {a : Addr} {o : HO}
theorem ObjOk.lt (x : ObjOk P w H h a o) : a < h.objs.size := by
  cases o with
  | lst xs => obtain ⟨_, _, _, _, e⟩ := x; exact Heap.lt_size e
  | tup xs => obtain ⟨_, _, _, p⟩ := x; exact p.lt
  | dK kvs => obtain ⟨_, _, _, _, o, _, _, e, _⟩ := x; exact Heap.lt_size e
  | dT kvs => obtain ⟨_, _, _, _, o, _, _, e, _⟩ := x; exact Heap.lt_size e
  | set S n => obtain ⟨o, _, _, _, e, _⟩ := x; exact Heap.lt_size e
  | ins C dx fs => obtain ⟨_, _, _, e, _⟩ := x; exact Heap.lt_size e
  | own y => obtain ⟨_, e⟩ := x; exact Heap.lt_size e
  | xd fs => obtain ⟨_, ⟨_, _, _, e, _⟩, _⟩ := x; exact Heap.lt_size e
  | rng lo hi => obtain ⟨_, _, _, e⟩ := x; exact Heap.lt_size e
  | frz ob u => obtain ⟨e, _⟩ := x; exact Heap.lt_size e
  | tbl ps => exact Heap.lt_size (show h.get? a = some _ from x)
  | met f y => exact Heap.lt_size (show h.get? a = some _ from x)
  | ext φ => obtain ⟨_, ⟨_, e⟩, _⟩ := x; exact Heap.lt_size e
theorem Paired.mapP {α β : Type} {F G : α → β → Prop} : ∀ {l₁ : List α} {l₂ : List β}, Paired F l₁ l₂ → (∀ a b, F a b → G a b) → Paired G l₁ l₂
  | _, _, .nil, _ => .nil
  | _, _, .cons r t, f => .cons (f _ _ r) (Paired.mapP t f)
theorem ObjOk.stay (x : ObjOk P w H h a o) (k : ∀ b u, (b = a ∨ H b = some (.own a)) → h.get? b = some u → h'.get? b = some u)
    (ho : ∀ b, H b = some (.own a) → H' b = some (.own a)) (ht : ∀ b xs, H b = some (.tup xs) → H' b = some (.tup xs)) : ObjOk P w H' h' a o := by
  induction o with
  | lst xs => obtain ⟨z, its, n, r, e⟩ := x; exact ⟨z, its, n, r, k _ _ (.inl rfl) e⟩
  | tup xs => obtain ⟨z, its, r, ob, e, c⟩ := x; exact ⟨z, its, r, ob, k _ _ (.inl rfl) e, c⟩
  | dK kvs => obtain ⟨z, y, vs, r, ob, es, ep, e, c⟩ := x; exact ⟨z, y, vs, r, ob, es, ep, k _ _ (.inl rfl) e, c⟩
  | dT kvs =>
    obtain ⟨z, y, xs, r, ob, es, ep, e, c⟩ := x
    exact ⟨z, y, xs, Paired.mapP r fun p q z => ⟨z.1, ht _ _ z.2.1, z.2.2⟩, ob, es, ep, k _ _ (.inl rfl) e, c⟩
  | set S n => obtain ⟨ob, es, ep, t, e, c⟩ := x; exact ⟨ob, es, ep, t, k _ _ (.inl rfl) e, c⟩
  | ins C dx fs =>
    obtain ⟨d, z, ne, e, mA, ⟨od, es, ep, e2, c⟩, r⟩ := x
    exact ⟨ho _ d, z, ne, k _ _ (.inl rfl) e, mA, ⟨od, es, ep, k _ _ (.inr d) e2, c⟩, r⟩
  | own y => obtain ⟨ob, e⟩ := x; exact ⟨ob, k _ _ (.inl rfl) e⟩
  | xd fs => obtain ⟨mA, ⟨od, es, ep, e, c⟩, r⟩ := x; exact ⟨mA, ⟨od, es, ep, k _ _ (.inl rfl) e, c⟩, r⟩
  | rng lo hi => obtain ⟨t, u, v, e⟩ := x; exact ⟨t, u, v, k _ _ (.inl rfl) e⟩
  | frz ob u ih => obtain ⟨e, q⟩ := x; exact ⟨k _ _ (.inl rfl) e, ih q⟩
  | tbl ps =>
    have e : h.get? a = some { cls := .none, data := .fields ps } := x
    show h'.get? a = some { cls := .none, data := .fields ps }
    exact k a _ (.inl rfl) e
  | met f y =>
    have e : h.get? a = some (PySem.W.methodObj (.ref f) (.ref y)) := x
    show h'.get? a = some (PySem.W.methodObj (.ref f) (.ref y))
    exact k a _ (.inl rfl) e
  | ext φ => obtain ⟨p, ⟨o, e⟩, st⟩ := x; exact ⟨st _ _ p fun o q => k _ _ (.inl rfl) q, ⟨o, k _ _ (.inl rfl) e⟩, st⟩
theorem HOk.lt (x : HOk P w H h) (e : H a = some o) : a < h.objs.size := (x a o e).lt
theorem HOk.fresh (x : HOk P w H h) (e : h.objs.size ≤ a) : H a = none := by
  cases q : H a with
  | none => rfl
  | some u => exact absurd (Nat.lt_of_lt_of_le (x.lt q) e) (Nat.lt_irrefl _)
theorem HOk.kept (x : HOk P w H h) (k : ∀ b u, h.get? b = some u → h'.get? b = some u) : HOk P w H h' := fun a o e =>
  (x a o e).stay (fun b u _ q => k b u q) (fun _ q => q) fun _ _ q => q
theorem HOk.laid (x : HOk P w H h) (k : ∀ b u, h.get? b = some u → h'.get? b = some u) (hp : h.objs.size ≤ a) (new : ObjOk P w (upd H a o) h' a o) : HOk P w (upd H a o) h' := fun b u e => by
  have hn := x.fresh hp
  by_cases hb : b = a
  · subst hb; rw [upd_same] at e; cases e; exact new
  · rw [upd_ne hb] at e
    exact (x b u e).stay (fun c v _ q => k c v q) (fun c q => by rw [upd_ne (ne_of_none q hn)]; exact q) fun c xs q => by rw [upd_ne (ne_of_none q hn)]; exact q
end

noncomputable def Rd (H : Hp) (a : Addr) (u : HO) : Prop := H a = some u ∨ ∃ o, H a = some (.frz o u)
theorem Rd.of {H : Hp} {a : Addr} {u : HO} (h : H a = some u) : Rd H a u := .inl h
theorem Rd.ok {P : Program} {w : World} {H : Hp} {h : Heap} {a : Addr} {u : HO} (r : Rd H a u) (x : HOk P w H h) : ObjOk P w H h a u := by
  rcases r with r | ⟨o, r⟩
  · exact x a u r
  · obtain ⟨_, q⟩ := x a _ r
    exact q
noncomputable def Mut : Option HO → Prop
  | some (.lst _) => True
  | some (.dK _) => True
  | some (.dT _) => True
  | some (.set _ _) => True
  | some (.ins _ _ _) => True
  | some (.ext _) => True
  | _ => False
section
variable {P : Program} {w : World} {H : Hp} {h h' : Heap} {x e : Addr} {o' : HO}
theorem HOk.write (ok : HOk P w H h) (mu : Mut (H x)) (he : e = x ∨ H e = some (.own x)) (k : ∀ b u, b ≠ e → h.get? b = some u → h'.get? b = some u) (heo : ∃ u, h'.get? e = some u)
    (new : ObjOk P w (upd H x o') h' x o') : HOk P w (upd H x o') h' := fun b u q => by
  have nown : ∀ c y, H c = some (.own y) → c ≠ x := fun c y r z => by subst z; rw [r] at mu; exact mu
  have ntup : ∀ c xs, H c = some (.tup xs) → c ≠ x := fun c xs r z => by subst z; rw [r] at mu; exact mu
  by_cases hb : b = x
  · subst hb; rw [upd_same] at q; cases q; exact new
  · rw [upd_ne hb] at q
    by_cases hbe : b = e
    · have q' : H b = some (.own x) := by
        rcases he with z | z
        · exact absurd (hbe.trans z) hb
        · rw [hbe]; exact z
      rw [q] at q'; cases q'
      obtain ⟨v, hv⟩ := heo
      exact ⟨v, by rw [hbe]; exact hv⟩
    · refine (ok b u q).stay (fun c v hc r => k c v ?_ r) (fun c r => by rw [upd_ne (nown c b r)]; exact r) fun c xs r => by rw [upd_ne (ntup c xs r)]; exact r
      rcases hc with rfl | hc
      · exact hbe
      · rintro rfl
        rcases he with z | z
        · exact nown c b hc z
        · rw [hc] at z; cases z; exact hb rfl
end

structure Un (fs ex : List Addr) (H H' : Hp) (h h' : Heap) : Prop where
  keep : ∀ b o, h.get? b = some o → H b = none → b ∉ fs → b ∉ ex → h'.get? b = some o
  slot : ∀ b o, h.get? b = some o → H b = none → b ∈ fs → b ∉ ex → ∃ sl, h'.get? b = some { o with slots := sl }
  free : ∀ b o, h.get? b = some o → H b = none → b ∉ ex → H' b = none
  there : ∀ b o, h.get? b = some o → b ∉ ex → ∃ o', h'.get? b = some o'
  tups : ∀ b xs, H b = some (.tup xs) → H' b = some (.tup xs)
  frzs : ∀ b o u, H b = some (.frz o u) → H' b = some (.frz o u)
  tbls : ∀ b ps, H b = some (.tbl ps) → ∃ more, H' b = some (.tbl (ps ++ more))
section
variable {fs fs' ex ex' : List Addr} {H H1 H2 : Hp} {h h1 h2 h' : Heap} {a x e : Addr} {o : HO}
theorem Un.any (u : Un fs ex H H1 h h1) {b : Addr} {ob : Obj} (q : h.get? b = some ob) (n : H b = none) (hx : b ∉ ex) : ∃ sl, h1.get? b = some { ob with slots := sl } := by
  by_cases hb : b ∈ fs
  · exact u.slot b ob q n hb hx
  · exact ⟨ob.slots, u.keep b ob q n hb hx⟩
theorem Un.trans (a : Un fs ex H H1 h h1) (b : Un fs ex H1 H2 h1 h2) : Un fs ex H H2 h h2 where
  keep := fun c ob q n hc hx => b.keep c ob (a.keep c ob q n hc hx) (a.free c ob q n hx) hc hx
  slot := fun c ob q n hc hx => by
    obtain ⟨sl, e1⟩ := a.slot c ob q n hc hx
    obtain ⟨sl', e2⟩ := b.slot c _ e1 (a.free c ob q n hx) hc hx
    exact ⟨sl', e2⟩
  free := fun c ob q n hx => by
    obtain ⟨o', e1⟩ := a.there c ob q hx
    exact b.free c o' e1 (a.free c ob q n hx) hx
  there := fun c ob q hx => by
    obtain ⟨o', e1⟩ := a.there c ob q hx
    exact b.there c o' e1 hx
  tups := fun c xs q => b.tups c xs (a.tups c xs q)
  frzs := fun c ob xs q => b.frzs c ob xs (a.frzs c ob xs q)
  tbls := fun c ps q => by
    obtain ⟨m1, e1⟩ := a.tbls c ps q
    obtain ⟨m2, e2⟩ := b.tbls c _ e1
    exact ⟨m1 ++ m2, by rw [e2, Array.append_assoc]⟩
theorem Un.kept (k : ∀ b u, h.get? b = some u → h'.get? b = some u) : Un fs ex H H h h' :=
  ⟨fun b ob q _ _ _ => k b ob q, fun b ob q _ _ _ => ⟨ob.slots, k b ob q⟩, fun _ _ _ n _ => n, fun b ob q _ => ⟨ob, k b ob q⟩, fun _ _ q => q, fun _ _ _ q => q, fun _ ps q => ⟨#[], by rw [q]; simp⟩⟩
theorem Un.refl : Un fs ex H H h h := Un.kept fun _ _ q => q
theorem Un.laid (k : ∀ b u, h.get? b = some u → h'.get? b = some u) (hp : h.objs.size ≤ a) (hn : H a = none) : Un fs ex H (upd H a o) h h' where
  keep := fun b u q _ _ _ => k b u q
  slot := fun b u q _ _ _ => ⟨u.slots, k b u q⟩
  free := fun b u q n _ => by rw [upd_ne (Nat.ne_of_lt (Nat.lt_of_lt_of_le (Heap.lt_size q) hp))]; exact n
  there := fun b u q _ => ⟨u, k b u q⟩
  tups := fun b xs q => by rw [upd_ne (ne_of_none q hn)]; exact q
  frzs := fun b u xs q => by rw [upd_ne (ne_of_none q hn)]; exact q
  tbls := fun b ps q => ⟨#[], by rw [upd_ne (ne_of_none q hn), q]; simp⟩
theorem Un.write (mu : Mut (H x)) (he : e = x ∨ H e = some (.own x)) (k : ∀ b u, b ≠ e → h.get? b = some u → h'.get? b = some u) (heo : ∃ u, h'.get? e = some u) : Un fs ex H (upd H x o) h h' := by
  have hx : ∀ b, H b = none → b ≠ x := fun b n z => by subst z; rw [n] at mu; exact mu
  have hb : ∀ b, H b = none → b ≠ e := fun b n z => by
    subst z
    rcases he with r | r
    · exact hx b n r
    · rw [n] at r; cases r
  have hm : ∀ b u, H b = some u → ¬ Mut (some u) → b ≠ x := fun b u q nm z => by subst z; rw [q] at mu; exact nm mu
  refine ⟨fun b u q n _ _ => k b u (hb b n) q, fun b u q n _ _ => ⟨u.slots, k b u (hb b n) q⟩, fun b u q n _ => by rw [upd_ne (hx b n)]; exact n, fun b u q _ => ?_,
    fun b xs q => by rw [upd_ne (hm b _ q fun z => z)]; exact q, fun b u xs q => by rw [upd_ne (hm b _ q fun z => z)]; exact q, fun b ps q => ⟨#[], by rw [upd_ne (hm b _ q fun z => z), q]; simp⟩⟩
  by_cases hbe : b = e
  · subst hbe; exact heo
  · exact ⟨u, k b u hbe q⟩
theorem Un.mono (u : Un fs ex H H1 h h1) (hs : ∀ b ∈ fs, b ∈ fs') (hx : ∀ b ∈ ex, b ∈ ex') : Un fs' ex' H H1 h h1 :=
  ⟨fun b ob q n hb he => u.keep b ob q n (fun z => hb (hs b z)) fun z => he (hx b z), fun _ _ q n _ he => u.any q n fun z => he (hx _ z), fun b ob q n he => u.free b ob q n fun z => he (hx b z), fun b ob q he => u.there b ob q fun z => he (hx b z), u.tups, u.frzs, u.tbls⟩
end

noncomputable def trk (h : Heap) (H : Hp) : List Addr := (List.range h.objs.size).filter fun a => (H a).isSome
noncomputable def hidT (h : Heap) (H : Hp) : Heap := PySem.W.hideAll h (trk h H)
theorem hidT_size (h : Heap) (H : Hp) : (hidT h H).objs.size = h.objs.size := PySem.W.hideAll_size _ _
theorem hidT_get {h : Heap} {H : Hp} {b : Addr} {o : Obj} (e : h.get? b = some o) (n : H b = none) : (hidT h H).get? b = some o :=
  PySem.W.hideAll_get _ e fun hm => by
    have q : (H b).isSome = true := (List.mem_filter.mp hm).2
    rw [n] at q; simp at q
theorem of_hidT {h : Heap} {H : Hp} {b : Addr} {o : Obj} (e : (hidT h H).get? b = some o) : h.get? b = some o ∧ H b = none := by
  have e' : h.get? b = some o := PySem.W.of_hideAll (trk h H) e
  refine ⟨e', ?_⟩
  cases q : H b with
  | none => rfl
  | some x =>
    have hm : b ∈ trk h H := List.mem_filter.mpr ⟨List.mem_range.mpr (Heap.lt_size e'), by simp [q]⟩
    have z : (hidT h H).get? b = none := PySem.W.hideAll_none (trk h H) hm
    rw [z] at e; cases e

noncomputable def allNews (g h : Heap) (L : Addr) : List (Addr × Obj) := (List.range h.objs.size).filterMap fun a => if a = L ∨ (g.get? a).isSome = true then none else (h.get? a).map fun o => (a, o)
noncomputable def rest (g h : Heap) (L d : Addr) : List (Addr × Obj) := (allNews g h L).filter fun p => decide (p.1 ≠ d)
end L2

namespace L2
open PySem PySem.Spec PyProof.Rows

structure Mod (K : PySem.W.Frag) (mg : Str → Option Value) (base : Heap) : Prop where
  kin : K.In base
  glob : base.Ns mainGlobals mg
  blt : ∃ mb, base.Ns builtinsNs mb ∧ ∀ x : Str, x ≠ "__name__" → mb x = bootBuiltins x
  nolimit : base.NoLimit

structure Cx where
  prog : Program
  w : World
  K : PySem.W.Frag
  mg : Str → Option Value
  base : Heap
  A : Around
  N : List Str
  s₀ : Shared
  H₀ : Hp
  env : Env
  outer : List Env
  stack : List Env
  ex : List Addr
  fn : Str → Bool
  calm : Bool
  pn : List (Addr × Obj)
  xe : Value → Shared → Prop
noncomputable def frs (l : List Env) : List Addr := l.filterMap (·.frame)
noncomputable abbrev Cx.fs (X : Cx) : List Addr := frs X.outer

noncomputable def Vis (sc : Scope) (x : Str) : Prop := sc.names.lookup x = some .local ∨ sc.names.lookup x = some .cell ∨ sc.names.lookup x = some .free
noncomputable def Loc (sc : Scope) (x : Str) : Prop := sc.names.lookup x = some .local ∨ sc.names.lookup x = some .cell
noncomputable def Look (env : Env) (h : Heap) (m : Str → Option Value) (x : Str) (u : Value) : Prop :=
  (env.kindOf x = some .local ∧ m x = some u) ∨ ((env.kindOf x = some .cell ∨ env.kindOf x = some .free) ∧ ∃ c, env.cells.lookup x = some c ∧ h.IsCell c (some u))

structure Cx.Ok (X : Cx) : Prop where
  mod : Mod X.K X.mg X.base
  kind : X.env.scope.kind = .function
  glob : X.env.globals = mainGlobals
  blt : X.env.builtins = builtinsNs
  above : X.s₀.heap.objs.size ≤ X.env.locals
  inj : ∀ x y c, X.env.cells.lookup x = some c → X.env.cells.lookup y = some c → x = y
  has : ∀ x, (X.env.kindOf x = some .cell ∨ X.env.kindOf x = some .free) → ∃ c, X.env.cells.lookup x = some c
  cab : ∀ x c, X.fn x = true → X.env.cells.lookup x = some c → X.s₀.heap.objs.size ≤ c
  hd : X.calm = true → X.A.handled = none
  frames : X.A.frames = some X.stack
  stk : X.stack = X.outer ∨ (X.stack = X.env :: X.outer ∧ X.env.frame = some X.env.locals)
  exf : ∀ b ∈ X.ex, b ≠ X.env.locals ∧ ∀ x c, X.env.cells.lookup x = some c → c ≠ b
  bs : ∀ b o, X.base.get? b = some o → X.s₀.heap.get? b = some o ∧ X.H₀ b = none
  bsz : X.base.objs.size ≤ X.s₀.heap.objs.size
  noex : ∀ b o, X.base.get? b = some o → b ∉ X.ex
  exfs : ∀ b ∈ X.ex, b ∉ X.fs
  funs : X.s₀.heap.FunFrames X.base X.outer
  frf : ∀ b ∈ X.fs, X.H₀ b = none

structure Inv (X : Cx) (pins : List (Addr × Obj)) (σ : List (Option V)) (H : Hp) (s : Shared) : Prop where
  ok : X.Ok
  os : s.os = X.s₀.os
  bare : AllBare s.gens
  base : Un X.fs X.ex X.H₀ H X.s₀.heap s.heap
  loc : ∃ m, s.heap.Ns X.env.locals m ∧ ∀ (i : Nat) (x : Str) (v : V), X.N[i]? = some x → σ[i]? = some (some v) → Vis X.env.scope x → ∃ u, RelV v u ∧ Look X.env s.heap m x u
  cell : ∀ x c, X.env.cells.lookup x = some c → ∃ v, s.heap.IsCell c v
  free : H X.env.locals = none
  freeC : ∀ x c, X.env.cells.lookup x = some c → H c = none
  pin : ∀ p ∈ X.pn ++ pins, s.heap.get? p.1 = some p.2 ∧ H p.1 = none ∧ p.1 ≠ X.env.locals ∧ p.1 ∉ X.fs ∧ ∀ v, p.2.data ≠ .cell v
  hok : HOk X.prog X.w H s.heap
  len : σ.length = X.N.length

section
variable {X : Cx} {pins : List (Addr × Obj)} {σ : List (Option V)} {H H' : Hp} {s : Shared} {h' : Heap}

theorem Cx.Ok.nofr (ok : X.Ok) {b : Addr} {o : Obj} (e : X.base.get? b = some o) : b ∉ X.fs := fun hb => by
  have := (ok.funs.mem hb).1
  rw [e] at this; cases this
theorem Inv.bs (I : Inv X pins σ H s) : ∀ b o, X.base.get? b = some o → s.heap.get? b = some o ∧ H b = none := fun b o e =>
  ⟨I.base.keep b o (I.ok.bs b o e).1 (I.ok.bs b o e).2 (I.ok.nofr e) (I.ok.noex b o e), I.base.free b o (I.ok.bs b o e).1 (I.ok.bs b o e).2 (I.ok.noex b o e)⟩
theorem Inv.bk (I : Inv X pins σ H s) : ∀ b o, X.base.get? b = some o → s.heap.get? b = some o := fun b o e => (I.bs b o e).1
theorem Inv.mod (I : Inv X pins σ H s) : Mod X.K X.mg X.base := I.ok.mod
theorem Inv.kIn (I : Inv X pins σ H s) : X.K.In s.heap := I.ok.mod.kin.keeps I.bk
theorem Inv.nolimit (I : Inv X pins σ H s) : s.heap.NoLimit := I.ok.mod.nolimit.keeps I.bk
theorem Inv.fr (I : Inv X pins σ H s) : ∃ m, Fr X.base X.env.locals s.heap m :=
  let ⟨m, hn, _⟩ := I.loc
  ⟨m, hn, I.bk, Nat.le_trans I.ok.bsz I.ok.above⟩
theorem Inv.lt (I : Inv X pins σ H s) : X.env.locals < s.heap.objs.size := let ⟨_, hn, _⟩ := I.loc; hn.lt
theorem Inv.sz (I : Inv X pins σ H s) : X.s₀.heap.objs.size ≤ s.heap.objs.size := Nat.le_trans I.ok.above (Nat.le_of_lt I.lt)
theorem Inv.nofs (I : Inv X pins σ H s) {a : Addr} (h : s.heap.objs.size ≤ a) : a ∉ X.fs := fun hb => by
  obtain ⟨_, o, ho, _⟩ := I.ok.funs.mem hb
  exact absurd (Nat.lt_of_lt_of_le (Heap.lt_size ho) (Nat.le_trans I.sz h)) (Nat.lt_irrefl _)
theorem Inv.cne (I : Inv X pins σ H s) : ∀ x c, X.env.cells.lookup x = some c → c ≠ X.env.locals := fun x c e z => by
  obtain ⟨v, o, ho, hd⟩ := I.cell x c e
  obtain ⟨m, ⟨o', es, ep, ho', hd', _⟩, _⟩ := I.loc
  rw [z, ho'] at ho; cases ho; rw [hd'] at hd; cases hd
theorem Inv.funs (I : Inv X pins σ H s) : s.heap.FunFrames X.base X.outer := by
  have all : ∀ (l : List Env), (∀ b ∈ frs l, b ∈ X.fs) → X.s₀.heap.FunFrames X.base l → s.heap.FunFrames X.base l := by
    intro l
    induction l with
    | nil => intro _ _; trivial
    | cons env r ih =>
      intro hs hl
      obtain ⟨hk, ⟨L, o, hf, hn, ho, hd⟩, hr⟩ := hl
      have hL : L ∈ X.fs := hs L (by unfold frs; rw [List.filterMap_cons, hf]; exact List.mem_cons_self)
      obtain ⟨sl, e⟩ := I.base.slot L o ho (I.ok.frf L hL) hL fun z => I.ok.exfs L z hL
      exact ⟨hk, ⟨L, _, hf, hn, e, hd⟩, ih (fun b hb => hs b (by unfold frs; rw [List.filterMap_cons, hf]; exact List.mem_cons_of_mem _ hb)) hr⟩
  exact all X.outer (fun _ hb => hb) I.ok.funs

theorem Inv.stack (I : Inv X pins σ H s) : s.heap.FunFrames X.base X.stack := by
  rcases I.ok.stk with e | ⟨e, hf⟩
  · rw [e]; exact I.funs
  · rw [e]
    obtain ⟨m, hn, _⟩ := I.loc
    refine .cons (by rw [I.ok.kind]; decide) hf hn ?_ I.funs
    exact Heap.get?_none_of_le (Nat.le_trans I.ok.bsz I.ok.above)
theorem Inv.stkSub (I : Inv X pins σ H s) : ∀ b ∈ frs X.stack, b ∈ X.env.locals :: X.fs := fun b hb => by
  rcases I.ok.stk with e | ⟨e, hf⟩
  · rw [e] at hb; exact List.mem_cons_of_mem _ hb
  · rw [e] at hb
    unfold frs at hb
    rw [List.filterMap_cons, hf] at hb
    exact hb
theorem Inv.stkFree (I : Inv X pins σ H s) : ∀ b ∈ frs X.stack, H b = none := fun b hb => by
  rcases List.mem_cons.mp (I.stkSub b hb) with e | hb
  · rw [e]; exact I.free
  · obtain ⟨_, o, ho, _⟩ := I.ok.funs.mem hb
    exact I.base.free b o ho (I.ok.frf b hb) fun z => I.ok.exfs b z hb

theorem Inv.step {g' : Array GenState} {t' : Nat} {d' : Drawn} {ch : List Addr} (I : Inv X pins σ H s)
    (hch : ∀ b ∈ ch, (b ∈ X.ex ∨ X.s₀.heap.objs.size ≤ b) ∧ b ≠ X.env.locals ∧ (∀ x c, X.env.cells.lookup x = some c → c ≠ b) ∧ ∀ p ∈ X.pn ++ pins, p.1 ≠ b)
    (keep : ∀ b o, b ≠ X.env.locals → b ∉ X.fs → b ∉ ch → s.heap.get? b = some o → H b = none → h'.get? b = some o)
    (slot : ∀ b o, b ≠ X.env.locals → b ∈ X.fs → b ∉ ch → s.heap.get? b = some o → H b = none → ∃ sl, h'.get? b = some { o with slots := sl }) (free : ∀ b o, b ∉ ch → s.heap.get? b = some o → H b = none → H' b = none)
    (there : ∀ b o, b ∉ ch → s.heap.get? b = some o → ∃ o', h'.get? b = some o')
    (tups : ∀ b xs, H b = some (.tup xs) → H' b = some (.tup xs)) (frzs : ∀ b o u, H b = some (.frz o u) → H' b = some (.frz o u)) (tbls : ∀ b ps, H b = some (.tbl ps) → ∃ more, H' b = some (.tbl (ps ++ more)))
    (ns : ∀ m, s.heap.Ns X.env.locals m → h'.Ns X.env.locals m) (hok : HOk X.prog X.w H' h') (hg : AllBare g') :
    Inv X pins σ H' { s with heap := h', gens := g', drawn := d', toks := t' } := by
  have neL : ∀ b o, X.s₀.heap.get? b = some o → b ≠ X.env.locals := fun b o e => Nat.ne_of_lt (Nat.lt_of_lt_of_le (Heap.lt_size e) I.ok.above)
  have neC : ∀ b o, X.s₀.heap.get? b = some o → b ∉ X.ex → b ∉ ch := fun b o e hx hb => by
    rcases (hch b hb).1 with z | z
    · exact hx z
    · exact absurd (Nat.lt_of_lt_of_le (Heap.lt_size e) z) (Nat.lt_irrefl _)
  have cellK : ∀ x c, X.env.cells.lookup x = some c → ∀ v, s.heap.IsCell c v → h'.IsCell c v := fun x c e v ⟨o, ho, hd⟩ => by
    have nch : c ∉ ch := fun z => (hch c z).2.2.1 x c e rfl
    by_cases hc : c ∈ X.fs
    · obtain ⟨sl, q⟩ := slot c o (I.cne x c e) hc nch ho (I.freeC x c e)
      exact ⟨_, q, hd⟩
    · exact ⟨o, keep c o (I.cne x c e) hc nch ho (I.freeC x c e), hd⟩
  refine ⟨I.ok, I.os, hg, ⟨fun b o e n hb hx => ?_, fun b o e n hb hx => ?_, fun b o e n hx => ?_, fun b o e hx => ?_, fun b xs e => tups b xs (I.base.tups b xs e), fun b o xs e => frzs b o xs (I.base.frzs b o xs e), fun b ps e => ?_⟩, ?_, fun x c e => ?_, ?_, fun x c e => ?_, fun p hp => ?_, hok, I.len⟩
  · exact keep b o (neL b o e) hb (neC b o e hx) (I.base.keep b o e n hb hx) (I.base.free b o e n hx)
  · obtain ⟨sl, e1⟩ := I.base.slot b o e n hb hx
    obtain ⟨sl', e2⟩ := slot b _ (neL b o e) hb (neC b o e hx) e1 (I.base.free b o e n hx)
    exact ⟨sl', e2⟩
  · obtain ⟨o', e1⟩ := I.base.there b o e hx
    exact free b o' (neC b o e hx) e1 (I.base.free b o e n hx)
  · obtain ⟨o', e1⟩ := I.base.there b o e hx
    exact there b o' (neC b o e hx) e1
  · obtain ⟨m1, e1⟩ := I.base.tbls b ps e
    obtain ⟨m2, e2⟩ := tbls b _ e1
    exact ⟨m1 ++ m2, by rw [e2, Array.append_assoc]⟩
  · obtain ⟨m, hn, hl⟩ := I.loc
    refine ⟨m, ns m hn, fun i x v e1 e2 e3 => ?_⟩
    obtain ⟨u, r, l⟩ := hl i x v e1 e2 e3
    refine ⟨u, r, ?_⟩
    rcases l with l | ⟨k, c, e, z⟩
    · exact .inl l
    · exact .inr ⟨k, c, e, cellK x c e _ z⟩
  · obtain ⟨v, z⟩ := I.cell x c e
    exact ⟨v, cellK x c e v z⟩
  · obtain ⟨m, ⟨o, _, _, ho, _⟩, _⟩ := I.loc
    exact free _ o (fun z => (hch _ z).2.1 rfl) ho I.free
  · obtain ⟨v, o, ho, hd⟩ := I.cell x c e
    exact free c o (fun z => (hch c z).2.2.1 x c e rfl) ho (I.freeC x c e)
  · obtain ⟨e, n, ne, nf, d⟩ := I.pin p hp
    have nch : p.1 ∉ ch := fun z => (hch p.1 z).2.2.2 p hp rfl
    exact ⟨keep p.1 p.2 ne nf nch e n, free p.1 p.2 nch e n, ne, nf, d⟩
theorem Inv.un {t' : Nat} (I : Inv X pins σ H s) (u : Un X.fs [] H H' s.heap h') (hok : HOk X.prog X.w H' h') : Inv X pins σ H' { s with heap := h', toks := t' } := by
  obtain ⟨m, ⟨o, es, ep, ho, r⟩, _⟩ := id I.loc
  obtain ⟨sl, hL⟩ := u.any ho I.free (by simp)
  exact I.step (g' := s.gens) (d' := s.drawn) (ch := []) (fun _ z => nomatch z) (fun b o _ hb _ e n => u.keep b o e n hb (by simp)) (fun b o _ hb _ e n => u.slot b o e n hb (by simp)) (fun b o _ e n => u.free b o e n (by simp)) (fun b o _ e => u.there b o e (by simp)) u.tups u.frzs u.tbls (fun m' hm => by
    obtain ⟨o', es', ep', ho', r'⟩ := hm
    rw [ho] at ho'; cases ho'
    exact ⟨_, es', ep', hL, r'⟩) hok I.bare
theorem Inv.call {g' : Array GenState} {t' : Nat} {d' : Drawn} {ch : List Addr} (I : Inv X pins σ H s) (u : Un (frs X.stack) ch H H' s.heap h') (hok : HOk X.prog X.w H' h') (hg : AllBare g')
    (hch : ∀ b ∈ ch, (b ∈ X.ex ∨ X.s₀.heap.objs.size ≤ b) ∧ b ≠ X.env.locals ∧ (∀ x c, X.env.cells.lookup x = some c → c ≠ b) ∧ ∀ p ∈ X.pn ++ pins, p.1 ≠ b) :
    Inv X pins σ H' { s with heap := h', gens := g', drawn := d', toks := t' } := by
  obtain ⟨m, ⟨o, es, ep, ho, r⟩, _⟩ := id I.loc
  obtain ⟨sl, hL⟩ := u.any ho I.free fun z => (hch _ z).2.1 rfl
  exact I.step (ch := ch) hch (fun b o hL hb hc e n => u.keep b o e n (fun z => (List.mem_cons.mp (I.stkSub b z)).elim hL hb) hc) (fun b o _ _ hc e n => u.any e n hc) (fun b o hc e n => u.free b o e n hc) (fun b o hc e => u.there b o e hc) u.tups u.frzs u.tbls (fun m' hm => by
    obtain ⟨o', es', ep', ho', r'⟩ := hm
    rw [ho] at ho'; cases ho'
    exact ⟨_, es', ep', hL, r'⟩) hok hg
theorem Inv.turned {t' : Nat} {it : Addr} (I : Inv X pins σ H s) (k : ∀ b o, b ≠ it → s.heap.get? b = some o → h'.get? b = some o) (hn : H it = none) (hL : it ≠ X.env.locals)
    (h1 : it ∈ X.ex ∨ X.s₀.heap.objs.size ≤ it) (h2 : ∀ x c, X.env.cells.lookup x = some c → c ≠ it) (h3 : ∀ p ∈ X.pn ++ pins, p.1 ≠ it) : Inv X pins σ H { s with heap := h', toks := t' } := by
  have nit : ∀ b u, H b = some u → b ≠ it := fun b u e z => by rw [z, hn] at e; cases e
  refine I.step (g' := s.gens) (d' := s.drawn) (ch := [it]) (fun b hb => ?_) (fun b o _ _ hc e _ => k b o (fun z => hc (by simp [z])) e) (fun b o _ _ hc e _ => ⟨o.slots, k b o (fun z => hc (by simp [z])) e⟩) (fun _ _ _ _ n => n)
    (fun b o hc e => ⟨o, k b o (fun z => hc (by simp [z])) e⟩) (fun _ _ e => e) (fun _ _ _ e => e) (fun b ps e => ⟨#[], by rw [e]; simp⟩) (fun m hm => ?_) (fun b u e => ?_) I.bare
  · have e : b = it := by simpa using hb
    subst e
    exact ⟨h1, hL, h2, h3⟩
  · obtain ⟨o, es, ep, ho, r⟩ := hm
    exact ⟨o, es, ep, k _ o (Ne.symm hL) ho, r⟩
  · refine (I.hok b u e).stay (fun c v hc q => k c v ?_ q) (fun _ q => q) fun _ _ q => q
    rcases hc with z | z
    · rw [z]; exact nit b u e
    · exact nit c _ z
theorem Inv.tok (I : Inv X pins σ H s) (t : Nat) : Inv X pins σ H { s with toks := t } := I.un (h' := s.heap) (t' := t) Un.refl I.hok
theorem Inv.kept {t' : Nat} (I : Inv X pins σ H s) (k : ∀ b u, s.heap.get? b = some u → h'.get? b = some u) : Inv X pins σ H { s with heap := h', toks := t' } := I.un (Un.kept k) (I.hok.kept k)
theorem Inv.laid {a : Addr} {o : HO} {t' : Nat} (I : Inv X pins σ H s) (k : ∀ b u, s.heap.get? b = some u → h'.get? b = some u) (hp : s.heap.objs.size ≤ a) (new : ObjOk X.prog X.w (upd H a o) h' a o) :
    Inv X pins σ (upd H a o) { s with heap := h', toks := t' } := I.un (Un.laid k hp (I.hok.fresh hp)) (I.hok.laid k hp new)
theorem Inv.write {x e : Addr} {o : HO} {t' : Nat} (I : Inv X pins σ H s) (mu : Mut (H x)) (he : e = x ∨ H e = some (.own x)) (k : ∀ b u, b ≠ e → s.heap.get? b = some u → h'.get? b = some u) (heo : ∃ u, h'.get? e = some u)
    (new : ObjOk X.prog X.w (upd H x o) h' x o) : Inv X pins σ (upd H x o) { s with heap := h', toks := t' } := I.un (Un.write mu he k heo) (I.hok.write mu he k heo new)
theorem Inv.pins_of {pins' : List (Addr × Obj)} (I : Inv X pins σ H s) (h : ∀ p ∈ pins', s.heap.get? p.1 = some p.2 ∧ H p.1 = none ∧ p.1 ≠ X.env.locals ∧ p.1 ∉ X.fs ∧ ∀ v, p.2.data ≠ .cell v) : Inv X pins' σ H s :=
  ⟨I.ok, I.os, I.bare, I.base, I.loc, I.cell, I.free, I.freeC, fun p hp => (List.mem_append.mp hp).elim (fun z => I.pin p (List.mem_append_left _ z)) (h p), I.hok, I.len⟩

theorem nodup_ix {N : List Str} (hN : N.Nodup) {i j : Nat} {x : Str} (a : N[i]? = some x) (b : N[j]? = some x) : i = j := by
  obtain ⟨h1, e1⟩ := List.getElem?_eq_some_iff.mp a
  obtain ⟨h2, e2⟩ := List.getElem?_eq_some_iff.mp b
  exact (List.getElem_inj hN).mp (e1.trans e2.symm)

theorem store_ok2 {M : Model} {A : Around} {E : Value → Shared → Prop} {i : Nat} {x : Str} {v : V} {u : Value} {Q : Unit → Shared → Prop} (I : Inv X pins σ H s) (hN : X.N.Nodup) (hi : X.N[i]? = some x) (hx : Loc X.env.scope x) (r : RelV v u)
    (h : ∀ s', Inv X pins (σ.set i (some v)) H s' → (∃ a, Heap.SameBut a s.heap s'.heap ∧ (a = X.env.locals ∨ X.env.cells.lookup x = some a)) → Q () s') (hf : X.fn x = true ∨ X.env.scope.names.lookup x = some .local := by first | exact .inl rfl | exact .inr rfl | assumption) : wpAny M A (storeName X.env x u) Q E s := by
  obtain ⟨m, hn, hl⟩ := id I.loc
  have hcls : (X.env.scope.kind == .class || (X.env.scope.kind == .module && X.env.locals != X.env.globals)) = false := by rw [I.ok.kind]; rfl
  have hiσ : i < σ.length := by rw [I.len]; exact (List.getElem?_eq_some_iff.mp hi).1
  have cne := I.cne
  have tracked : ∀ {a : Addr} {h' : Heap}, (∃ o, s.heap.get? a = some o ∧ H a = none) → Heap.SameBut a s.heap h' → HOk X.prog X.w H h' := fun {a h'} ha hs b ob e => by
    obtain ⟨_, _, hfree⟩ := ha
    refine (I.hok b ob e).stay (fun c w' hc q => (hs.2 c ?_).trans q) (fun _ q => q) fun _ _ q => q
    rintro rfl
    rcases hc with rfl | hc
    · rw [hfree] at e; cases e
    · rw [hfree] at hc; cases hc
  rcases hx with hk | hk
  · refine wpAny_storeName_local hk hn (fun h' hn' hs => ?_) hcls
    obtain ⟨oL, _, _, hoL, _⟩ := id hn
    refine h _ ⟨I.ok, I.os, I.bare, ⟨fun b o e n hb hx => ?_, fun b o e n hb hx => ?_, I.base.free, fun b o e hx => ?_, I.base.tups, I.base.frzs, I.base.tbls⟩, ⟨_, hn', fun j y v' e1 e2 e3 => ?_⟩, fun y c e => ?_, I.free, I.freeC, fun p hp => ?_, tracked ⟨oL, hoL, I.free⟩ hs, by simpa using I.len⟩ ⟨_, hs, .inl rfl⟩
    · exact (hs.2 b (Nat.ne_of_lt (Nat.lt_of_lt_of_le (Heap.lt_size e) I.ok.above))).trans (I.base.keep b o e n hb hx)
    · obtain ⟨sl, e1⟩ := I.base.slot b o e n hb hx
      exact ⟨sl, (hs.2 b (Nat.ne_of_lt (Nat.lt_of_lt_of_le (Heap.lt_size e) I.ok.above))).trans e1⟩
    · obtain ⟨o', e1⟩ := I.base.there b o e hx
      exact ⟨o', (hs.2 b (Nat.ne_of_lt (Nat.lt_of_lt_of_le (Heap.lt_size e) I.ok.above))).trans e1⟩
    · by_cases hj : j = i
      · subst hj
        rw [hi] at e1; cases e1
        rw [List.getElem?_set_self hiσ] at e2
        cases e2
        exact ⟨u, r, .inl ⟨hk, by simp⟩⟩
      · rw [List.getElem?_set_ne (Ne.symm hj)] at e2
        obtain ⟨u', r', q⟩ := hl j y v' e1 e2 e3
        refine ⟨u', r', ?_⟩
        rcases q with ⟨k, e⟩ | ⟨k, c, e, z⟩
        · refine .inl ⟨k, ?_⟩
          have : y ≠ x := fun e => hj (nodup_ix hN e1 (e ▸ hi))
          simp [this, e]
        · exact .inr ⟨k, c, e, z.sameBut hs (cne y c e)⟩
    · obtain ⟨w', z⟩ := I.cell y c e
      exact ⟨w', z.sameBut hs (cne y c e)⟩
    · obtain ⟨e, n, ne, nf, d⟩ := I.pin p hp
      exact ⟨(hs.2 p.1 ne).trans e, n, ne, nf, d⟩
  · have hfn : X.fn x = true := by
      rcases hf with z | z
      · exact z
      · rw [z] at hk; cases hk
    obtain ⟨c, hc⟩ := I.ok.has x (.inl hk)
    obtain ⟨w', z⟩ := I.cell x c hc
    refine wpAny_storeName_cell I.ok.kind hk hc z (fun h' hc' hs => ?_)
    obtain ⟨oc, hoc, hocd⟩ := id z
    refine h { s with heap := h' } ⟨I.ok, I.os, I.bare, ⟨fun b o e n hb hx => ?_, fun b o e n hb hx => ?_, I.base.free, fun b o e hx => ?_, I.base.tups, I.base.frzs, I.base.tbls⟩, ⟨m, hn.sameBut hs (Ne.symm (cne x c hc)), fun j y v' e1 e2 e3 => ?_⟩, fun y c' e => ?_, I.free, I.freeC, fun p hp => ?_, tracked ⟨oc, hoc, I.freeC x c hc⟩ hs, by simpa using I.len⟩ ⟨c, hs, .inr hc⟩
    · exact (hs.2 b (Nat.ne_of_lt (Nat.lt_of_lt_of_le (Heap.lt_size e) (I.ok.cab x c hfn hc)))).trans (I.base.keep b o e n hb hx)
    · obtain ⟨sl, e1⟩ := I.base.slot b o e n hb hx
      exact ⟨sl, (hs.2 b (Nat.ne_of_lt (Nat.lt_of_lt_of_le (Heap.lt_size e) (I.ok.cab x c hfn hc)))).trans e1⟩
    · obtain ⟨o', e1⟩ := I.base.there b o e hx
      exact ⟨o', (hs.2 b (Nat.ne_of_lt (Nat.lt_of_lt_of_le (Heap.lt_size e) (I.ok.cab x c hfn hc)))).trans e1⟩
    · by_cases hj : j = i
      · subst hj
        rw [hi] at e1; cases e1
        rw [List.getElem?_set_self hiσ] at e2
        cases e2
        exact ⟨u, r, .inr ⟨.inl hk, c, hc, hc'⟩⟩
      · rw [List.getElem?_set_ne (Ne.symm hj)] at e2
        obtain ⟨u', r', q⟩ := hl j y v' e1 e2 e3
        refine ⟨u', r', ?_⟩
        rcases q with q | ⟨k, c', e, z'⟩
        · exact .inl q
        · refine .inr ⟨k, c', e, z'.sameBut hs ?_⟩
          rintro rfl
          exact hj (nodup_ix hN e1 (I.ok.inj _ _ _ e hc ▸ hi))
    · by_cases hcc : c' = c
      · subst hcc; exact ⟨_, hc'⟩
      · obtain ⟨w2, z2⟩ := I.cell y c' e
        exact ⟨w2, z2.sameBut hs hcc⟩
    · obtain ⟨e, n, ne, nf, d⟩ := I.pin p hp
      refine ⟨(hs.2 p.1 ?_).trans e, n, ne, nf, d⟩
      intro q
      rw [q, hoc] at e
      have q' : oc = p.2 := Option.some.inj e
      exact d w' (by rw [← q']; exact hocd)
theorem store_ok {M : Model} {A : Around} {E : Value → Shared → Prop} {i : Nat} {x : Str} {v : V} {u : Value} {Q : Unit → Shared → Prop} (I : Inv X pins σ H s) (hN : X.N.Nodup) (hi : X.N[i]? = some x) (hx : Loc X.env.scope x) (r : RelV v u)
    (h : ∀ s', Inv X pins (σ.set i (some v)) H s' → Q () s') (hf : X.fn x = true ∨ X.env.scope.names.lookup x = some .local := by first | exact .inl rfl | exact .inr rfl | assumption) : wpAny M A (storeName X.env x u) Q E s :=
  store_ok2 I hN hi hx r (fun s' I' _ => h s' I') hf
theorem Inv.call' {s' : Shared} {ch : List Addr} (I : Inv X pins σ H s) (ho : s'.os = s.os) (u : Un (frs X.stack) ch H H' s.heap s'.heap) (hok : HOk X.prog X.w H' s'.heap) (hg : AllBare s'.gens)
    (hch : ∀ b ∈ ch, (b ∈ X.ex ∨ X.s₀.heap.objs.size ≤ b) ∧ b ≠ X.env.locals ∧ (∀ x c, X.env.cells.lookup x = some c → c ≠ b) ∧ ∀ p ∈ X.pn ++ pins, p.1 ≠ b) : Inv X pins σ H' s' := by
  obtain ⟨h', g', d', t', o'⟩ := s'
  have e : o' = s.os := ho
  subst e
  exact I.call (g' := g') (t' := t') (d' := d') u hok hg hch
end

noncomputable abbrev XK := Value → Option Addr → Hp → Prop
noncomputable abbrev St := List (Option V)
noncomputable abbrev VK := V → Hp → Prop
noncomputable abbrev TE := St → Hp → VK → Prop
noncomputable abbrev TT := St → Hp → (Bool → Hp → Prop) → Prop
noncomputable abbrev TA := St → Hp → (List V → Hp → Prop) → Prop
structure Ends where
  nx : St → Hp → Prop
  rt : VK
  bk : St → Hp → Prop := fun _ _ => False
  ct : St → Hp → Prop := fun _ _ => False
noncomputable abbrev TS := Ends → St → Hp → Prop

noncomputable def EP (X : Cx) (pins : List (Addr × Obj)) (σ : St) (Q : VK) (u : Value) (s' : Shared) : Prop := ∃ v H', Inv X pins σ H' s' ∧ RelV v u ∧ Q v H'
noncomputable def TP (X : Cx) (pins : List (Addr × Obj)) (σ : St) (Q : Bool → Hp → Prop) (b : Bool) (s' : Shared) : Prop := ∃ H', Inv X pins σ H' s' ∧ Q b H'
noncomputable def AP (X : Cx) (pins : List (Addr × Obj)) (σ : St) (Q : List V → Hp → Prop) (us : List Value) (s' : Shared) : Prop := ∃ vs H', Inv X pins σ H' s' ∧ Vals vs us ∧ Q vs H'
noncomputable def SP (X : Cx) (pins : List (Addr × Obj)) (D : Ends) (f : Flow) (s' : Shared) : Prop :=
  match f with
  | .next => ∃ σ' H', Inv X pins σ' H' s' ∧ D.nx σ' H'
  | .brk => ∃ σ' H', Inv X pins σ' H' s' ∧ D.bk σ' H'
  | .cont => ∃ σ' H', Inv X pins σ' H' s' ∧ D.ct σ' H'
  | .ret u => ∃ v σ' H', Inv X pins σ' H' s' ∧ RelV v u ∧ D.rt v H'

noncomputable def PE (X : Cx) (e : Expr) (t : TE) : Prop :=
  ∀ (pins : List (Addr × Obj)) (s : Shared) (σ : St) (H : Hp) (Q : VK), Inv X pins σ H s → t σ H Q → wpAny (model X.prog X.w) X.A (eval e X.env) (EP X pins σ Q) X.xe s
noncomputable def PT (X : Cx) (e : Expr) (t : TT) : Prop :=
  ∀ (pins : List (Addr × Obj)) (s : Shared) (σ : St) (H : Hp) (Q : Bool → Hp → Prop), Inv X pins σ H s → t σ H Q → wpAny (model X.prog X.w) X.A (isTrue e X.env (eval e X.env)) (TP X pins σ Q) X.xe s
noncomputable def PW (X : Cx) (e : Expr) (t : TT) : Prop :=
  ∀ (whole : Sem Value) (pins : List (Addr × Obj)) (s : Shared) (σ : St) (H : Hp) (Q : Bool → Hp → Prop), Inv X pins σ H s → t σ H Q → wpAny (model X.prog X.w) X.A (isTrue e X.env whole) (TP X pins σ Q) X.xe s
theorem PW.pt {X : Cx} {e : Expr} {t : TT} (h : PW X e t) : PT X e t := h _
noncomputable def PA (X : Cx) (es : List Expr) (t : TA) : Prop :=
  ∀ (pos : Pos) (pins : List (Addr × Obj)) (s : Shared) (σ : St) (H : Hp) (Q : List V → Hp → Prop), Inv X pins σ H s → t σ H Q → wpAny (model X.prog X.w) X.A (spliced (backTo pos (starEach es X.env))) (AP X pins σ Q) X.xe s
noncomputable def PS (X : Cx) (st : Stmt) (t : TS) : Prop :=
  ∀ (pins : List (Addr × Obj)) (s : Shared) (σ : St) (H : Hp) (D : Ends), Inv X pins σ H s → t D σ H → wpAny (model X.prog X.w) X.A (exec st X.env) (SP X pins D) X.xe s
noncomputable def PSs (X : Cx) (st : List Stmt) (t : TS) : Prop :=
  ∀ (pins : List (Addr × Obj)) (s : Shared) (σ : St) (H : Hp) (D : Ends), Inv X pins σ H s → t D σ H → wpAny (model X.prog X.w) X.A (execs st X.env) (SP X pins D) X.xe s
theorem thn {α : Type} {t : Sem α} {Q Q' : α → Shared → Prop} {M : Model} {A : Around} {E : Value → Shared → Prop} {s : Shared} (h : wpAny M A t Q E s) (hQ : ∀ a s, Q a s → Q' a s) : wpAny M A t Q' E s := wpAny_mono h hQ fun _ _ x => x
end L2

namespace L2
open PySem PySem.Spec PyProof.Rows
section
variable {X : Cx}

theorem bin {a b : Expr} {ta tb : TE} (ha : PE X a ta) (hb : PE X b tb) {pins : List (Addr × Obj)} {s : Shared} {σ : St} {H : Hp} {R : V → V → Hp → Prop} (I : Inv X pins σ H s) (h : ta σ H fun x H1 => tb σ H1 fun y H2 => R x y H2)
    {α : Type} {Q : α → Shared → Prop} {f : Value → Value → Sem α}
    (hf : ∀ v u s2 x y H2, Inv X pins σ H2 s2 → RelV x v → RelV y u → R x y H2 → wpAny (model X.prog X.w) X.A (f v u) Q X.xe s2) :
    wpAny (model X.prog X.w) X.A (eval a X.env) (fun v s₁ => wpAny (model X.prog X.w) X.A (eval b X.env) (fun u s₂ => wpAny (model X.prog X.w) X.A (f v u) Q X.xe s₂) X.xe s₁) X.xe s := by
  refine thn (ha pins s σ H _ I h) fun v s1 ⟨x, H1, I1, r1, q1⟩ => ?_
  refine thn (hb pins s1 σ H1 _ I1 q1) fun u s2 ⟨y, H2, I2, r2, q2⟩ => ?_
  exact hf v u s2 x y H2 I2 r1 r2 q2

noncomputable def tVar (i : Nat) : TE := fun σ H Q => ∃ v, σ[i]? = some (some v) ∧ Q v H
noncomputable def tC (v : V) : TE := fun _ H Q => Q v H
theorem pe_var {i : Nat} {x : Str} {pos : Pos} (hN : X.N[i]? = some x) (hv : Vis X.env.scope x) (hd : (x == ("__debug__" : Str)) = false := by decide) (hcd : (x == ("__classdict__" : Str)) = false := by decide) : PE X (.Name x pos) (tVar i) := by
  intro pins s σ H Q I h
  obtain ⟨v, e, h⟩ := h
  obtain ⟨m, hn, hl⟩ := I.loc
  obtain ⟨u, r, l⟩ := hl i x v hN e hv
  have fin : EP X pins σ Q u s := ⟨v, H, I, r, h⟩
  rcases l with ⟨hk, hm⟩ | ⟨hk, c, hc, hcell⟩
  · exact wpAny_Name (wpAny_loadName_local I.ok.kind hk hn hm fin) hd
  · rcases hk with hk | hk
    · exact wpAny_Name (wpAny_loadName_cell I.ok.kind hk hc hcell fin) hd
    · exact wpAny_Name (wpAny_loadName_free I.ok.kind hk hc hcell fin hcd) hd
theorem pe_int {i j pos} : PE X (.Constant (.int i) j pos) (tC (.int i)) := fun _ _ _ H _ I h => wpAny_Constant_int ⟨.int i, H, I.tok _, ⟨_, rfl⟩, h⟩
theorem pe_bl {b j pos} : PE X (.Constant (.bool b) j pos) (tC (.bl b)) := fun _ _ _ H _ I h => Constant_bool ⟨.bl b, H, I, rfl, h⟩
theorem pe_non {j pos} : PE X (.Constant .none j pos) (tC .non) := fun _ _ _ H _ I h => Constant_none ⟨.non, H, I, rfl, h⟩
theorem pe_str {x j pos} : PE X (.Constant (.str x) j pos) (tC (.str x)) := fun _ _ _ H _ I h => Calls.Constant_str ⟨.str x, H, I.tok _, ⟨_, rfl⟩, h⟩

noncomputable def Gl (X : Cx) (x : Str) : Prop := X.env.kindOf x = some .globalImplicit
theorem ld_glob {E : Value → Shared → Prop} {pins : List (Addr × Obj)} {s : Shared} {σ : St} {H : Hp} {x : Str} {u : Value} {pos : Pos} {Q : Value → Shared → Prop} (I : Inv X pins σ H s) (hg : Gl X x) (hm : X.mg x = some u) (h : Q u s)
    (hd : (x == ("__debug__" : Str)) = false := by decide) : wpAny (model X.prog X.w) X.A (eval (.Name x pos) X.env) Q E s :=
  Calls.Name_function_global I.ok.kind hg (Calls.loadGlobal_global (by rw [I.ok.glob]; exact I.mod.glob.keeps I.bk) hm h) hd
theorem ld_blt {E : Value → Shared → Prop} {pins : List (Addr × Obj)} {s : Shared} {σ : St} {H : Hp} {x : Str} {u : Value} {pos : Pos} {Q : Value → Shared → Prop} (I : Inv X pins σ H s) (hg : Gl X x) (hm : X.mg x = none) (hv : bootBuiltins x = some u) (h : Q u s)
    (hn : x ≠ "__name__" := by decide) (hd : (x == ("__debug__" : Str)) = false := by decide) : wpAny (model X.prog X.w) X.A (eval (.Name x pos) X.env) Q E s := by
  obtain ⟨mb, h1, h2⟩ := I.mod.blt
  exact Calls.Name_function_global I.ok.kind hg (Calls.loadGlobal_builtin (by rw [I.ok.glob]; exact I.mod.glob.keeps I.bk) hm (by rw [I.ok.blt]; exact h1.keeps I.bk) ((h2 x hn).trans hv) h) hd
theorem pe_glob {x : Str} {v : V} {u : Value} {pos : Pos} (hg : Gl X x) (hm : X.mg x = some u) (r : RelV v u) (hd : (x == ("__debug__" : Str)) = false := by decide) : PE X (.Name x pos) (tC v) :=
  fun _ _ _ H _ I h => ld_glob I hg hm ⟨v, H, I, r, h⟩ hd
theorem pe_bltn {x : Str} {v : V} {u : Value} {pos : Pos} (hg : Gl X x) (hm : X.mg x = none) (hv : bootBuiltins x = some u) (r : RelV v u) (hn : x ≠ "__name__" := by decide) (hd : (x == ("__debug__" : Str)) = false := by decide) : PE X (.Name x pos) (tC v) :=
  fun _ _ _ H _ I h => ld_blt I hg hm hv ⟨v, H, I, r, h⟩ hn hd

variable {a b : Expr} {ta tb : TE} {pos : Pos}
variable {tA tB' : TT} {rest : List Expr}
noncomputable def tAnd (t u : TT) : TT := fun σ H Q => t σ H fun c H1 => if c = true then u σ H1 Q else Q false H1
noncomputable def tOr (t u : TT) : TT := fun σ H Q => t σ H fun c H1 => if c = true then Q true H1 else u σ H1 Q
noncomputable def tNot (t : TT) : TT := fun σ H Q => t σ H fun c H1 => Q (!c) H1
theorem pw_and1 (ha : PT X a tA) : PW X (.BoolOp .And [a] pos) tA := by
  intro wh pins s σ H Q I h
  refine isTrue_and (thn (ha pins s σ H Q I h) fun c s1 e => ?_)
  cases c with
  | true => exact isTrue_and_nil e
  | false => exact e
theorem pw_or1 (ha : PT X a tA) : PW X (.BoolOp .Or [a] pos) tA := by
  intro wh pins s σ H Q I h
  refine isTrue_or (thn (ha pins s σ H Q I h) fun c s1 e => ?_)
  cases c with
  | false => exact isTrue_or_nil e
  | true => exact e
theorem pw_and (ha : PT X a tA) (hb : PW X (.BoolOp .And (b :: rest) pos) tB') : PW X (.BoolOp .And (a :: b :: rest) pos) (tAnd tA tB') := by
  intro wh pins s σ H Q I h
  refine isTrue_and (thn (ha pins s σ H _ I h) fun c s1 ⟨H1, I1, q1⟩ => ?_)
  cases c with
  | true => exact hb wh pins s1 σ H1 Q I1 q1
  | false => exact ⟨H1, I1, q1⟩
theorem pw_or (ha : PT X a tA) (hb : PW X (.BoolOp .Or (b :: rest) pos) tB') : PW X (.BoolOp .Or (a :: b :: rest) pos) (tOr tA tB') := by
  intro wh pins s σ H Q I h
  refine isTrue_or (thn (ha pins s σ H _ I h) fun c s1 ⟨H1, I1, q1⟩ => ?_)
  cases c with
  | true => exact ⟨H1, I1, q1⟩
  | false => exact hb wh pins s1 σ H1 Q I1 q1
theorem pt_not (ha : PT X a tA) : PT X (.UnaryOp .Not a pos) (tNot tA) := by
  intro pins s σ H Q I h
  exact isTrue_not (ha pins s σ H (fun c H1 => Q (!c) H1) I h)
noncomputable def tAndV (ta tb : TE) : TE := fun σ H Q => ta σ H fun x H1 => ∃ c, x = .bl c ∧ if c = true then tb σ H1 Q else Q (.bl false) H1
noncomputable def tOrV (ta tb : TE) : TE := fun σ H Q => ta σ H fun x H1 => ∃ c, x = .bl c ∧ if c = true then Q (.bl true) H1 else tb σ H1 Q
theorem pe_one {op} {t : TE} (h : PE X a t) : PE X (.BoolOp op [a] pos) t := fun pins s σ H Q I hw => BoolOp_one (h pins s σ H Q I hw)
theorem pe_and (ha : PE X a ta) (hb : PE X (.BoolOp .And (b :: rest) pos) tb) : PE X (.BoolOp .And (a :: b :: rest) pos) (tAndV ta tb) := by
  intro pins s σ H Q I h
  refine BoolOp_and (thn (ha pins s σ H _ I h) fun v s1 ⟨x, H1, I1, r1, q1⟩ => ?_)
  obtain ⟨c, rfl, q1⟩ := q1
  cases r1
  refine wpAny_truthy_bool ?_
  cases c with
  | true => exact hb pins s1 σ H1 Q I1 q1
  | false => exact ⟨.bl false, H1, I1, rfl, q1⟩
theorem pe_or (ha : PE X a ta) (hb : PE X (.BoolOp .Or (b :: rest) pos) tb) : PE X (.BoolOp .Or (a :: b :: rest) pos) (tOrV ta tb) := by
  intro pins s σ H Q I h
  refine BoolOp_or (thn (ha pins s σ H _ I h) fun v s1 ⟨x, H1, I1, r1, q1⟩ => ?_)
  obtain ⟨c, rfl, q1⟩ := q1
  cases r1
  refine wpAny_truthy_bool ?_
  cases c with
  | false => exact hb pins s1 σ H1 Q I1 q1
  | true => exact ⟨.bl true, H1, I1, rfl, q1⟩
noncomputable def tIf (t : TT) (ta tb : TE) : TE := fun σ H Q => t σ H fun c H1 => if c = true then ta σ H1 Q else tb σ H1 Q
theorem pe_ifExp {c : Expr} (hc : PT X c tA) (ha : PE X a ta) (hb : PE X b tb) : PE X (.IfExp c a b pos) (tIf tA ta tb) := by
  intro pins s σ H Q I h
  refine wpAny_IfExp (thn (hc pins s σ H _ I h) fun d s1 ⟨H1, I1, q1⟩ => ?_)
  cases d with
  | true => exact ha pins s1 σ H1 Q I1 q1
  | false => exact hb pins s1 σ H1 Q I1 q1
end
end L2

namespace L2
open PySem PySem.Spec PyProof.Rows

noncomputable def SqL (K : PySem.W.Frag) (H : Hp) (a : Addr) (xs : List V) : Prop :=
  Rd H a (.lst xs) ∨
    ∃ (o : Obj) (its : Array Value) (n : Nat), K.lookup a = some o ∧ o.cls = .type "list" ∧ o.dict = none ∧ o.data = .seq its n ∧ its.size ≤ sizeLine ∧ Vals xs its.toList
noncomputable def SqT (K : PySem.W.Frag) (H : Hp) (a : Addr) (xs : List V) : Prop :=
  Rd H a (.tup xs) ∨
    ∃ (o : Obj) (its : Array Value) (n : Nat), K.lookup a = some o ∧ o.cls = .type "tuple" ∧ o.data = .seq its n ∧ its.size ≤ sizeLine ∧ Vals xs its.toList
noncomputable def absV : Value → Option V
  | .none => some .non
  | .bool b => some (.bl b)
  | .int i _ => some (.int i)
  | .str x _ => some (.str x)
  | .bytes b _ => some (.byt b)
  | .float b _ => some (.flt b)
  | .ref a => some (.ref a)
  | .type n => some (.ty n)
  | _ => none
theorem RelV.abs {x : V} {u : Value} (r : RelV x u) : absV u = some x := by
  cases x with
  | non => cases r; rfl
  | bl _ => cases r; rfl
  | int _ => obtain ⟨t, rfl⟩ := r; rfl
  | str _ => obtain ⟨t, rfl⟩ := r; rfl
  | byt _ => obtain ⟨t, rfl⟩ := r; rfl
  | flt _ => obtain ⟨t, rfl⟩ := r; rfl
  | ref _ => cases r; rfl
  | ty _ => cases r; rfl
theorem RelV.inj {x y : V} {u : Value} (r : RelV x u) (q : RelV y u) : x = y := Option.some.inj (r.abs.symm.trans q.abs)
theorem Vals.inj : ∀ {xs ys : List V} {us : List Value}, Vals xs us → Vals ys us → xs = ys
  | _, _, _, .nil, .nil => rfl
  | _, _, _, .cons r t, .cons r' t' => by rw [r.inj r', Vals.inj t t']
section
variable {X : Cx} {pins : List (Addr × Obj)} {σ : St} {H : Hp} {s : Shared} {a : Addr} {xs ys : List V}
theorem SqL.of {K : PySem.W.Frag} (h : H a = some (.lst xs)) : SqL K H a xs := .inl (.inl h)
theorem SqT.of {K : PySem.W.Frag} (h : H a = some (.tup xs)) : SqT K H a xs := .inl (.inl h)
theorem Inv.list (I : Inv X pins σ H s) (h : SqL X.K H a xs) : ∃ its : List Value, Vals xs its ∧ PlainL s.heap a its.toArray ∧ xs.length ≤ sizeLine := by
  rcases h with h | ⟨o, its, n, hk, hc, hd, hs, hz, r⟩
  · obtain ⟨z, its, n, r, e⟩ := h.ok I.hok
    exact ⟨its, r, ⟨_, n, e, rfl, rfl, rfl⟩, z⟩
  · refine ⟨its.toList, r, ⟨o, n, I.kIn a o hk, hc, hd, by simpa using hs⟩, ?_⟩
    have e := r.length
    simp only [Array.length_toList] at e
    omega
theorem Inv.tuple (I : Inv X pins σ H s) (h : SqT X.K H a xs) : ∃ its : List Value, Vals xs its ∧ IsTup s.heap a its.toArray ∧ xs.length ≤ sizeLine := by
  rcases h with h | ⟨o, its, n, hk, hc, hs, hz, r⟩
  · obtain ⟨z, its, r, p⟩ := h.ok I.hok
    exact ⟨its, r, p, z⟩
  · refine ⟨its.toList, r, ⟨o, I.kIn a o hk, hc, n, by simpa using hs⟩, ?_⟩
    have e := r.length
    simp only [Array.length_toList] at e
    omega
theorem Inv.list_inj (I : Inv X pins σ H s) (h : SqL X.K H a xs) (h' : SqL X.K H a ys) : xs = ys := by
  obtain ⟨its, r, ⟨o, n, e, _, _, d⟩, _⟩ := I.list h
  obtain ⟨its', r', ⟨o', n', e', _, _, d'⟩, _⟩ := I.list h'
  rw [e] at e'; cases e'
  rw [d] at d'
  injection d' with d1 _
  have : its = its' := by simpa using congrArg Array.toList d1
  subst this
  exact r.inj r'
theorem Inv.tuple_inj (I : Inv X pins σ H s) (h : SqT X.K H a xs) (h' : SqT X.K H a ys) : xs = ys := by
  obtain ⟨its, r, ⟨o, e, _, n, d⟩, _⟩ := I.tuple h
  obtain ⟨its', r', ⟨o', e', _, n', d'⟩, _⟩ := I.tuple h'
  rw [e] at e'; cases e'
  rw [d] at d'
  injection d' with d1 _
  have : its = its' := by simpa using congrArg Array.toList d1
  subst this
  exact r.inj r'
end

noncomputable abbrev Cx.wish (X : Cx) (E : Value → Shared → Prop) : Cx := { X with xe := E }
noncomputable abbrev Cx.nox (X : Cx) : Cx := X.wish fun _ _ => False
theorem Cx.Ok.wish {X : Cx} (ok : X.Ok) (E : Value → Shared → Prop) : (X.wish E).Ok :=
  ⟨ok.mod, ok.kind, ok.glob, ok.blt, ok.above, ok.inj, ok.has, ok.cab, ok.hd, ok.frames, ok.stk, ok.exf, ok.bs, ok.bsz, ok.noex, ok.exfs, ok.funs, ok.frf⟩
theorem Cx.Ok.unwish {X : Cx} {E : Value → Shared → Prop} (ok : (X.wish E).Ok) : X.Ok :=
  ⟨ok.mod, ok.kind, ok.glob, ok.blt, ok.above, ok.inj, ok.has, ok.cab, ok.hd, ok.frames, ok.stk, ok.exf, ok.bs, ok.bsz, ok.noex, ok.exfs, ok.funs, ok.frf⟩
section
variable {X : Cx} {pins : List (Addr × Obj)} {σ : St} {H : Hp} {s : Shared} {E : Value → Shared → Prop}
theorem Inv.wish (I : Inv X pins σ H s) (E : Value → Shared → Prop) : Inv (X.wish E) pins σ H s := ⟨I.ok.wish E, I.os, I.bare, I.base, I.loc, I.cell, I.free, I.freeC, I.pin, I.hok, I.len⟩
theorem Inv.unwish (I : Inv (X.wish E) pins σ H s) : Inv X pins σ H s := ⟨I.ok.unwish, I.os, I.bare, I.base, I.loc, I.cell, I.free, I.freeC, I.pin, I.hok, I.len⟩
theorem SP.unwish {D : Ends} {f : Flow} {s' : Shared} (h : SP (X.wish E) pins D f s') : SP X pins D f s' := by
  cases f with
  | next => obtain ⟨σ', H', I, q⟩ := h; exact ⟨σ', H', I.unwish, q⟩
  | brk => obtain ⟨σ', H', I, q⟩ := h; exact ⟨σ', H', I.unwish, q⟩
  | cont => obtain ⟨σ', H', I, q⟩ := h; exact ⟨σ', H', I.unwish, q⟩
  | ret u => obtain ⟨v, σ', H', I, r, q⟩ := h; exact ⟨v, σ', H', I.unwish, r, q⟩
theorem PE.nox {e : Expr} {t : TE} (h : PE X.nox e t) : PE X e t := fun pins s σ H Q I hw =>
  wpAny_mono (h pins s σ H Q (I.wish _) hw) (fun _ _ ⟨v, H', I', r, q⟩ => ⟨v, H', I'.unwish, r, q⟩) fun _ _ z => False.elim z
theorem PT.nox {e : Expr} {t : TT} (h : PT X.nox e t) : PT X e t := fun pins s σ H Q I hw =>
  wpAny_mono (h pins s σ H Q (I.wish _) hw) (fun _ _ ⟨H', I', q⟩ => ⟨H', I'.unwish, q⟩) fun _ _ z => False.elim z
theorem PSs.nox {st : List Stmt} {t : TS} (h : PSs X.nox st t) : PSs X st t := fun pins s σ H D I hw =>
  wpAny_mono (h pins s σ H D (I.wish _) hw) (fun _ _ q => q.unwish) fun _ _ z => False.elim z
end

section
variable {X : Cx} {st : Stmt} {rest : List Stmt} {t u : TS} {e : Expr} {te : TE} {pos : Pos}
noncomputable def tNext : TS := fun D σ H => D.nx σ H
noncomputable def tSeq (t u : TS) : TS := fun D σ H => t { D with nx := u D } σ H
theorem pss_nil : PSs X [] tNext := fun _ _ σ H _ I h => wpAny_execs_nil ⟨σ, H, I, h⟩
theorem pss_cons (h1 : PS X st t) (h2 : PSs X rest u) : PSs X (st :: rest) (tSeq t u) := by
  intro pins s σ H D I h
  refine wpAny_execs_cons (thn (h1 pins s σ H { D with nx := u D } I h) fun f s1 q => ?_)
  cases f with
  | next =>
    obtain ⟨σ', H', I', q⟩ := q
    exact h2 pins s1 σ' H' D I' q
  | ret v => exact q
  | brk => exact q
  | cont => exact q
noncomputable def tBreak : TS := fun D σ H => D.bk σ H
noncomputable def tCont : TS := fun D σ H => D.ct σ H
theorem ps_pass : PS X (.Pass pos) tNext := fun _ _ σ H _ I h => wpAny_Pass ⟨σ, H, I, h⟩
theorem ps_break : PS X (.Break pos) tBreak := fun _ _ σ H _ I h => wpAny_Break ⟨σ, H, I, h⟩
theorem ps_continue : PS X (.Continue pos) tCont := fun _ _ σ H _ I h => wpAny_Continue ⟨σ, H, I, h⟩
theorem Inv.quiet {pins : List (Addr × Obj)} {σ : St} {H : Hp} {s : Shared} (I : Inv X pins σ H s) : interactive X.env = false := by simp [interactive, I.ok.kind]
noncomputable def tDrop (te : TE) : TS := fun D σ H => te σ H fun _ H1 => D.nx σ H1
theorem ps_expr (he : PE X e te) (hs : swapsWith e none pos.line X.env = pure false := by rfl) : PS X (.Expr e pos) (tDrop te) := by
  intro pins s σ H D I h
  exact wpAny_Expr_any (thn (he pins s σ H _ I h) fun v s1 ⟨x, H1, I1, r1, q1⟩ => ⟨σ, H1, I1, q1⟩) I.quiet hs
noncomputable def tRet (te : TE) : TS := fun D σ H => te σ H D.rt
theorem ps_ret (he : PE X e te) : PS X (.Return (some e) pos) (tRet te) := by
  intro pins s σ H D I h
  exact wpAny_Return_some (thn (he pins s σ H _ I h) fun v s1 ⟨x, H1, I1, r1, q1⟩ => ⟨x, σ, H1, I1, r1, q1⟩)
noncomputable def tRetN : TS := fun D _ H => D.rt .non H
theorem ps_retN : PS X (.Return none pos) tRetN := fun _ _ σ H _ I h => wpAny_Return_none ⟨.non, σ, H, I, rfl, h⟩
noncomputable def tIfS (c : TT) (t u : TS) : TS := fun D σ H => c σ H fun b H1 => if b = true then t D σ H1 else u D σ H1
theorem ps_if {c : Expr} {a b : List Stmt} {tc : TT} (hc : PT X c tc) (ha : PSs X a t) (hb : PSs X b u) : PS X (.If c a b pos) (tIfS tc t u) := by
  intro pins s σ H D I h
  refine wpAny_If (thn (hc pins s σ H _ I h) fun d s1 ⟨H1, I1, q1⟩ => ?_)
  cases d with
  | true => exact ha pins s1 σ H1 D I1 q1
  | false => exact hb pins s1 σ H1 D I1 q1
end

noncomputable abbrev TG := V → St → Hp → (St → Hp → Prop) → Prop
noncomputable abbrev TGs := List V → St → Hp → (St → Hp → Prop) → Prop
noncomputable def PG (X : Cx) (target : Expr) (t : TG) : Prop :=
  ∀ (pins : List (Addr × Obj)) (s : Shared) (σ : St) (H : Hp) (v : V) (u : Value) (Q : St → Hp → Prop), Inv X pins σ H s → RelV v u → t v σ H Q →
    wpAny (model X.prog X.w) X.A (assign target X.env u) (fun _ s' => ∃ σ' H', Inv X pins σ' H' s' ∧ Q σ' H') X.xe s
noncomputable def PGs (X : Cx) (ts : List Expr) (t : TGs) : Prop :=
  ∀ (pins : List (Addr × Obj)) (s : Shared) (σ : St) (H : Hp) (vs : List V) (us : List Value) (Q : St → Hp → Prop), Inv X pins σ H s → Vals vs us → t vs σ H Q →
    wpAny (model X.prog X.w) X.A (assignInOrder ((assignEach ts X.env).map (·.2)) us) (fun _ s' => ∃ σ' H', Inv X pins σ' H' s' ∧ Q σ' H') X.xe s
noncomputable abbrev TSet := V → V → V → Hp → (Hp → Prop) → Prop
noncomputable def PSet (X : Cx) (t : TSet) : Prop :=
  ∀ (pins : List (Addr × Obj)) (s : Shared) (σ : St) (H : Hp) (o i v : V) (ov iv u : Value) (Q : Hp → Prop), Inv X pins σ H s → RelV o ov → RelV i iv → RelV v u → t o i v H Q →
    wpAny (model X.prog X.w) X.A (setItem ov iv u) (fun _ s' => ∃ H', Inv X pins σ H' s' ∧ Q H') X.xe s
section
variable {X : Cx} {pos : Pos}
noncomputable def gName (i : Nat) : TG := fun v σ H Q => Q (σ.set i (some v)) H
theorem pg_name {i : Nat} {x : Str} (hN : X.N.Nodup) (hi : X.N[i]? = some x) (hx : Loc X.env.scope x) (hf : X.fn x = true ∨ X.env.scope.names.lookup x = some .local := by first | exact .inl rfl | exact .inr rfl | assumption) : PG X (.Name x pos) (gName i) := by
  intro pins s σ H v u Q I r h
  exact wpAny_assign_Name (store_ok I hN hi hx r (fun s' I' => ⟨_, H, I', h⟩) hf)
noncomputable def gNil : TGs := fun vs σ H Q => vs = [] ∧ Q σ H
noncomputable def gCons (t : TG) (u : TGs) : TGs := fun vs σ H Q => ∃ v r, vs = v :: r ∧ t v σ H fun σ' H' => u r σ' H' Q
theorem pgs_nil : PGs X [] gNil := by
  intro pins s σ H vs us Q I r h
  obtain ⟨e, h⟩ := h
  subst e
  cases r
  exact assignInOrder_nil ⟨σ, H, I, h⟩
theorem pgs_cons {e : Expr} {es : List Expr} {t : TG} {u : TGs} (h1 : PG X e t) (h2 : PGs X es u)
    (hs : (assignEach (e :: es) X.env).map (·.2) = assign e X.env :: (assignEach es X.env).map (·.2) := by rfl) : PGs X (e :: es) (gCons t u) := by
  intro pins s σ H vs us Q I r h
  obtain ⟨v, vr, e1, h⟩ := h
  subst e1
  cases r with
  | cons r rr =>
    rw [hs]
    refine assignInOrder_cons (thn (h1 pins s σ H _ _ _ I r h) fun _ s1 ⟨σ1, H1, I1, q1⟩ => ?_)
    exact h2 pins s1 σ1 H1 _ _ Q I1 rr q1
noncomputable def gTup (K : PySem.W.Frag) (n : Nat) (t : TGs) : TG := fun v σ H Q => ∃ a xs, v = .ref a ∧ SqT K H a xs ∧ xs.length = n ∧ t xs σ H Q
theorem pg_tup {es : List Expr} {k : Nat} {t : TGs} {n : Nat} (hc : X.calm = true) (h : PGs X es t)
    (hn : (assignEach es X.env).length = n := by rfl) (hst : (assignEach es X.env).findIdx? (·.1) = none := by rfl) : PG X (.Tuple es k pos) (gTup X.K n t) := by
  intro pins s σ H v u Q I r hw
  obtain ⟨a, xs, e1, hq, hl, hw⟩ := hw
  subst e1
  cases r
  obtain ⟨its, rv, ht, hz⟩ := I.tuple hq
  refine assign_Tuple_tuple (I.ok.hd hc) ht (by simp [hn, ← hl, rv.length]) hst fun h' hx => ?_
  have I1 : Inv X pins σ H { s with heap := h' } := I.kept (t' := s.toks) fun b o e => hx b o (Nat.ne_of_lt (Heap.lt_size e)) e
  exact h pins _ σ H xs _ Q I1 (by simpa using rv) hw
noncomputable def gSub (to ti : TE) (t : TSet) : TG := fun v σ H Q => to σ H fun o H1 => ti σ H1 fun i H2 => t o i v H2 fun H3 => Q σ H3
theorem pg_sub {o i : Expr} {to ti : TE} {t : TSet} (ho : PE X o to) (hi : PE X i ti) (hs : PSet X t)
    (ha : ∀ v, assign (.Subscript o i pos) X.env v = (do
      let ov ← holding [v] (eval o X.env)
      let iv ← holding [v, ov] (eval i X.env)
      standAt pos
      holding [v, ov, iv] (setItem ov iv v)
      release [v, ov, iv] []) := by intro _; rfl) : PG X (.Subscript o i pos) (gSub to ti t) := by
  intro pins s σ H v u Q I r h
  rw [ha]
  refine wpAny_bind (wpAny_holding (thn (ho pins s σ H _ I h) fun ov s1 ⟨x, H1, I1, r1, q1⟩ => ?_))
  refine wpAny_bind (wpAny_holding (thn (hi pins s1 σ H1 _ I1 q1) fun iv s2 ⟨y, H2, I2, r2, q2⟩ => ?_))
  refine wpAny_bind (wpAny_standAt (wpAny_bind (wpAny_holding (thn (hs pins s2 σ H2 x y v ov iv u _ I2 r1 r2 r q2) fun _ s3 ⟨H3, I3, q3⟩ => ?_))))
  exact wpAny_release ⟨σ, H3, I3, q3⟩
noncomputable def tAsg (te : TE) (g : TG) : TS := fun D σ H => te σ H fun x H1 => g x σ H1 D.nx
theorem ps_asg {tg e : Expr} {te : TE} {g : TG} (he : PE X e te) (hg : PG X tg g) (hs : swapsWithSole [tg] e pos.line X.env = pure false := by rfl) (hw : swappedStores [tg] e X.env = pure none := by rfl)
    (h1 : (assignEach [tg] X.env).map (·.2) = [assign tg X.env] := by rfl) : PS X (.Assign [tg] e pos) (tAsg te g) := by
  intro pins s σ H D I h
  refine wpAny_Assign_stores (thn (he pins s σ H _ I h) fun v s1 ⟨x, H1, I1, r1, q1⟩ => ?_) hs hw
  rw [h1]
  exact thn (hg pins s1 σ H1 x v _ I1 r1 q1) fun _ s2 q => q
theorem ps_set {i : Nat} {x : Str} {e : Expr} {te : TE} {pos' : Pos} (hN : X.N.Nodup) (hi : X.N[i]? = some x) (hx : Loc X.env.scope x) (he : PE X e te) (hs : swapsWith e (some (.Name x pos')) pos.line X.env = pure false := by rfl) (hf : X.fn x = true ∨ X.env.scope.names.lookup x = some .local := by first | exact .inl rfl | exact .inr rfl | assumption) :
    PS X (.Assign [.Name x pos'] e pos) (tAsg te (gName i)) := by
  intro pins s σ H D I h
  refine wpAny_Assign_Name (thn (he pins s σ H _ I h) fun v s1 ⟨y, H1, I1, r1, q1⟩ => ?_) hs
  exact store_ok I1 hN hi hx r1 (fun s2 I2 => ⟨_, H1, I2, q1⟩) hf
end

section
variable {X : Cx} {pos : Pos}
noncomputable def tWhile (c : TT) (tb : TS) : TS := fun D σ H => ∃ W : Nat → St → Hp → Prop, (∃ m, W m σ H) ∧ ∀ m σ H, W m σ H →
  c σ H fun b H1 => if b = true then ∃ N : St → Hp → Prop, (∀ σ' H', N σ' H' → ∃ m', m' < m ∧ W m' σ' H') ∧ tb { D with nx := N, ct := N, bk := D.nx } σ H1 else D.nx σ H1
theorem ps_while {c : Expr} {body : List Stmt} {tc : TT} {tb : TS} (hp : PassesOwn (model X.prog X.w) X.A X.env X.xe) (hc : PT X c tc) (hb : PSs X body tb) : PS X (.While c body [] pos) (tWhile tc tb) := by
  intro pins s σ H D I h
  obtain ⟨W, ⟨m0, w0⟩, turn⟩ := h
  refine wpAny_While (codeAny_whileLoop (fun n s' => ∃ σ' H', Inv X pins σ' H' s' ∧ W n σ' H') ?_ m0 ⟨σ, H, I, w0⟩)
  rintro n s1 ⟨σ1, H1, I1, w1⟩
  refine wpAny_passesOwn hp (thn (hc pins s1 σ1 H1 _ I1 (turn n σ1 H1 w1)) fun b s2 ⟨H2, I2, q2⟩ => ?_)
  cases b with
  | true =>
    obtain ⟨N, hN, q2⟩ := q2
    rw [if_pos rfl]
    refine wpAny_passesOwn hp (thn (hb pins s2 σ1 H2 _ I2 q2) fun f s3 q3 => ?_)
    cases f with
    | next =>
      obtain ⟨σ3, H3, I3, n3⟩ := q3
      obtain ⟨m', hm, w3⟩ := hN σ3 H3 n3
      exact ⟨m', hm, σ3, H3, I3, w3⟩
    | cont =>
      obtain ⟨σ3, H3, I3, n3⟩ := q3
      obtain ⟨m', hm, w3⟩ := hN σ3 H3 n3
      exact ⟨m', hm, σ3, H3, I3, w3⟩
    | brk => exact q3
    | ret v => exact q3
  | false =>
    rw [if_neg Bool.false_ne_true]
    exact wpAny_execs_nil ⟨σ1, H2, I2, q2⟩
end

structure It where
  go : Nat → Hp → Prop
  yld : Nat → Hp → V → Hp → Prop
  stop : Nat → Hp → Prop
noncomputable def FpOk (X : Cx) (pins : List (Addr × Obj)) (H : Hp) (b : Addr) : Prop :=
  H b = none ∧ b ≠ X.env.locals ∧ b ∉ X.fs ∧ (b ∈ X.ex ∨ X.s₀.heap.objs.size ≤ b) ∧ (∀ x c, X.env.cells.lookup x = some c → c ≠ b) ∧ ∀ p ∈ X.pn ++ pins, p.1 ≠ b
theorem Inv.fpOk {X : Cx} {pins : List (Addr × Obj)} {σ : St} {H H' : Hp} {s : Shared} {b : Addr} (I : Inv X pins σ H s) (hb : s.heap.objs.size ≤ b) (hn : H' b = none) : FpOk X pins H' b := by
  refine ⟨hn, Nat.ne_of_gt (Nat.lt_of_lt_of_le I.lt hb), I.nofs hb, .inr (Nat.le_trans I.sz hb), fun x c e z => ?_, fun p hp z => ?_⟩
  · obtain ⟨v, q⟩ := I.cell x c e
    exact absurd (Nat.lt_of_lt_of_le q.lt (by rw [z]; exact hb)) (Nat.lt_irrefl _)
  · exact absurd (Nat.lt_of_lt_of_le (Heap.lt_size (I.pin p hp).1) (by rw [z]; exact hb)) (Nat.lt_irrefl _)
structure Turn (P : Program) (w : World) (K : PySem.W.Frag) (tg : Expr) (J : It) (fp : List Addr) (it : Addr) (tn : Nat → Heap → Prop) : Prop where
  mem : it ∈ fp
  obj : ∀ i h, tn i h → ∀ b ∈ fp, ∃ o, h.get? b = some o ∧ ∀ v, o.data ≠ .cell v
  keep : ∀ i h h', tn i h → (∀ b ∈ fp, ∀ o, h.get? b = some o → h'.get? b = some o) → tn i h'
  item : ∀ (X : Cx), X.prog = P → X.w = w → X.K = K → X.calm = true → ∀ (i : Nat) (pins : List (Addr × Obj)) (s : Shared) (σ : St) (H : Hp) (E : Value → Shared → Prop), Inv X pins σ H s → (∀ b ∈ fp, FpOk X pins H b) → tn i s.heap → J.go i H →
    wpAny (model P w) X.A (pyNext (.ref it)) (fun r s1 => ∃ u, r = some u ∧
      wpAny (model P w) X.A (letOwnedTupleGo tg (.ref it) u) (fun _ s2 => ∃ x H', Inv X pins σ H' s2 ∧ RelV x u ∧ J.yld i H x H' ∧ tn (i + 1) s2.heap ∧ ∀ b ∈ fp, H' b = none) E s1) E s
  done : ∀ (X : Cx), X.prog = P → X.w = w → X.K = K → X.calm = true → ∀ (i : Nat) (pins : List (Addr × Obj)) (s : Shared) (σ : St) (H : Hp) (E : Value → Shared → Prop), Inv X pins σ H s → (∀ b ∈ fp, FpOk X pins H b) → tn i s.heap → J.stop i H →
    wpAny (model P w) X.A (pyNext (.ref it)) (fun r s1 => r = none ∧ Inv X pins σ H s1) E s
  self : ∀ (A : Around) (i : Nat) (s : Shared) (Q : Value → Shared → Prop) (E : Value → Shared → Prop), tn i s.heap → Q (.ref it) s → wpAny (model P w) A (pyIter (.ref it)) Q E s
noncomputable abbrev TI := St → Hp → (It → Hp → Prop) → Prop
noncomputable def PIE (X : Cx) (pins : List (Addr × Obj)) (σ : St) (tg : Expr) (R : It → Hp → Prop) (itv : Value) (s2 : Shared) : Prop :=
  ∃ (it : Addr) (fp : List Addr) (tn : Nat → Heap → Prop) (J : It) (H' : Hp), itv = .ref it ∧ Inv X pins σ H' s2 ∧ Turn X.prog X.w X.K tg J fp it tn ∧ tn 0 s2.heap ∧ (∀ b ∈ fp, FpOk X pins H' b) ∧ R J H'
noncomputable def PI (X : Cx) (tg iter : Expr) (wi : TI) : Prop :=
  ∀ (pins : List (Addr × Obj)) (s : Shared) (σ : St) (H : Hp) (R : It → Hp → Prop), Inv X pins σ H s → wi σ H R →
    wpAny (model X.prog X.w) X.A (eval iter X.env) (fun v s1 => wpAny (model X.prog X.w) X.A (pyIter v) (PIE X pins σ tg R) X.xe s1) X.xe s

theorem go_of {M : Model} {A : Around} {E : Value → Shared → Prop} {s : Shared} {tg : Expr} {it : Addr} {u : Value} {o : Obj} {n : String} {vs : Array Value} {Q : Unit → Shared → Prop} (ho : s.heap.get? it = some o) (hc : o.cls = .type n) (hd : o.data = .fields vs)
    (hn : ["enumerate", "zip", "dict_itemiterator", "dict_reverseitemiterator", "odict_iterator", "itertools.zip_longest", "itertools.pairwise"].contains n = false) (hQ : Q () s) : wpAny M A (letOwnedTupleGo tg (.ref it) u) Q E s := by
  unfold letOwnedTupleGo
  cases tg <;> first
    | exact wpAny_pure hQ
    | (cases u <;> first
        | exact wpAny_pure hQ
        | (refine wpAny_bind (wpAny_load ho ?_)
           rw [hc, hd]
           show wpAny M A (if (["enumerate", "zip", "dict_itemiterator", "dict_reverseitemiterator", "odict_iterator", "itertools.zip_longest", "itertools.pairwise"].contains n && vs[0]? == some (rawInt _)) = true then _ else _) Q E s
           rw [if_neg (by intro h; rw [hn, Bool.false_and] at h; cases h)]
           exact wpAny_pure hQ))

noncomputable def Itl (K : PySem.W.Frag) (a : Addr) : It :=
  ⟨fun i H => ∃ xs x, SqL K H a xs ∧ xs[i]? = some x, fun i H x H' => H' = H ∧ ∀ xs, SqL K H a xs → xs[i]? = some x, fun i H => ∃ xs, SqL K H a xs ∧ xs.length ≤ i⟩
noncomputable def Itt (K : PySem.W.Frag) (a : Addr) : It :=
  ⟨fun i H => ∃ xs x, SqT K H a xs ∧ xs[i]? = some x, fun i H x H' => H' = H ∧ ∀ xs, SqT K H a xs → xs[i]? = some x, fun i H => ∃ xs, SqT K H a xs ∧ xs.length ≤ i⟩
noncomputable def Itr (lo : Int) (n : Nat) : It := ⟨fun i _ => i < n, fun i H x H' => H' = H ∧ x = .int (lo + i), fun i _ => n ≤ i⟩
theorem turn_list {P : Program} {w : World} {K : PySem.W.Frag} {tg : Expr} (a it : Addr) : Turn P w K tg (Itl K a) [it] it (fun i h => h.IsListIter it a i) where
  mem := by simp
  obj := fun i h st b hb => by
    have e : b = it := by simpa using hb
    subst e
    obtain ⟨o, e, c, d⟩ := st
    exact ⟨o, e, fun v z => by rw [d] at z; cases z⟩
  keep := fun i h h' st k => st.at fun o e => k it (by simp) o e
  item := by
    intro X hP hw hK hc i pins s σ H E I hf st hg
    subst hP hw hK
    obtain ⟨xs, x, hq, hx⟩ := hg
    obtain ⟨its, rv, p, hz⟩ := I.list hq
    obtain ⟨u, hu, ru⟩ := rv.get hx
    obtain ⟨f0, f1, f2, f3, f4, f5⟩ := hf it (by simp)
    refine wpAny_pyNext_list_item st p.isList (x := u) (by simpa using hu) fun h' st' sb => ?_
    have I1 : Inv X pins σ H { s with heap := h' } := I.turned (t' := s.toks) (fun b o hb e => (sb.2 b hb).trans e) f0 f1 f3 f4 f5
    obtain ⟨o, e, c, d⟩ := id st'
    exact ⟨u, rfl, go_of (s := { s with heap := h' }) e c d (by decide) ⟨x, H, I1, ru, ⟨rfl, fun ys hy => by rw [I.list_inj hy hq]; exact hx⟩, st', fun b hb => (hf b hb).1⟩⟩
  done := by
    intro X hP hw hK hc i pins s σ H E I hf st hg
    subst hP hw hK
    obtain ⟨xs, hq, hx⟩ := hg
    obtain ⟨its, rv, p, hz⟩ := I.list hq
    obtain ⟨f0, f1, f2, f3, f4, f5⟩ := hf it (by simp)
    have hl := rv.length
    exact wpAny_pyNext_list_end (I.ok.hd hc) st p.isList (by simp; omega) fun h' eb => ⟨rfl, I.turned (t' := s.toks) (fun b o hb e => eb b o hb e) f0 f1 f3 f4 f5⟩
  self := fun _ _ _ _ _ st h => wpAny_pyIter_listiter st h
theorem turn_tuple {P : Program} {w : World} {K : PySem.W.Frag} {tg : Expr} (a it : Addr) : Turn P w K tg (Itt K a) [it] it (fun i h => h.IsTupleIter it a i) where
  mem := by simp
  obj := fun i h st b hb => by
    have e : b = it := by simpa using hb
    subst e
    obtain ⟨o, e, c, d⟩ := st
    exact ⟨o, e, fun v z => by rw [d] at z; cases z⟩
  keep := fun i h h' st k => st.at fun o e => k it (by simp) o e
  item := by
    intro X hP hw hK hc i pins s σ H E I hf st hg
    subst hP hw hK
    obtain ⟨xs, x, hq, hx⟩ := hg
    obtain ⟨its, rv, p, hz⟩ := I.tuple hq
    obtain ⟨u, hu, ru⟩ := rv.get hx
    obtain ⟨f0, f1, f2, f3, f4, f5⟩ := hf it (by simp)
    refine wpAny_pyNext_tuple_item st (show s.heap.IsTuple a its.toArray from p) (x := u) (by simpa using hu) fun h' st' sb => ?_
    have I1 : Inv X pins σ H { s with heap := h' } := I.turned (t' := s.toks) (fun b o hb e => (sb.2 b hb).trans e) f0 f1 f3 f4 f5
    obtain ⟨o, e, c, d⟩ := id st'
    exact ⟨u, rfl, go_of (s := { s with heap := h' }) e c d (by decide) ⟨x, H, I1, ru, ⟨rfl, fun ys hy => by rw [I.tuple_inj hy hq]; exact hx⟩, st', fun b hb => (hf b hb).1⟩⟩
  done := by
    intro X hP hw hK hc i pins s σ H E I hf st hg
    subst hP hw hK
    obtain ⟨xs, hq, hx⟩ := hg
    obtain ⟨its, rv, p, hz⟩ := I.tuple hq
    obtain ⟨f0, f1, f2, f3, f4, f5⟩ := hf it (by simp)
    have hl := rv.length
    exact wpAny_pyNext_tuple_end (I.ok.hd hc) st (show s.heap.IsTuple a its.toArray from p) (by simp; omega) fun h' eb => ⟨rfl, I.turned (t' := s.toks) (fun b o hb e => eb b o hb e) f0 f1 f3 f4 f5⟩
  self := fun _ _ _ _ _ st h => wpAny_pyIter_tupleiter st h
theorem turn_range {P : Program} {w : World} {K : PySem.W.Frag} {tg : Expr} (it : Addr) (lo : Int) (n : Nat) : Turn P w K tg (Itr lo n) [it] it (fun i h => IsRangeIter h it (lo + (i : Nat) * 1) ((n : Int) - (i : Nat)) 1) where
  mem := by simp
  obj := fun i h st b hb => by
    have e : b = it := by simpa using hb
    subst e
    exact ⟨_, st, fun v z => by
      have z' : Data.fields _ = Data.cell v := z
      cases z'⟩
  keep := fun i h h' st k => k it (by simp) _ st
  item := by
    intro X hP hw hK hc i pins s σ H E I hf st hg
    subst hP hw hK
    obtain ⟨f0, f1, f2, f3, f4, f5⟩ := hf it (by simp)
    have W := Walks.range (prog := X.prog) (w := X.w) (I.ok.hd hc) it lo 1 n
    refine W.item i s _ _ hg st fun v h' tk hv st' kk => ?_
    obtain ⟨t, rfl⟩ := hv
    have I1 : Inv X pins σ H { s with heap := h', toks := tk } := I.turned (fun b o hb e => kk b o (by simpa using hb) e) f0 f1 f3 f4 f5
    refine ⟨_, rfl, go_of (s := { s with heap := h', toks := tk }) (n := "range_iterator") st' rfl rfl (by decide) ⟨.int (lo + i), H, I1, ⟨t, ?_⟩, ⟨rfl, rfl⟩, st', fun b hb => (hf b hb).1⟩⟩
    rw [Int.mul_one]
  done := by
    intro X hP hw hK hc i pins s σ H E I hf st hg
    subst hP hw hK
    obtain ⟨f0, f1, f2, f3, f4, f5⟩ := hf it (by simp)
    exact wpAny_pyNext_range_end (I.ok.hd hc) st (by have : n ≤ i := hg; omega) fun h' eb => ⟨rfl, I.turned (t' := s.toks) (fun b o hb e => eb b o hb e) f0 f1 f3 f4 f5⟩
  self := fun _ _ _ _ _ st h => wpAny_pyIter_rangeiter st h
end L2

namespace L2
open PySem PySem.Spec PyProof.Rows
section
variable {X : Cx} {tg : Expr}
theorem range_it {pins : List (Addr × Obj)} {σ : St} {H : Hp} {s : Shared} {R : It → Hp → Prop} {E : Value → Shared → Prop} {lo hi : Int} {t u v : Tok} {tk : Nat} (I : Inv X pins σ H s) (h1 : -(2 ^ 62) ≤ lo) (h2 : lo < 2 ^ 62) (h3 : -(2 ^ 62) ≤ hi) (h4 : hi < 2 ^ 62)
    (q : R (Itr lo (hi - lo).toNat) H) : wpAny (model X.prog X.w) X.A (pyIter (.ref s.heap.objs.size)) (PIE X pins σ tg R) E { s with heap := s.heap.push { cls := .type "range", data := .fields #[.int lo t, .int hi u, .int 1 v] }, toks := tk } := by
  refine wpAny_pyIter_range (IsRange.new ..) (small_one h1 h2 h3 h4) ?_
  have I1 : Inv X pins σ H { s with heap := s.heap.push { cls := .type "range", data := .fields #[.int lo t, .int hi u, .int 1 v] }, toks := tk } := I.kept fun b o e => Heap.get?_push_of_some _ e
  refine ⟨(s.heap.push { cls := .type "range", data := .fields #[.int lo t, .int hi u, .int 1 v] }).objs.size, [(s.heap.push { cls := .type "range", data := .fields #[.int lo t, .int hi u, .int 1 v] }).objs.size], _, _, H, rfl,
    I1.kept (t' := tk) fun b o e => Heap.get?_push_of_some _ e, turn_range _ lo (hi - lo).toNat, ?_, fun b hb => ?_, q⟩
  · have e1 : lo + ((0 : Nat) : Int) * 1 = lo := by simp
    have e2 : (((hi - lo).toNat : Nat) : Int) - ((0 : Nat) : Int) = Builtin.Range.rangeSize lo hi 1 := by rw [rangeSize_one]; split <;> omega
    show IsRangeIter _ _ (lo + ((0 : Nat) : Int) * 1) ((((hi - lo).toNat : Nat) : Int) - ((0 : Nat) : Int)) 1
    rw [e1, e2]
    exact Heap.get?_push_size _ rfl
  · have e : b = (s.heap.push { cls := .type "range", data := .fields #[.int lo t, .int hi u, .int 1 v] }).objs.size := by simpa using hb
    subst e
    exact I1.fpOk (Nat.le_refl _) (I1.hok.fresh (Nat.le_refl _))
noncomputable def iRng1 (ta : TA) : TI := fun σ H R => ta σ H fun vs H1 => ∃ j : Int, vs = [.int j] ∧ -(2 ^ 62) ≤ j ∧ j < 2 ^ 62 ∧ R (Itr 0 j.toNat) H1
noncomputable def iRng2 (ta : TA) : TI := fun σ H R => ta σ H fun vs H1 => ∃ i j : Int, vs = [.int i, .int j] ∧ (-(2 ^ 62) ≤ i ∧ i < 2 ^ 62 ∧ -(2 ^ 62) ≤ j ∧ j < 2 ^ 62) ∧ R (Itr i (j - i).toNat) H1
theorem pi_range1 {a : Expr} {ta : TA} {p pos : Pos} (hg : Gl X "range") (hm : X.mg "range" = none) (ha : PA X [a] ta) (hs : starEach [a] X.env = [(false, eval a X.env)] := by rfl) : PI X tg (.Call (.Name "range" p) [a] [] pos) (iRng1 ta) := by
  intro pins s σ H R I h
  refine Call_ (ld_blt I hg hm boot_range (PyProof.Rows.callWith_type1 (thn (ha pos pins s σ H _ I h) fun us s1 ⟨vs, H1, I1, r1, q1⟩ => ?_) hs rfl))
  obtain ⟨j, e, q1, q2, q⟩ := q1
  subst e
  cases r1 with
  | cons r rr =>
    cases rr
    obtain ⟨t, rfl⟩ := r
    exact call_range_1 (range_it I1 (by omega) (by omega) q1 q2 (by simpa using q))
theorem pi_range2 {a b : Expr} {ta : TA} {p pos : Pos} (hg : Gl X "range") (hm : X.mg "range" = none) (ha : PA X [a, b] ta) (hs : starEach [a, b] X.env = [(false, eval a X.env), (false, eval b X.env)] := by rfl) (hs2 : starEach [b] X.env = [(false, eval b X.env)] := by rfl) :
    PI X tg (.Call (.Name "range" p) [a, b] [] pos) (iRng2 ta) := by
  intro pins s σ H R I h
  refine Call_ (ld_blt I hg hm boot_range (PyProof.Rows.callWith_type1 (thn (ha pos pins s σ H _ I h) fun us s1 ⟨vs, H1, I1, r1, q1⟩ => ?_) (by rw [hs, hs2]) (by rw [hs2]; rfl)))
  obtain ⟨i, j, e, ⟨q1, q2, q3, q4⟩, q⟩ := q1
  subst e
  cases r1 with
  | cons r rr =>
    cases rr with
    | cons r' rr =>
      cases rr
      obtain ⟨t, rfl⟩ := r
      obtain ⟨t', rfl⟩ := r'
      exact call_range_2 (range_it I1 q1 q2 q3 q4 q)

noncomputable def tFor (wi : TI) (g : TG) (tb : TS) : TS := fun D σ H => wi σ H fun J H1 => ∃ W : Nat → Nat → St → Hp → Prop, (∃ m, W 0 m σ H1) ∧ ∀ i m σ H, W i m σ H →
  (J.stop i H ∧ D.nx σ H) ∨ (J.go i H ∧ ∃ N : St → Hp → Prop, (∀ σ' H', N σ' H' → ∃ m', m' < m ∧ W (i + 1) m' σ' H') ∧ ∀ x H', J.yld i H x H' → g x σ H' fun σ2 H2 => tb { D with nx := N, ct := N, bk := D.nx } σ2 H2)
noncomputable def pinsAt (fp : List Addr) (h : Heap) : List (Addr × Obj) := fp.filterMap fun b => (h.get? b).map fun o => (b, o)
theorem mem_pinsAt {fp : List Addr} {h : Heap} {b : Addr} {o : Obj} (hb : b ∈ fp) (e : h.get? b = some o) : (b, o) ∈ pinsAt fp h := List.mem_filterMap.mpr ⟨b, hb, by rw [e]; rfl⟩
theorem of_pinsAt {fp : List Addr} {h : Heap} {p : Addr × Obj} (hp : p ∈ pinsAt fp h) : p.1 ∈ fp ∧ h.get? p.1 = some p.2 := by
  obtain ⟨b, hb, e⟩ := List.mem_filterMap.mp hp
  cases q : h.get? b with
  | none => rw [q] at e; cases e
  | some o =>
    rw [q] at e
    have e' : (b, o) = p := Option.some.inj e
    subst e'
    exact ⟨hb, q⟩
theorem Inv.pinned {pins : List (Addr × Obj)} {σ : St} {H : Hp} {s : Shared} {fp : List Addr} (I : Inv X pins σ H s) (hf : ∀ b ∈ fp, FpOk X pins H b) (ho : ∀ b ∈ fp, ∃ o, s.heap.get? b = some o ∧ ∀ v, o.data ≠ .cell v) : Inv X (pins ++ pinsAt fp s.heap) σ H s :=
  I.pins_of fun p hp => (List.mem_append.mp hp).elim (fun z => I.pin p (List.mem_append_right _ z)) fun z => by
    obtain ⟨hb, e⟩ := of_pinsAt z
    obtain ⟨f0, f1, f2, _⟩ := hf p.1 hb
    obtain ⟨o, e', d⟩ := ho p.1 hb
    rw [e] at e'; cases e'
    exact ⟨e, f0, f1, f2, d⟩
theorem Inv.unpinned {pins pl : List (Addr × Obj)} {σ : St} {H : Hp} {s : Shared} (I : Inv X (pins ++ pl) σ H s) : Inv X pins σ H s := I.pins_of fun p hp => I.pin p (List.mem_append_right _ (List.mem_append_left _ hp))
theorem ps_for {iter : Expr} {body : List Stmt} {wi : TI} {g : TG} {tb : TS} {pos : Pos} (hp : PassesOwn (model X.prog X.w) X.A X.env X.xe) (hc : X.calm = true) (hi : PI X tg iter wi) (hg : PG X tg g) (hb : PSs X body tb)
    (hs : ∀ x, foldedSetIterable iter X.env x = pure x := by intro _; rfl) : PS X (.For tg iter body [] pos) (tFor wi g tb) := by
  intro pins s σ H D I h
  refine wpAny_For (thn (hi pins s σ H _ I h) fun v s1 h1 => thn h1 fun itv s2 h2 => ?_) hs
  obtain ⟨it, fp, tn, J, H2, e, I2, T, st2, f2, W, ⟨m0, w0⟩, turn⟩ := h2
  subst e
  -- what stays true of the iterator's objects through the loop
  have stat : ∀ {H' : Hp}, (∀ b ∈ fp, H' b = none) → ∀ b ∈ fp, FpOk X pins H' b := fun hn b hb => ⟨hn b hb, (f2 b hb).2⟩
  refine codeAny_forLoop_any (fun n s' => ∃ i σ' H', Inv X pins σ' H' s' ∧ tn i s'.heap ∧ (∀ b ∈ fp, H' b = none) ∧ W i n σ' H') ?_ m0 ⟨0, σ, H2, I2, st2, fun b hb => (f2 b hb).1, w0⟩
  rintro n s3 ⟨i, σ3, H3, I3, st3, fr3, w3⟩
  rcases turn i n σ3 H3 w3 with ⟨stop, qn⟩ | ⟨go, N, hN, step⟩
  · refine wpAny_passesOwn hp (thn (T.done X rfl rfl rfl hc i pins s3 σ3 H3 X.xe I3 (stat fr3) st3 stop) fun r s4 ⟨hr, I4⟩ => ?_)
    subst hr
    exact wpAny_execs_nil ⟨σ3, H3, I4, qn⟩
  · refine wpAny_passesOwn hp (thn (T.item X rfl rfl rfl hc i pins s3 σ3 H3 X.xe I3 (stat fr3) st3 go) fun r s4 ⟨u, hr, h4⟩ => ?_)
    subst hr
    refine wpAny_passesOwn hp (thn h4 fun _ s5 ⟨x, H5, I5, r5, y5, st5, fr5⟩ => ?_)
    have I5' := I5.pinned (stat fr5) (T.obj _ _ st5)
    refine wpAny_passesOwn hp (thn (hg _ s5 σ3 H5 x u _ I5' r5 (step x H5 y5)) fun _ s6 ⟨σ6, H6, I6, q6⟩ => ?_)
    refine wpAny_passesOwn hp (thn (hb _ s6 σ6 H6 _ I6 q6) fun f s7 q7 => ?_)
    have again : ∀ {σ7 : St} {H7 : Hp}, Inv X (pins ++ pinsAt fp s5.heap) σ7 H7 s7 → N σ7 H7 → ∃ m, m < n ∧ ∃ i σ' H', Inv X pins σ' H' s7 ∧ tn i s7.heap ∧ (∀ b ∈ fp, H' b = none) ∧ W i m σ' H' := fun {σ7 H7} I7 n7 => by
      obtain ⟨m', hm, w7⟩ := hN σ7 H7 n7
      refine ⟨m', hm, i + 1, σ7, H7, I7.unpinned, T.keep _ _ _ st5 fun b hb o e => (I7.pin (b, o) (List.mem_append_right _ (List.mem_append_right _ (mem_pinsAt hb e)))).1, fun b hb => ?_, w7⟩
      obtain ⟨o, e, d⟩ := T.obj _ _ st5 b hb
      exact (I7.pin (b, o) (List.mem_append_right _ (List.mem_append_right _ (mem_pinsAt hb e)))).2.1
    cases f with
    | next => obtain ⟨σ7, H7, I7, n7⟩ := q7; exact again I7 n7
    | cont => obtain ⟨σ7, H7, I7, n7⟩ := q7; exact again I7 n7
    | brk => obtain ⟨σ7, H7, I7, q7⟩ := q7; exact ⟨σ7, H7, I7.unpinned, q7⟩
    | ret v => obtain ⟨x7, σ7, H7, I7, r7, q7⟩ := q7; exact ⟨x7, σ7, H7, I7.unpinned, r7, q7⟩
end

end L2

namespace L2
open PySem PySem.Spec PyProof.Rows

noncomputable abbrev R2 := V → V → Hp → VK → Prop
noncomputable def OpR (X : Cx) (f : Value → Value → Sem Value) (r : R2) : Prop :=
  ∀ (pins : List (Addr × Obj)) (s : Shared) (σ : St) (H : Hp) (x y : V) (v u : Value) (Q : VK), Inv X pins σ H s → RelV x v → RelV y u → r x y H Q →
    wpAny (model X.prog X.w) X.A (f v u) (EP X pins σ Q) X.xe s
noncomputable def UnR (X : Cx) (f : Value → Sem Value) (r : V → Hp → VK → Prop) : Prop :=
  ∀ (pins : List (Addr × Obj)) (s : Shared) (σ : St) (H : Hp) (x : V) (v : Value) (Q : VK), Inv X pins σ H s → RelV x v → r x H Q →
    wpAny (model X.prog X.w) X.A (f v) (EP X pins σ Q) X.xe s
noncomputable def CallR (X : Cx) (f : Value) (r : List V → Hp → VK → Prop) : Prop :=
  ∀ (pins : List (Addr × Obj)) (s : Shared) (σ : St) (H : Hp) (xs : List V) (us : List Value) (Q : VK), Inv X pins σ H s → Vals xs us → r xs H Q →
    wpAny (model X.prog X.w) X.A (call f us) (EP X pins σ Q) X.xe s
noncomputable def TruR (X : Cx) (r : V → Hp → (Bool → Hp → Prop) → Prop) : Prop :=
  ∀ (pins : List (Addr × Obj)) (s : Shared) (σ : St) (H : Hp) (x : V) (v : Value) (Q : Bool → Hp → Prop), Inv X pins σ H s → RelV x v → r x H Q →
    wpAny (model X.prog X.w) X.A (truthy v) (TP X pins σ Q) X.xe s

noncomputable def tOp (r : R2) (ta tb : TE) : TE := fun σ H Q => ta σ H fun x H1 => tb σ H1 fun y H2 => r x y H2 Q
noncomputable def tUn (r : V → Hp → VK → Prop) (ta : TE) : TE := fun σ H Q => ta σ H fun x H1 => r x H1 Q
noncomputable def rI (C : Int → Int → Prop) (g : Int → Int → V) : R2 := fun x y H Q => ∃ i j, x = .int i ∧ y = .int j ∧ C i j ∧ Q (g i j) H
noncomputable def rI0 (g : Int → Int → V) : R2 := fun x y H Q => ∃ i j, x = .int i ∧ y = .int j ∧ Q (g i j) H
noncomputable def rU (g : Int → V) : V → Hp → VK → Prop := fun x H Q => ∃ i, x = .int i ∧ Q (g i) H

section
variable {X : Cx} {a b c : Expr} {ta tb tc : TE} {pos : Pos}

theorem binT (ha : PE X a ta) (hb : PE X b tb) {pins : List (Addr × Obj)} {s : Shared} {σ : St} {H : Hp} {R : V → V → Hp → Prop} (I : Inv X pins σ H s)
    (h : ta σ H fun x H1 => tb σ H1 fun y H2 => R x y H2) {Q : Value → Shared → Prop} {f : Value → Value → Sem Value}
    (hf : ∀ v u s2 x y H2, Inv X pins σ H2 s2 → RelV x v → RelV y u → R x y H2 → wpAny (model X.prog X.w) X.A (f v u) Q X.xe s2) :
    wpAny (model X.prog X.w) X.A (eval a X.env) (fun v s₁ => wpAny (model X.prog X.w) X.A (eval b X.env) (fun u s₂ => wpAny (model X.prog X.w) X.A (f v u) Q X.xe s₂) X.xe s₁) X.xe s := by
  refine thn (ha pins s σ H _ I h) fun v s1 ⟨x, H1, I1, r1, q1⟩ => ?_
  refine thn (hb pins s1 σ H1 _ I1 q1) fun u s2 ⟨y, H2, I2, r2, q2⟩ => ?_
  exact hf v u s2 x y H2 I2 r1 r2 q2

theorem pe_op {op : Operator} {r : R2} (ho : OpR X (binaryOp op) r) (ha : PE X a ta) (hb : PE X b tb) : PE X (.BinOp a op b pos) (tOp r ta tb) := by
  intro pins s σ H Q I h
  exact wpAny_BinOp (binT ha hb I h fun v u s2 x y H2 I2 rx ry q => ho pins s2 σ H2 x y v u Q I2 rx ry q)
theorem pe_un {op : UnaryOp} {r : V → Hp → VK → Prop} (ho : UnR X (unaryOp op) r) (ha : PE X a ta) : PE X (.UnaryOp op a pos) (tUn r ta) := by
  intro pins s σ H Q I h
  exact UnaryOp_ (thn (ha pins s σ H _ I h) fun v s1 ⟨x, H1, I1, r1, q1⟩ => ho pins s1 σ H1 x v Q I1 r1 q1)
theorem opI {f : Value → Value → Sem Value} {C : Int → Int → Prop} {g : Int → Int → Int}
    (rule : ∀ (i j : Int) (t u : Tok) (s : Shared) (Q : Value → Shared → Prop) (E : Value → Shared → Prop), C i j → Q (.int (g i j) s.toks) { s with toks := s.toks + 1 } → wpAny (model X.prog X.w) X.A (f (.int i t) (.int j u)) Q E s) :
    OpR X f (rI C fun i j => .int (g i j)) := by
  intro pins s σ H x y v u Q I rx ry h
  obtain ⟨i, j, rfl, rfl, hc, q⟩ := h
  obtain ⟨t, rfl⟩ := rx
  obtain ⟨t', rfl⟩ := ry
  exact rule i j t t' s _ _ hc ⟨.int (g i j), H, I.tok _, ⟨_, rfl⟩, q⟩
theorem opI0 {f : Value → Value → Sem Value} {g : Int → Int → Int}
    (rule : ∀ (i j : Int) (t u : Tok) (s : Shared) (Q : Value → Shared → Prop) (E : Value → Shared → Prop), Q (.int (g i j) s.toks) { s with toks := s.toks + 1 } → wpAny (model X.prog X.w) X.A (f (.int i t) (.int j u)) Q E s) :
    OpR X f (rI0 fun i j => .int (g i j)) := by
  intro pins s σ H x y v u Q I rx ry h
  obtain ⟨i, j, rfl, rfl, q⟩ := h
  obtain ⟨t, rfl⟩ := rx
  obtain ⟨t', rfl⟩ := ry
  exact rule i j t t' s _ _ ⟨.int (g i j), H, I.tok _, ⟨_, rfl⟩, q⟩
theorem opB0 {f : Value → Value → Sem Value} {g : Int → Int → Bool}
    (rule : ∀ (i j : Int) (t u : Tok) (s : Shared) (Q : Value → Shared → Prop) (E : Value → Shared → Prop), Q (.bool (g i j)) s → wpAny (model X.prog X.w) X.A (f (.int i t) (.int j u)) Q E s) :
    OpR X f (rI0 fun i j => .bl (g i j)) := by
  intro pins s σ H x y v u Q I rx ry h
  obtain ⟨i, j, rfl, rfl, q⟩ := h
  obtain ⟨t, rfl⟩ := rx
  obtain ⟨t', rfl⟩ := ry
  exact rule i j t t' s _ _ ⟨.bl (g i j), H, I, rfl, q⟩

noncomputable def CPow (i j : Int) : Prop := 0 ≤ j ∧ j ≤ 1000000 ∧ i.natAbs < 2 ^ 64
noncomputable def CMul (i j : Int) : Prop := (-(2 ^ 64) < i ∧ i < 2 ^ 64) ∨ (-(2 ^ 64) < j ∧ j < 2 ^ 64)
theorem CMul.ok {i j : Int} (h : CMul i j) : IntMulOk i j := by
  rcases h with ⟨h1, h2⟩ | ⟨h1, h2⟩
  · exact .of_left (intBits_le_64 h1 h2)
  · exact .of_right (intBits_le_64 h1 h2)
theorem op_add : OpR X (binaryOp .Add) (rI0 fun i j => .int (i + j)) := opI0 fun _ _ _ _ _ _ _ q => add_int q
theorem op_sub : OpR X (binaryOp .Sub) (rI0 fun i j => .int (i - j)) := opI0 fun _ _ _ _ _ _ _ q => sub_int q
theorem op_mod : OpR X (binaryOp .Mod) (rI (fun _ j => 0 < j) fun i j => .int (i % j)) := opI fun i j _ _ _ _ _ hc q => by
  have h1 : (0 : Int) < j := hc
  exact mod_int' (by omega) (by rw [Int.fmod_eq_emod_of_nonneg i (by omega)]; exact q)
theorem op_pow : OpR X (binaryOp .Pow) (rI CPow fun i j => .int (i ^ j.toNat)) := opI fun _ _ _ _ _ _ _ hc q => pow_int_small hc.1 hc.2.1 hc.2.2 q
theorem unI {f : Value → Sem Value} {g : Int → Int}
    (rule : ∀ (i : Int) (t : Tok) (s : Shared) (Q : Value → Shared → Prop) (E : Value → Shared → Prop), Q (.int (g i) s.toks) { s with toks := s.toks + 1 } → wpAny (model X.prog X.w) X.A (f (.int i t)) Q E s) :
    UnR X f (rU fun i => .int (g i)) := by
  intro pins s σ H x v Q I rx h
  obtain ⟨i, rfl, q⟩ := h
  obtain ⟨t, rfl⟩ := rx
  exact rule i t s _ _ ⟨.int (g i), H, I.tok _, ⟨_, rfl⟩, q⟩
theorem un_neg : UnR X (unaryOp .USub) (rU fun i => .int (-i)) := unI fun _ _ _ _ _ q => neg_int q
end

section
variable {X : Cx} {a b c : Expr} {ta tb tc : TE} {pos : Pos}
theorem fin_bl {pins : List (Addr × Obj)} {σ : St} {H : Hp} {s : Shared} {Q : VK} {k k' : Bool} (I : Inv X pins σ H s) (q : Q (.bl k) H) (e : k = k') : EP X pins σ Q (.bool k') s := by
  subst e
  exact ⟨.bl k, H, I, rfl, q⟩
theorem op_lt : OpR X (compareOp .Lt) (rI0 fun i j => .bl (decide (i < j))) := opB0 fun _ _ _ _ _ _ _ q => lt_int q
theorem op_le : OpR X (compareOp .LtE) (rI0 fun i j => .bl (decide (i ≤ j))) := opB0 fun _ _ _ _ _ _ _ q => le_int q
theorem op_gt : OpR X (compareOp .Gt) (rI0 fun i j => .bl (decide (j < i))) := opB0 fun _ _ _ _ _ _ _ q => gt_int q
theorem op_ge : OpR X (compareOp .GtE) (rI0 fun i j => .bl (decide (j ≤ i))) := opB0 fun _ _ _ _ _ _ _ q => ge_int q
theorem op_isN : OpR X (compareOp .Is) (fun x y H Q => y = .non ∧ Q (.bl (decide (x = .non))) H) := by
  intro pins s σ H x y v u Q I rx ry h
  obtain ⟨rfl, q⟩ := h
  cases ry
  refine is_none_gen (fin_bl I q ?_)
  cases x <;> first
    | (cases rx; rfl)
    | (obtain ⟨t, rfl⟩ := rx; rfl)
theorem op_notN : OpR X (compareOp .IsNot) (fun x y H Q => y = .non ∧ Q (.bl (!decide (x = .non))) H) := by
  intro pins s σ H x y v u Q I rx ry h
  obtain ⟨rfl, q⟩ := h
  cases ry
  refine isnot_none_gen (fin_bl I q ?_)
  cases x <;> first
    | (cases rx; rfl)
    | (obtain ⟨t, rfl⟩ := rx; rfl)

theorem OpR.or {f : Value → Value → Sem Value} {r r' : R2} (h : OpR X f r) (h' : OpR X f r') : OpR X f (fun x y H Q => r x y H Q ∨ r' x y H Q) := by
  intro pins s σ H x y v u Q I rx ry q
  rcases q with q | q
  · exact h pins s σ H x y v u Q I rx ry q
  · exact h' pins s σ H x y v u Q I rx ry q

theorem nomark (b : Expr) {op : CmpOp} (h : op ≠ .In := by decide) (h2 : op ≠ .NotIn := by decide) : behindInMarks op b = false := by
  have e1 : (op == CmpOp.In) = false := by cases op <;> first | rfl | exact absurd rfl h
  have e2 : (op == CmpOp.NotIn) = false := by cases op <;> first | rfl | exact absurd rfl h2
  cases b <;> simp [behindInMarks, e1, e2]
theorem pe_cmpR {op : CmpOp} {r : R2} (ho : OpR X (compareOp op) r) (ha : PE X a ta) (hb : PE X b tb) (hm : behindInMarks op b = false) : PE X (.Compare a [op] [b] pos) (tOp r ta tb) := by
  intro pins s σ H Q I h
  exact wpAny_Compare1 (binT ha hb I h fun v u s2 x y H2 I2 rx ry q => ho pins s2 σ H2 x y v u Q I2 rx ry q) hm
noncomputable def tTest (t : TE) : TT := fun σ H Q => t σ H fun x H' => ∃ k, x = .bl k ∧ Q k H'
theorem pt_cmpR {op : CmpOp} {r : R2} (ho : OpR X (compareOp op) r) (ha : PE X a ta) (hb : PE X b tb) (hm : behindInMarks op b = false) : PT X (.Compare a [op] [b] pos) (tTest (tOp r ta tb)) := by
  intro pins s σ H Q I h
  refine wpAny_isTrue_Compare1 (thn (ha pins s σ H _ I h) fun v s1 ⟨x, H1, I1, r1, q1⟩ => thn (hb pins s1 σ H1 _ I1 q1) fun u s2 ⟨y, H2, I2, r2, q2⟩ =>
    thn (ho pins s2 σ H2 x y v u _ I2 r1 r2 q2) fun c s3 ⟨z, H3, I3, r3, k, e, q3⟩ => ?_) hm
  subst e
  cases r3
  exact wpAny_truthy_bool ⟨H3, I3, q3⟩
noncomputable def tChain (r r' : R2) (ta tb tc : TE) : TE := fun σ H Q => ta σ H fun x H1 => tb σ H1 fun y H2 => r x y H2 fun z H3 => ∃ k, z = .bl k ∧
  (if k = true then tc σ H3 fun w' H4 => r' y w' H4 Q else Q (.bl false) H3)
theorem pe_chain {op op' : CmpOp} {r r' : R2} (ho : OpR X (compareOp op) r) (ho' : OpR X (compareOp op') r') (ha : PE X a ta) (hb : PE X b tb) (hc : PE X c tc)
    (hm : lastMarks [op, op'] [b, c] = false := by with_unfolding_all rfl) : PE X (.Compare a [op, op'] [b, c] pos) (tChain r r' ta tb tc) := by
  intro pins s σ H Q I h
  refine Compare_chain (thn (ha pins s σ H _ I h) fun v s1 ⟨x, H1, I1, r1, q1⟩ => chain_link (thn (hb pins s1 σ H1 _ I1 q1) fun u s2 ⟨y, H2, I2, r2, q2⟩ =>
    thn (ho pins s2 σ H2 x y v u _ I2 r1 r2 q2) fun d s3 ⟨z, H3, I3, r3, k, e, q3⟩ => ?_)) hm
  subst e
  cases r3
  refine wpAny_truthy_bool ?_
  cases k with
  | false => exact ite_ff ⟨.bl false, H3, I3, rfl, q3⟩
  | true => exact ite_tt (chain_last (thn (hc pins s3 σ H3 _ I3 q3) fun w' s4 ⟨z', H4, I4, r4, q4⟩ => ho' pins s4 σ H4 y z' u w' Q I4 r2 r4 q4))
theorem pt_chain {op op' : CmpOp} {r r' : R2} (ho : OpR X (compareOp op) r) (ho' : OpR X (compareOp op') r') (ha : PE X a ta) (hb : PE X b tb) (hc : PE X c tc)
    (hm : lastMarks [op, op'] [b, c] = false := by with_unfolding_all rfl) : PT X (.Compare a [op, op'] [b, c] pos) (tTest (tChain r r' ta tb tc)) := by
  intro pins s σ H Q I h
  refine isTrue_chain (thn (ha pins s σ H _ I h) fun v s1 ⟨x, H1, I1, r1, q1⟩ => test_link (thn (hb pins s1 σ H1 _ I1 q1) fun u s2 ⟨y, H2, I2, r2, q2⟩ =>
    thn (ho pins s2 σ H2 x y v u _ I2 r1 r2 q2) fun d s3 ⟨z, H3, I3, r3, k, e, q3⟩ => ?_)) hm
  subst e
  cases r3
  refine wpAny_truthy_bool ?_
  cases k with
  | false =>
    obtain ⟨k', e', q'⟩ := q3
    cases e'
    exact ite_ff ⟨H3, I3, q'⟩
  | true =>
    refine ite_tt (test_last (thn (hc pins s3 σ H3 _ I3 q3) fun w' s4 ⟨z', H4, I4, r4, q4⟩ => thn (ho' pins s4 σ H4 y z' u w' _ I4 r2 r4 q4) fun d' s5 ⟨z2, H5, I5, r5, k2, e2, q5⟩ => ?_))
    subst e2
    cases r5
    exact wpAny_truthy_bool ⟨H5, I5, q5⟩

noncomputable def TruV (K : PySem.W.Frag) (x : V) (H : Hp) (k : Bool) : Prop :=
  match x with
  | .non => k = false
  | .bl b => k = b
  | .int i => k = (i != 0)
  | .str y => y.length ≤ sizeLine ∧ k = ((y.length : Int) != 0)
  | .byt y => y.size ≤ sizeLine ∧ k = ((y.size : Int) != 0)
  | .ref p => (∃ xs, SqL K H p xs ∧ k = !xs.isEmpty) ∨ (∃ xs, SqT K H p xs ∧ k = !xs.isEmpty) ∨ ∃ kvs, H p = some (.dK kvs) ∧ k = !kvs.isEmpty
  | _ => False
theorem isEmpty_kv {κ : Type} {kvs : List (κ × V)} {vs : List (κ × Value)} (r : KV kvs vs) : (!vs.isEmpty) = !kvs.isEmpty := by
  cases r <;> rfl
theorem isEmpty_of {xs : List V} {its : List Value} (r : Vals xs its) : (!its.toArray.isEmpty) = !xs.isEmpty := by
  cases r <;> simp
theorem line63 : (sizeLine : Nat) < 2 ^ 63 := by rw [sizeLine_eq]; decide
theorem tru_ok : TruR X (fun x H Q => ∃ k, TruV X.K x H k ∧ Q k H) := by
  intro pins s σ H x v Q I rx h
  obtain ⟨k, e, q⟩ := h
  have hl := line63
  have hs : sizeLine = 16777216 := sizeLine_eq
  cases x with
  | non =>
    cases rx
    have e' : k = false := e
    subst e'
    exact truthy_none ⟨H, I, q⟩
  | bl b =>
    cases rx
    have e' : k = b := e
    subst e'
    exact wpAny_truthy_bool ⟨H, I, q⟩
  | int i =>
    obtain ⟨t, rfl⟩ := rx
    have e' : k = (i != 0) := e
    subst e'
    exact PySem.P.truthy_int ⟨H, I, q⟩
  | str y =>
    obtain ⟨t, rfl⟩ := rx
    obtain ⟨hy, e'⟩ : y.length ≤ sizeLine ∧ k = ((y.length : Int) != 0) := e
    subst e'
    exact PySem.P.truthy_str (by omega) ⟨H, I.tok _, q⟩
  | byt y =>
    obtain ⟨t, rfl⟩ := rx
    obtain ⟨hy, e'⟩ : y.size ≤ sizeLine ∧ k = ((y.size : Int) != 0) := e
    subst e'
    exact PySem.W.truthy_bytes (by omega) ⟨H, I.tok _, q⟩
  | ref p =>
    cases rx
    have e' : (∃ xs, SqL X.K H p xs ∧ k = !xs.isEmpty) ∨ (∃ xs, SqT X.K H p xs ∧ k = !xs.isEmpty) ∨ ∃ kvs, H p = some (.dK kvs) ∧ k = !kvs.isEmpty := e
    rcases e' with ⟨xs, hx, e'⟩ | ⟨xs, hx, e'⟩ | ⟨kvs, hx, e'⟩
    · subst e'
      obtain ⟨its, r, pl, hz⟩ := I.list hx
      have hlen := r.length
      exact wpAny_truthy_list pl.isList (by simp only [List.size_toArray]; omega) ⟨H, I.tok _, by rw [isEmpty_of r]; exact q⟩
    · subst e'
      obtain ⟨its, r, pl, hz⟩ := I.tuple hx
      have hlen := r.length
      exact truthy_tuple pl (by simp only [List.size_toArray]; omega) ⟨H, I.tok _, by rw [isEmpty_of r]; exact q⟩
    · subst e'
      obtain ⟨hz, hS, vs, r, m⟩ : kvs.length ≤ sizeLine ∧ (p == sysModules) = false ∧ ∃ vs, KV kvs vs ∧ s.heap.DictOf (mixKind X.prog X.w) p vs := I.hok p _ hx
      have hlen : kvs.length = vs.length := Paired.length r
      exact wpAny_truthy_dict hS m (by omega) ⟨H, I.tok _, by rw [isEmpty_kv r]; exact q⟩
  | _ => exact (show False from e).elim
theorem pt_truth (ha : PE X a ta) (he : ∀ whole, isTrue a X.env whole = (do let v ← whole; standAt a.pos; holding [v] (truthy v))) :
    PT X a (fun σ H Q => ta σ H fun x H' => ∃ k, TruV X.K x H' k ∧ Q k H') := by
  intro pins s σ H Q I h
  exact isTrue_plain (thn (ha pins s σ H _ I h) fun v s1 ⟨x, H1, I1, r1, q1⟩ => tru_ok pins s1 σ H1 x v Q I1 r1 q1) (he _)

theorem op_add_str : OpR X (binaryOp .Add) (fun x y H Q => ∃ i j, x = .str i ∧ y = .str j ∧ i.length + j.length ≤ sizeLine ∧ Q (.str (i ++ j)) H) := by
  intro pins s σ H x y v u Q I rx ry h
  obtain ⟨i, j, rfl, rfl, hz, q⟩ := h
  obtain ⟨t, rfl⟩ := rx
  obtain ⟨t', rfl⟩ := ry
  exact add_str (fun t' tk => ⟨.str (i ++ j), H, I.tok _, ⟨_, rfl⟩, q⟩) hz
theorem vals1 {x : V} {us : List Value} (r : Vals [x] us) : ∃ u, us = [u] ∧ RelV x u := by
  cases r with
  | cons r1 r2 => cases r2; exact ⟨_, rfl, r1⟩
theorem vals2 {x y : V} {us : List Value} (r : Vals [x, y] us) : ∃ u w', us = [u, w'] ∧ RelV x u ∧ RelV y w' := by
  cases r with
  | cons r1 r2 =>
    cases r2 with
    | cons r3 r4 => cases r4; exact ⟨_, _, rfl, r1, r3⟩
theorem call_abs : CallR X (.builtin "abs") (fun xs H Q => ∃ i, xs = [.int i] ∧ Q (.int (if i < 0 then -i else i)) H) := by
  intro pins s σ H xs us Q I r h
  obtain ⟨i, rfl, q⟩ := h
  obtain ⟨u, rfl, t, rfl⟩ := vals1 r
  exact call_abs_int fun u tk => ⟨.int (if i < 0 then -i else i), H, I.tok _, ⟨_, rfl⟩, q⟩
theorem call_max2 (hc : X.calm = true) : CallR X (.builtin "max") (fun xs H Q => ∃ i j, xs = [.int i, .int j] ∧ Q (.int (if j > i then j else i)) H) := by
  intro pins s σ H xs us Q I r h
  obtain ⟨i, j, rfl, q⟩ := h
  obtain ⟨u, w', rfl, ⟨t, rfl⟩, ⟨t', rfl⟩⟩ := vals2 r
  refine max_two_ints (I.ok.hd hc) fun h' tk k => ⟨_, H, I.kept k, ?_, q⟩
  by_cases hj : j > i
  · rw [if_pos hj, if_pos hj]; exact ⟨_, rfl⟩
  · rw [if_neg hj, if_neg hj]; exact ⟨_, rfl⟩
theorem call_min2 (hc : X.calm = true) : CallR X (.builtin "min") (fun xs H Q => ∃ i j, xs = [.int i, .int j] ∧ Q (.int (if j < i then j else i)) H) := by
  intro pins s σ H xs us Q I r h
  obtain ⟨i, j, rfl, q⟩ := h
  obtain ⟨u, w', rfl, ⟨t, rfl⟩, ⟨t', rfl⟩⟩ := vals2 r
  refine min_two_ints (I.ok.hd hc) fun h' tk k => ⟨_, H, I.kept k, ?_, q⟩
  by_cases hj : j < i
  · rw [if_pos hj, if_pos hj]; exact ⟨_, rfl⟩
  · rw [if_neg hj, if_neg hj]; exact ⟨_, rfl⟩
theorem call_int1 : CallR X (.type "int") (fun xs H Q => (∃ i, xs = [.int i] ∧ Q (.int i) H) ∨ ∃ k, xs = [.bl k] ∧ Q (.int (if k then 1 else 0)) H) := by
  intro pins s σ H xs us Q I r h
  rcases h with ⟨i, rfl, q⟩ | ⟨k, rfl, q⟩
  · obtain ⟨u, rfl, t, rfl⟩ := vals1 r
    exact call_int_int ⟨.int i, H, I, ⟨_, rfl⟩, q⟩
  · obtain ⟨u, rfl, r1⟩ := vals1 r
    cases r1
    exact call_int_bool ⟨.int (if k then 1 else 0), H, I.tok _, ⟨_, rfl⟩, q⟩
theorem call_str_int : CallR X (.type "str") (fun xs H Q => ∃ i, xs = [.int i] ∧ i.natAbs.log2 < 1920 ∧ Q (.str (toString i)) H) := by
  intro pins s σ H xs us Q I r h
  obtain ⟨i, rfl, hz, q⟩ := h
  obtain ⟨u, rfl, t, rfl⟩ := vals1 r
  exact PySem.P.str_of_int hz ⟨.str _, H, I.tok _, ⟨_, rfl⟩, q⟩
end
end L2

namespace L2
open PySem PySem.Spec PyProof.Rows

structure ObjM (h : Heap) (x dx C : Addr) (mA : Str → Option Value) : Prop where
  obj : h.get? x = some (PySem.W.instObj C dx)
  ns : h.Ns1 dx mA
  ne : dx ≠ x

theorem lookIn_ns {h : Heap} {dx : Addr} {mA : Str → Option Value} (n : h.Ns1 dx mA) : ∃ od, h.get? dx = some od ∧ ∀ name, PySem.W.lookIn name od = some (mA name) := by
  obtain ⟨o, es, ep, ho, hd, hk, _, hm⟩ := n
  refine ⟨o, ho, fun name => ?_⟩
  have e := hm name
  unfold nsFind findBy at e
  rw [← Array.find?_toList] at e
  unfold PySem.W.lookIn
  rw [hd]
  dsimp only
  split
  · rename_i y q
    rw [q] at e
    exact congrArg some e
  · rename_i q
    rw [q] at e
    have a : es.toList.any (·.refKey) = false := by
      rw [List.any_eq_false]
      intro y hy
      obtain ⟨z, t, hkey⟩ := hk y (Array.mem_toList_iff.mp hy)
      simp [DictEntry.refKey, hkey]
    have a' : ¬ es.toList.any (·.refKey) = true := by rw [a]; exact Bool.false_ne_true
    rw [if_neg a']
    exact congrArg some e

theorem ObjM.look {h : Heap} {x dx C : Addr} {mA : Str → Option Value} (I : ObjM h x dx C mA) : ∃ od, PySem.W.InstAt h x (PySem.W.instObj C dx) C (some od) ∧ ∀ name, PySem.W.lookIn name od = some (mA name) :=
  let ⟨od, ho, hl⟩ := lookIn_ns I.ns
  ⟨od, ⟨I.obj, rfl, rfl, ho⟩, hl⟩

section
variable {prog : Program} {w : World} {A : Around} {E : Value → Shared → Prop} {s : Shared} {K : PySem.W.Frag} {x dx C f : Addr} {mA : Str → Option Value} {name : Str} {v : Value}

end

section
variable {P : Program} {w : World} {H H' : Hp} {h h' : Heap} {a C dx : Addr} {fs fs' : List (Str × V)}
end

structure Cls (K : PySem.W.Frag) (C : Addr) : Prop where
  pg : PySem.W.plainGet K C Str.empty = true
  hd : PySem.W.hasDictIn K C = true
  po : PySem.W.plainOver K C = true
  sa : PySem.W.findIn K (.ref C) "__setattr__" = some (some (.builtin "object.__setattr__"))
theorem Cls.get {K : PySem.W.Frag} {C : Addr} (c : Cls K C) (f : Str) : PySem.W.plainGet K C f = true := c.pg
structure Meth (K : PySem.W.Frag) (C : Addr) (m : Str) (f : Addr) : Prop where
  at_ : PySem.W.findIn K (.ref C) m = some (some (.ref f))
  fn : PySem.W.isFn K (.ref f) = true
  kp : PySem.W.keepIn K (.ref f) = true

section
variable {X : Cx} {pins : List (Addr × Obj)} {σ : St} {H : Hp} {s : Shared} {a C dx : Addr} {fs : List (Str × V)} {f : Str} {v : V} {A : Around} {E : Value → Shared → Prop}

theorem Inv.made (I : Inv X pins σ H s) : Inv X pins σ (upd (upd H s.heap.objs.size (.own (s.heap.objs.size + 1))) (s.heap.objs.size + 1) (.ins C s.heap.objs.size []))
    { s with heap := (s.heap.push PySem.W.emptyDict).push (PySem.W.instObj C s.heap.objs.size) } := by
  have e1 : (s.heap.push PySem.W.emptyDict).get? s.heap.objs.size = some PySem.W.emptyDict := Heap.get?_push_size s.heap rfl
  have e2 : ((s.heap.push PySem.W.emptyDict).push (PySem.W.instObj C s.heap.objs.size)).get? (s.heap.objs.size + 1) = some (PySem.W.instObj C s.heap.objs.size) := by
    have := Heap.get?_push_size (s.heap.push PySem.W.emptyDict) (o := PySem.W.instObj C s.heap.objs.size) rfl
    rwa [Heap.size_push] at this
  have e3 : (s.heap.push PySem.W.emptyDict).Ns s.heap.objs.size (fun _ => none) := ⟨PySem.W.emptyDict, #[], _, e1, rfl, (fun e he => absurd he (by simp)), fun _ => rfl⟩
  have I1 := I.laid (a := s.heap.objs.size) (o := .own (s.heap.objs.size + 1)) (h' := s.heap.push PySem.W.emptyDict) (t' := s.toks) (fun b u q => Heap.get?_push_of_some _ q) (Nat.le_refl _) ⟨_, e1⟩
  refine I1.laid (a := s.heap.objs.size + 1) (o := .ins C s.heap.objs.size []) (t' := s.toks) (fun b u q => Heap.get?_push_of_some _ q) (Nat.le_of_eq (Heap.size_push _ _)) ?_
  have ne : s.heap.objs.size ≠ s.heap.objs.size + 1 := Nat.ne_of_lt (Nat.lt_succ_self _)
  refine ⟨by rw [upd_ne ne, upd_same], Nat.zero_le _, ne, e2, fun _ => none, (Heap.Ns1.of_empty e3).at fun o q => Heap.get?_push_of_some _ q, fun _ => True.intro, fun y hy => absurd rfl hy⟩

end

section
variable {X : Cx} {o e value : Expr} {f : Str} {pos pos' tpos : Pos} {ta tv : TE}
end

section
variable {X : Cx} {pins : List (Addr × Obj)} {σ : St} {H : Hp} {s : Shared} {A : Around} {E : Value → Shared → Prop} {Q : Value → Shared → Prop} {c : Value} {b : Bool}
end
end L2

namespace L2
open PySem PySem.Spec PyProof.Rows

structure Room (k : Nat) (A : Around) : Prop where
  hd : A.handled = none
  dp : A.depth + 3 * k + 5 < recursionLimit
  un : A.units + 16 * k + 200 < cLine
theorem Room.mono {j k : Nat} {A : Around} (r : Room k A) (h : j ≤ k) : Room j A := ⟨r.hd, by have := r.dp; omega, by have := r.un; omega⟩
theorem Room.deeper {k : Nat} {A : Around} (r : Room (k + 1) A) (env : Env) : Room k (A.deeper env) :=
  ⟨r.hd, by have := r.dp; show A.depth + 1 + 3 * k + 5 < _; omega, by have := r.un; show A.units + 3 + 16 * k + 200 < _; omega⟩
theorem Room.in1 {k : Nat} {A : Around} (r : Room (k + 1) A) : Room k A.in1 :=
  ⟨r.hd, by have := r.dp; show A.depth + 3 * k + 5 < _; omega, by have := r.un; show A.units + 1 + 16 * k + 200 < _; omega⟩
theorem make_depth {A : Around} {C : Addr} {us : List Value} {kw : List (Str × Value)} : (A.under (.builtin "type.__call__" ⟨.ref C :: us, kw⟩)).depth = A.depth + 1 := by
  first | rfl | simp [Around.under, Code.weight, Code.isCreation, Code.isGuard, Code.isCaller, Code.frames, Code.isFrame, guardIds]
theorem make_units {A : Around} {C : Addr} {us : List Value} {kw : List (Str × Value)} : (A.under (.builtin "type.__call__" ⟨.ref C :: us, kw⟩)).units = A.units + 1 := by
  first | rfl | simp [Around.under, Code.cUnits, Code.frames, Code.isFrame]
theorem Room.make {k : Nat} {A : Around} (r : Room (k + 1) A) (C : Addr) (us : List Value) (kw : List (Str × Value)) : Room k (A.under (.builtin "type.__call__" ⟨.ref C :: us, kw⟩)) :=
  ⟨r.hd, by have := r.dp; rw [make_depth]; omega, by have := r.un; rw [make_units]; omega⟩
theorem Room.depth {k : Nat} {A : Around} (r : Room k A) : A.depth < recursionLimit := by have := r.dp; omega
theorem Room.units {k : Nat} {A : Around} (r : Room k A) : A.units + 64 < cLine := by have := r.un; omega
noncomputable def tNil : TA := fun _ H Q => Q [] H
noncomputable def tCons (ta : TE) (tr : TA) : TA := fun σ H Q => ta σ H fun x H1 => tr σ H1 fun xs H2 => Q (x :: xs) H2
section
variable {X : Cx} {e : Expr} {es : List Expr} {te : TE} {t : TA} {pos : Pos}
theorem pa_nil : PA X [] tNil := fun _ _ _ _ H Q I h => Calls.spliced_nil ⟨[], H, I, .nil, h⟩
theorem pa_cons (ha : PE X e te) (hr : PA X es t) (hs : starEach (e :: es) X.env = (false, eval e X.env) :: starEach es X.env := by rfl) : PA X (e :: es) (tCons te t) := by
  intro pos pins s σ H Q I h
  rw [hs]
  show wpAny _ _ (spliced ((false, eval e X.env) :: backTo pos (starEach es X.env))) _ _ s
  refine Calls.spliced_cons (thn (ha pins s σ H _ I h) fun u s1 ⟨x, H1, I1, r1, q1⟩ => ?_)
  exact thn (hr pos pins s1 σ H1 _ I1 q1) fun us s2 ⟨xs, H2, I2, r2, q2⟩ => ⟨x :: xs, H2, I2, .cons r1 r2, q2⟩

noncomputable def tTup (t : TA) : TE := fun σ H Q => t σ H fun xs H1 => xs.length ≤ sizeLine ∧ ∀ p, H1 p = none → Q (.ref p) (upd H1 p (.tup xs))
noncomputable def tLst (t : TA) : TE := fun σ H Q => t σ H fun xs H1 => xs.length ≤ sizeLine ∧ ∀ p, H1 p = none → Q (.ref p) (upd H1 p (.lst xs))
theorem pe_tup {x1} (h : PA X es t) : PE X (.Tuple es x1 pos) (tTup t) := by
  intro pins s σ H Q I hq
  refine wpAny_Tuple_spliced (thn (h pos pins s σ H _ I hq) fun us s1 ⟨xs, H1, I1, r, z, q⟩ => ⟨by rw [← r.length]; exact z, ?_⟩)
  have hf : H1 s1.heap.objs.size = none := I1.hok.fresh (Nat.le_refl _)
  refine ⟨.ref s1.heap.objs.size, upd H1 s1.heap.objs.size (.tup xs), I1.laid (t' := s1.toks) (fun b u e => Heap.get?_push_of_some _ e) (Nat.le_refl _) ?_, rfl, q _ hf⟩
  exact ⟨z, us, r, ⟨_, Heap.get?_push_size _ rfl, rfl, _, rfl⟩⟩
theorem pe_lst (h : PA X es t) : PE X (.List es pos) (tLst t) := by
  intro pins s σ H Q I hq
  refine wpAny_List_spliced (thn (h pos pins s σ H _ I hq) fun us s1 ⟨xs, H1, I1, r, z, q⟩ => ⟨by rw [← r.length]; exact z, ?_⟩)
  have hf : H1 s1.heap.objs.size = none := I1.hok.fresh (Nat.le_refl _)
  refine ⟨.ref s1.heap.objs.size, upd H1 s1.heap.objs.size (.lst xs), I1.laid (t' := s1.toks) (fun b u e => Heap.get?_push_of_some _ e) (Nat.le_refl _) ?_, rfl, q _ hf⟩
  exact ⟨z, us, 0, r, Heap.get?_push_size _ rfl⟩
end

noncomputable abbrev Sp := List V → Hp → VK → XK → Prop
noncomputable abbrev CXT := List Env → Hp → Shared → XK → Value → Shared → Prop

structure Env0 (P : Program) (w : World) (K : PySem.W.Frag) (mg : Str → Option Value) (base : Heap) (A : Around) (outer : List Env) (s : Shared) (H : Hp) : Prop where
  frames : A.frames = some outer
  mod : Mod K mg base
  bs : ∀ b o, base.get? b = some o → s.heap.get? b = some o ∧ H b = none
  bsz : base.objs.size ≤ s.heap.objs.size
  funs : s.heap.FunFrames base outer
  frf : ∀ b ∈ frs outer, H b = none
  hok : HOk P w H s.heap
  bare : AllBare s.gens
noncomputable def CE (outer : List Env) (P : Program) (w : World) (H : Hp) (s : Shared) (Q : VK) (u : Value) (s' : Shared) : Prop :=
  ∃ v H', s'.os = s.os ∧ AllBare s'.gens ∧ Un (frs outer) [] H H' s.heap s'.heap ∧ HOk P w H' s'.heap ∧ RelV v u ∧ Q v H'
noncomputable def CR (CX : CXT) (outer : List Env) (P : Program) (w : World) (H : Hp) (s : Shared) (Q : VK) (E : XK) (r : Result) (s' : Shared) : Prop :=
  match r with
  | .ok (.ret u) => CE outer P w H s Q u s'
  | .ok _ => False
  | .error e => CX outer H s E e s'
structure FnOk (P : Program) (w : World) (K : PySem.W.Frag) (mg : Str → Option Value) (base : Heap) (CX : CXT) (k : Nat) (f : Addr) (fd : FuncData) (ps : List Str) (sp : Sp) : Prop where
  len : ∀ vs H Q E, sp vs H Q E → vs.length = ps.length
  run : ∀ (A : Around) (outer : List Env) (s : Shared) (H : Hp) (args : Args) (us : List Value) (vs : List V) (Q : VK) (E : XK), Room k A → Env0 P w K mg base A outer s H → BindsTo s fd args (ps.zip us) → Vals vs us → sp vs H Q E →
    codeAny (model P w) A (.call (.ref f) args) (CR CX outer P w H s Q E) s
theorem FnOk.mono {P : Program} {w : World} {K : PySem.W.Frag} {mg : Str → Option Value} {base : Heap} {CX : CXT} {j k : Nat} {f : Addr} {fd : FuncData} {ps : List Str} {sp : Sp} (F : FnOk P w K mg base CX j f fd ps sp) (h : j ≤ k) :
    FnOk P w K mg base CX k f fd ps sp := ⟨F.len, fun A outer s H args us vs Q E hr => F.run A outer s H args us vs Q E (hr.mono h)⟩
theorem FnOk.imp {P : Program} {w : World} {K : PySem.W.Frag} {mg : Str → Option Value} {base : Heap} {CX : CXT} {k : Nat} {f : Addr} {fd : FuncData} {ps : List Str} {sp sp' : Sp} (F : FnOk P w K mg base CX k f fd ps sp)
    (h : ∀ vs H Q E, sp' vs H Q E → sp vs H Q E) : FnOk P w K mg base CX k f fd ps sp' :=
  ⟨fun vs H Q E q => F.len vs H Q E (h _ _ _ _ q), fun A outer s H args us vs Q E hr he hb hv hs => F.run A outer s H args us vs Q E hr he hb hv (h _ _ _ _ hs)⟩

theorem Env0.make {P : Program} {w : World} {K : PySem.W.Frag} {mg : Str → Option Value} {base : Heap} {A : Around} {outer : List Env} {s : Shared} {H : Hp} (e : Env0 P w K mg base A outer s H) (C : Addr) (us : List Value) (kw : List (Str × Value)) :
    Env0 P w K mg base (A.under (.builtin "type.__call__" ⟨.ref C :: us, kw⟩)) outer s H := ⟨by first | exact e.frames | (simpa [Around.under, Code.envs, Code.isFrame, pushEnvs] using e.frames), e.mod, e.bs, e.bsz, e.funs, e.frf, e.hok, e.bare⟩
theorem Env0.in1 {P : Program} {w : World} {K : PySem.W.Frag} {mg : Str → Option Value} {base : Heap} {A : Around} {outer : List Env} {s : Shared} {H : Hp} (e : Env0 P w K mg base A outer s H) :
    Env0 P w K mg base A.in1 outer s H := ⟨e.frames, e.mod, e.bs, e.bsz, e.funs, e.frf, e.hok, e.bare⟩

section
variable {X : Cx} {pins : List (Addr × Obj)} {σ : St} {H : Hp} {s s' : Shared}
theorem Inv.env0 (I : Inv X pins σ H s) : Env0 X.prog X.w X.K X.mg X.base X.A X.stack s H :=
  ⟨I.ok.frames, I.ok.mod, I.bs, Nat.le_trans I.ok.bsz I.sz, I.stack, I.stkFree, I.hok, I.bare⟩
theorem Inv.after {Q : VK} {u : Value} (I : Inv X pins σ H s) (h : CE X.stack X.prog X.w H s Q u s') : EP X pins σ Q u s' := by
  obtain ⟨v, H', os, bare, un, hok, r, q⟩ := h
  obtain ⟨hh, g, d, t, os'⟩ := s'
  obtain rfl : os' = s.os := os
  exact ⟨v, H', I.call (h' := hh) (g' := g) (d' := d) (t' := t) (ch := []) un hok bare (fun b z => absurd z (by simp)), r, q⟩
end

noncomputable def tCall (sp : Sp) (dvs : List V) (E : XK) (t : TA) : TE := fun σ H Q => t σ H fun vs H1 => sp (vs ++ dvs) H1 Q E
noncomputable def Binds (K : PySem.W.Frag) (fd : FuncData) (ps : List Str) (ds : List Value) : Prop :=
  ∀ (s : Shared) (us : List Value), K.In s.heap → (us ++ ds).length = ps.length → BindsTo s fd ⟨us, []⟩ (ps.zip (us ++ ds))
theorem Binds.all {K : PySem.W.Frag} {fd : FuncData} {ps : List Str} (h : ∀ us : List Value, us.length = ps.length → bindArgs fd ⟨us, []⟩ = pure (ps.zip us)) : Binds K fd ps [] := fun s us _ hl => by
  rw [List.append_nil] at hl ⊢
  exact .of_eq (h us hl)

noncomputable def Passes (CX : CXT) (X : Cx) (E : XK) : Prop := ∀ (pins : List (Addr × Obj)) (σ : St) (H : Hp) (s : Shared) (e : Value) (s' : Shared), Inv X pins σ H s → CX X.stack H s E e s' → X.xe e s'

section
variable {X : Cx} {CX : CXT} {k : Nat} {f C : Addr} {fd : FuncData} {ps : List Str} {sp : Sp} {dvs : List V} {ds : List Value} {E : XK} {x m : Str} {p pos apos : Pos} {e o : Expr} {es : List Expr} {ta : TE} {t : TA}

theorem run_fn {pins : List (Addr × Obj)} {σ : St} {H : Hp} {s : Shared} {Q : VK} {us : List Value} {vs : List V} (F : FnOk X.prog X.w X.K X.mg X.base CX k f fd ps sp) (hr : Room k X.A) (hb : Binds X.K fd ps ds) (hd : Vals dvs ds) (hx : Passes CX X E)
    (I : Inv X pins σ H s) (r : Vals vs us) (h : sp (vs ++ dvs) H Q E) : wpAny (model X.prog X.w) X.A (call (.ref f) us) (EP X pins σ Q) X.xe s := by
  have r2 : Vals (vs ++ dvs) (us ++ ds) := r.append hd
  have hl : (us ++ ds).length = ps.length := by rw [← r2.length]; exact F.len _ _ _ _ h
  refine wpAny_call (codeAny_mono (F.run X.A X.stack s H ⟨us, []⟩ (us ++ ds) (vs ++ dvs) Q E hr I.env0 (hb s us I.kIn hl) r2 h) fun r s' hq => ?_)
  cases r with
  | error e => exact hx pins σ H s e s' I hq
  | ok fl =>
    cases fl with
    | ret u => exact I.after hq
    | next => exact False.elim hq
    | brk => exact False.elim hq
    | cont => exact False.elim hq

theorem pe_call (F : FnOk X.prog X.w X.K X.mg X.base CX k f fd ps sp) (hr : Room k X.A) (hg : Gl X x) (hm : X.mg x = some (.ref f)) (hk : PySem.W.keepIn X.K (.ref f) = true) (hb : Binds X.K fd ps ds) (hd : Vals dvs ds) (hx : Passes CX X E)
    (ha : PA X (e :: es) t) (hdb : (x == ("__debug__" : Str)) = false := by decide) (he : starEach (e :: es) X.env = (false, eval e X.env) :: starEach es X.env := by rfl) (hpl : (backTo pos (starEach es X.env)).any (·.1) = false := by rfl) :
    PE X (.Call (.Name x p) (e :: es) [] pos) (tCall sp dvs E t) := by
  intro pins s σ H Q I h
  refine wpAny_Call_Name_kw (ld_glob I hg hm ?_ hdb)
  refine PySem.W.callWith_K (h₀ := X.base) I.ok.mod.kin hk (thn (ha pos pins s σ H _ I h) fun us s1 ⟨vs, H1, I1, r, q⟩ => ⟨I1.kIn, ?_⟩) he hpl
  exact run_fn F hr hb hd hx I1 r q
theorem pe_call0 (F : FnOk X.prog X.w X.K X.mg X.base CX k f fd ps sp) (hr : Room k X.A) (hg : Gl X x) (hm : X.mg x = some (.ref f)) (hk : PySem.W.keepIn X.K (.ref f) = true) (hb : Binds X.K fd ps ds) (hd : Vals dvs ds) (hx : Passes CX X E)
    (hdb : (x == ("__debug__" : Str)) = false := by decide) : PE X (.Call (.Name x p) [] [] pos) (tCall sp dvs E tNil) := by
  intro pins s σ H Q I h
  refine wpAny_Call_Name_kw (ld_glob I hg hm ?_ hdb)
  exact PySem.W.callWith_K0 I.kIn hk (run_fn (us := []) F hr hb hd hx I .nil h)

end

section
variable {X : Cx} {CX : CXT} {k : Nat} {f C : Addr} {fd : FuncData} {ps ks : List Str} {sp : Sp} {E : XK} {x m : Str} {p pos apos kpos : Pos} {e o : Expr} {es : List Expr} {kws : List Keyword} {te ta : TE} {t tk : TA} {nm : Option Str}
variable {g : List Value → List Value → List Value} {gV : List V → List V → List V}
end

structure FnScope (N P : List Str) (sc : Scope) : Prop where
  kind : sc.kind = .function
  co : sc.isCoroutine = false
  gen : sc.isGenerator = false
  nd : N.Nodup
  pre : N.take P.length = P
  par : ∀ x ∈ P, sc.names.lookup x = some .local ∨ sc.names.lookup x = some .cell
  nofree : ∀ y ∈ sc.names, y.2 ≠ .free

theorem bindL_out {kindOf : Str → Option NameKind} {x : Str} : ∀ {binds : List (Str × Value)} {m : Str → Option Value}, (∀ v, (x, v) ∉ binds) → bindL kindOf binds m x = m x
  | [], _, _ => rfl
  | (n, v) :: r, m, h => by
    unfold bindL
    rw [bindL_out fun w hw => h w (List.mem_cons_of_mem _ hw)]
    split
    · have : x ≠ n := by rintro rfl; exact h v List.mem_cons_self
      simp [this]
    · rfl
theorem bindC_out {kindOf : Str → Option NameKind} {x : Str} : ∀ {binds : List (Str × Value)} {m : Str → Option Value}, (∀ v, (x, v) ∉ binds) → bindC kindOf binds m x = m x
  | [], _, _ => rfl
  | (n, v) :: r, m, h => by
    unfold bindC
    rw [bindC_out fun w hw => h w (List.mem_cons_of_mem _ hw)]
    split
    · rfl
    · have : x ≠ n := by rintro rfl; exact h v List.mem_cons_self
      simp [this]
theorem bindL_get {kindOf : Str → Option NameKind} {x : Str} {v : Value} : ∀ {P : List Str} {vs : List Value} {i : Nat} {m : Str → Option Value}, P.Nodup → P[i]? = some x → vs[i]? = some v → kindOf x = some .local →
    bindL kindOf (P.zip vs) m x = some v
  | [], _, _, _, _, h, _, _ => by simp at h
  | _ :: _, [], _, _, _, _, h, _ => by simp at h
  | p :: P, w :: vs, 0, m, nd, h1, h2, hk => by
    simp at h1 h2; subst h1; subst h2
    show bindL kindOf ((p, w) :: P.zip vs) m p = _
    unfold bindL
    rw [bindL_out fun v hv => (List.nodup_cons.mp nd).1 (List.of_mem_zip hv).1, if_pos hk]
    simp
  | p :: P, w :: vs, i + 1, m, nd, h1, h2, hk => by
    show bindL kindOf ((p, w) :: P.zip vs) m x = _
    unfold bindL
    exact bindL_get (i := i) (List.nodup_cons.mp nd).2 (by simpa using h1) (by simpa using h2) hk
theorem bindC_get {kindOf : Str → Option NameKind} {x : Str} {v : Value} : ∀ {P : List Str} {vs : List Value} {i : Nat} {m : Str → Option Value}, P.Nodup → P[i]? = some x → vs[i]? = some v → kindOf x ≠ some .local →
    bindC kindOf (P.zip vs) m x = some v
  | [], _, _, _, _, h, _, _ => by simp at h
  | _ :: _, [], _, _, _, _, h, _ => by simp at h
  | p :: P, w :: vs, 0, m, nd, h1, h2, hk => by
    simp at h1 h2; subst h1; subst h2
    show bindC kindOf ((p, w) :: P.zip vs) m p = _
    unfold bindC
    rw [bindC_out fun v hv => (List.nodup_cons.mp nd).1 (List.of_mem_zip hv).1, if_neg hk]
    simp
  | p :: P, w :: vs, i + 1, m, nd, h1, h2, hk => by
    show bindC kindOf ((p, w) :: P.zip vs) m x = _
    unfold bindC
    exact bindC_get (i := i) (List.nodup_cons.mp nd).2 (by simpa using h1) (by simpa using h2) hk

noncomputable def start (N : List Str) (vs : List V) : St := vs.map some ++ List.replicate (N.length - vs.length) none

noncomputable def cxOf (CX : CXT) (P : Program) (w : World) (K : PySem.W.Frag) (mg : Str → Option Value) (base : Heap) (N : List Str) (qual : Str) (scope : Scope) (f : Addr) (cd : Value) (A : Around) (outer : List Env) (s : Shared) (H : Hp) (E : XK) : Cx where
  prog := P
  w := w
  K := K
  mg := mg
  base := base
  A := A.deeper (envOfC qual scope s.heap.objs.size f cd)
  N := N
  s₀ := s
  H₀ := H
  env := envOfC qual scope s.heap.objs.size f cd
  outer := outer
  stack := envOfC qual scope s.heap.objs.size f cd :: outer
  ex := []
  calm := true
  fn := fun _ => true
  pn := []
  xe := fun e s' => wpAny (model P w) (A.deeper (envOfC qual scope s.heap.objs.size f cd)) (leaving (envOfC qual scope s.heap.objs.size f cd) e) (fun _ s'' => CX outer H s E e s'') (fun e' s'' => CX outer H s E e' s'') s'

theorem cell_has {sc : Scope} {n : Nat} {x : Str} (h : sc.names.lookup x = some .cell) : ∃ c, (cellsFrom n sc.names []).lookup x = some c := by
  have q := PySem.W.cellsFrom_some sc.names n [] (.inl h)
  exact Option.isSome_iff_exists.mp q

theorem inv_start {CX : CXT} {P : Program} {w : World} {K : PySem.W.Frag} {mg : Str → Option Value} {base : Heap} {N ps : List Str} {qual : Str} {scope : Scope} {f : Addr} {cd : Value} {A : Around} {outer : List Env} {s s1 : Shared} {H : Hp} {E : XK} {us : List Value} {vs : List V}
    (S : FnScope N ps scope) (hd : A.handled = none) (e0 : Env0 P w K mg base A outer s H) (hl : vs.length = ps.length) (r : Vals vs us)
    (x : InCallC s s.heap.objs.size (bindL (envOfC qual scope s.heap.objs.size f cd).kindOf (ps.zip us) fun _ => none) (cellsFrom (s.heap.objs.size + 1) scope.names []) (bindC (envOfC qual scope s.heap.objs.size f cd).kindOf (ps.zip us) fun _ => none) s1) :
    Inv (cxOf CX P w K mg base N qual scope f cd A outer s H E) [] (start N vs) H s1 := by
  have hpl : ps.length ≤ N.length := by have := congrArg List.length S.pre; rw [List.length_take] at this; omega
  obtain ⟨h1, tk, rfl, hk⟩ := x.done
  have noA : ∀ b : Addr, b ∉ (cxOf CX P w K mg base N qual scope f cd A outer s H E).ex := fun b z => absurd (show b ∈ ([] : List Addr) from z) (by simp)
  refine ⟨⟨e0.mod, S.kind, rfl, rfl, Nat.le_refl _, fun y z c h1 h2 => ?_, fun y hy => ?_, fun y c _ h => ?_, fun _ => hd, Around.frames_deeper e0.frames, .inr ⟨rfl, rfl⟩, fun b z => absurd z (noA b), e0.bs, e0.bsz, fun b _ _ => noA b, fun b z => absurd z (noA b), e0.funs, e0.frf⟩,
    rfl, e0.bare, Un.kept hk, ⟨_, x.toInCall.ns, fun i y v h1 h2 h3 => ?_⟩, fun y c h => ⟨_, x.cell y c h⟩, e0.hok.fresh (Nat.le_refl _), fun y c h => ?_, fun p hp => absurd (show p ∈ ([] : List (Addr × Obj)) from hp) (by simp), e0.hok.kept hk, ?_⟩
  · exact name_of_addr x.apart (PySem.mem_of_lookup h1) (PySem.mem_of_lookup h2)
  · have hy : scope.names.lookup y = some .cell ∨ scope.names.lookup y = some .free := hy
    rcases hy with hy | hy
    · exact cell_has hy
    · exact absurd rfl (S.nofree _ (PySem.mem_of_lookup hy))
  · exact Nat.le_of_lt (x.above y c (PySem.mem_of_lookup h))
  · have hi : i < vs.length := by
      unfold start at h2
      by_cases hi : i < vs.length
      · exact hi
      · rw [List.getElem?_append_right (by simpa using hi)] at h2
        rw [List.getElem?_replicate] at h2
        split at h2 <;> cases h2
    have ha : vs[i]? = some v := by
      unfold start at h2
      rw [List.getElem?_append_left (by simpa using hi), List.getElem?_map] at h2
      cases e : vs[i]? with
      | none => rw [e] at h2; cases h2
      | some a => rw [e] at h2; cases h2; rfl
    obtain ⟨u, hu, rv⟩ := r.get ha
    have hp : ps[i]? = some y := by
      rw [← S.pre, List.getElem?_take_of_lt (by omega)]; exact h1
    have ndP : ps.Nodup := by rw [← S.pre]; exact S.nd.sublist (List.take_sublist _ _)
    refine ⟨u, rv, ?_⟩
    rcases S.par y (List.mem_of_getElem? hp) with k | k
    · exact .inl ⟨k, bindL_get ndP hp hu k⟩
    · obtain ⟨c, e⟩ := cell_has (n := s.heap.objs.size + 1) k
      refine .inr ⟨.inl k, c, e, ?_⟩
      have q := x.cell y c e
      rw [bindC_get ndP hp hu (by show scope.names.lookup y ≠ _; rw [k]; decide)] at q
      exact q
  · exact e0.hok.fresh (Nat.le_of_lt (x.above y c (PySem.mem_of_lookup h)))
  · unfold start
    show _ = N.length
    rw [List.length_append, List.length_map, List.length_replicate]
    omega

theorem fn_of {CX : CXT} {P : Program} {w : World} {K : PySem.W.Frag} {mg : Str → Option Value} {base : Heap} {k : Nat} {f : Addr} {name qual : Str} {params : Arguments} {body : List Stmt} {scope : Scope} {dV kV doc pm cdv ct oc : Value} {an od : Option Addr}
    {osl : Array (Option Value)} {N ps : List Str} {sp : Sp} (lk : K.lookup f = some ⟨oc, od, .func (PySem.W.fnOf name qual params body scope dV kV doc pm an cdv ct), osl⟩) (hcd : PySem.W.codeIn K cdv qual = true) (S : FnScope N ps scope)
    (len : ∀ vs H Q E, sp vs H Q E → vs.length = ps.length)
    (hbody : ∀ (A : Around) (outer : List Env) (s : Shared) (H : Hp) (vs : List V) (Q : VK) (E : XK), Room k (A.deeper (envOfC qual scope s.heap.objs.size f cdv)) → sp vs H Q E →
      ∃ t, PSs (cxOf CX P w K mg base N qual scope f cdv A outer s H E) body t ∧ t { nx := fun _ H' => Q .non H', rt := Q } (start N vs) H) :
    FnOk P w K mg base CX (k + 1) f (PySem.W.fnOf name qual params body scope dV kV doc pm an cdv ct) ps sp := by
  refine ⟨len, fun A outer s H args us vs Q E hr e0 hb r hsp => ?_⟩
  have hl := len _ _ _ _ hsp
  have KX : K.In s.heap := e0.mod.kin.keeps fun b o e => (e0.bs b o e).1
  have lim : s.heap.NoLimit := e0.mod.nolimit.keeps fun b o e => (e0.bs b o e).1
  have hkind : ∀ y ∈ ps.zip us, scope.names.lookup y.1 = some .local ∨ (scope.names.lookup y.1 = some .cell ∧ ((cellsFrom (s.heap.objs.size + 1) scope.names []).lookup y.1).isSome = true) := fun ⟨n, v⟩ hy => by
    rcases S.par n (List.of_mem_zip hy).1 with q | q
    · exact .inl q
    · exact .inr ⟨q, PySem.W.cellsFrom_some _ _ _ (.inl q)⟩
  refine codeAny_call_function hr.depth (KX _ _ lk) rfl S.co S.gen rfl (PySem.W.codeRec_of KX hcd) (hb _ _ _ _ ?_)
  refine wpAny_newFunctionEnv_cells S.kind hkind fun env he s1 x => ?_
  subst he
  refine ⟨lim.keeps x.toInCall.keep, codeAny_func ?_⟩
  obtain ⟨t, ht, hq⟩ := hbody A outer s H vs Q E (hr.deeper _) hsp
  have I : Inv (cxOf CX P w K mg base N qual scope f cdv A outer s H E) [] (start N vs) H s1 := inv_start S hr.hd e0 hl r x
  refine wpAny_mono (ht [] s1 (start N vs) H _ I hq) (fun fl s' hs => ?_) fun e s' hs => hs
  have fin : ∀ {σ' : St} {H' : Hp} {v : V} {u : Value}, Inv (cxOf CX P w K mg base N qual scope f cdv A outer s H E) [] σ' H' s' → RelV v u → Q v H' → CE outer P w H s Q u s' :=
    fun {σ' H' v u} J rv q => ⟨v, H', J.os, J.bare, J.base, J.hok, rv, q⟩
  cases fl with
  | ret u =>
    obtain ⟨v, σ', H', J, rv, q⟩ := hs
    exact fin J rv q
  | next =>
    obtain ⟨σ', H', J, q⟩ := hs
    exact fin (v := V.non) (u := Value.none) J rfl q
  | brk =>
    obtain ⟨_, _, _, q⟩ := hs
    exact False.elim q
  | cont =>
    obtain ⟨_, _, _, q⟩ := hs
    exact False.elim q
end L2

namespace L2
open PySem PySem.Spec PyProof.Rows
section
variable {X : Cx} {x : Str} {p pos : Pos} {e : Expr} {es : List Expr} {t : TA} {id T : String} {r : List V → Hp → VK → Prop}

noncomputable def tCB (r : List V → Hp → VK → Prop) (t : TA) : TE := fun σ H Q => t σ H fun vs H1 => r vs H1 Q
theorem pe_callB (hc : CallR X (.builtin id) r) (hg : Gl X x) (hm : X.mg x = none) (hv : bootBuiltins x = some (.builtin id)) (ha : PA X (e :: es) t) (hn : x ≠ "__name__" := by decide) (hdb : (x == ("__debug__" : Str)) = false := by decide)
    (he : starEach (e :: es) X.env = (false, eval e X.env) :: starEach es X.env := by rfl) (hpl : (backTo pos (starEach es X.env)).any (·.1) = false := by rfl) : PE X (.Call (.Name x p) (e :: es) [] pos) (tCB r t) := by
  intro pins s σ H Q I h
  refine wpAny_Call_Name_kw (ld_blt I hg hm hv ?_ hn hdb)
  exact PyProof.Rows.callWith_builtin1 (thn (ha pos pins s σ H _ I h) fun us s1 ⟨vs, H1, I1, r1, q1⟩ => hc pins s1 σ H1 vs us Q I1 r1 q1) he hpl
theorem pe_callTy (hc : CallR X (.type T) r) (hg : Gl X x) (hm : X.mg x = none) (hv : bootBuiltins x = some (.type T)) (ha : PA X (e :: es) t) (hn : x ≠ "__name__" := by decide) (hdb : (x == ("__debug__" : Str)) = false := by decide)
    (he : starEach (e :: es) X.env = (false, eval e X.env) :: starEach es X.env := by rfl) (hpl : (backTo pos (starEach es X.env)).any (·.1) = false := by rfl) : PE X (.Call (.Name x p) (e :: es) [] pos) (tCB r t) := by
  intro pins s σ H Q I h
  refine wpAny_Call_Name_kw (ld_blt I hg hm hv ?_ hn hdb)
  exact PyProof.Rows.callWith_type1 (thn (ha pos pins s σ H _ I h) fun us s1 ⟨vs, H1, I1, r1, q1⟩ => hc pins s1 σ H1 vs us Q I1 r1 q1) he hpl
end
end L2

namespace HT
open PySem PyProof.Rows

section
open PySem.SeqAt
open PySem.AutoSeq1 (wpAny_loadPart')
open PySem.MeetsSeq PySem.MeetsSeq2 PySem.MeetsSeq3

end

section
variable {prog : Program} {w : World} {A : Around} {E : Value → Shared → Prop} {s : Shared}

theorem cat_tup {t b : Addr} {vs ws : List Value} {Q : Value → Shared → Prop} (ht : IsTup s.heap t vs.toArray) (hb : IsTup s.heap b ws.toArray) (hv : vs ≠ [])
    (h1 : ws = [] → Q (.ref t) s) (h2 : ws ≠ [] → Q (.ref s.heap.objs.size) { s with heap := s.heap.push { cls := .type "tuple", data := .seq (vs ++ ws).toArray } })
    (hsz : vs.length + ws.length ≤ sizeLine) : wpAny (model prog w) A (binaryOp .Add (.ref t) (.ref b)) Q E s := by
  obtain ⟨⟨cls, dd, data, sl⟩, ho, hc, n, hd⟩ := id ht
  obtain ⟨⟨cls2, dd2, data2, sl2⟩, ho2, hc2, n2, hd2⟩ := id hb
  simp only at hc hd hc2 hd2
  subst hc hd hc2 hd2
  have e : vs.toArray ++ ws.toArray = (vs ++ ws).toArray := by simp
  by_cases hw : ws = []
  · exact concat_meets ⟨_, ho, rfl⟩ ⟨_, ho2, rfl⟩ noFill_tuple_add seq_tuple_add PySem.F.slot_tuple_add PySem.F.entry_tuple_add (PySem.F.args_tuple_add_2 _ _)
      (tuple_addW1 t b vs.toArray ws.toArray n n2 dd dd2 sl sl2 (by simpa using hv) (by simp [hw])) ⟨ho, ho2, h1 hw⟩
  · refine concat_meets ⟨_, ho, rfl⟩ ⟨_, ho2, rfl⟩ noFill_tuple_add seq_tuple_add PySem.F.slot_tuple_add PySem.F.entry_tuple_add (PySem.F.args_tuple_add_2 _ _)
      (tuple_addW2 t b vs.toArray ws.toArray n n2 dd dd2 sl sl2 (by simpa using hv) (by simpa using hw) (by rw [List.size_toArray, List.size_toArray]; exact hsz)) ⟨ho, ho2, ?_⟩
    rw [e]
    exact h2 hw

noncomputable def sIx (n d : Nat) : Option Int → Nat
  | none => d
  | some v => if v < 0 then (v + (n : Int)).toNat else min v.toNat n
theorem sIx_le (n d : Nat) (hd : d ≤ n) (o : Option Int) : sIx n d o ≤ n := by
  cases o with
  | none => exact hd
  | some v =>
    show (if v < 0 then (v + (n : Int)).toNat else min v.toNat n) ≤ n
    by_cases hv : v < 0
    · rw [if_pos hv]; omega
    · rw [if_neg hv]; exact Nat.min_le_right _ _
theorem clip_eq (v : Int) (n d : Nat) : (if v < 0 then max (v + (n : Int)) 0 else min v (n : Int)) = ((sIx n d (some v) : Nat) : Int) := by
  show (if v < 0 then max (v + (n : Int)) 0 else min v (n : Int)) = (((if v < 0 then (v + (n : Int)).toNat else min v.toNat n) : Nat) : Int)
  by_cases hv : v < 0
  · simp only [if_pos hv]; omega
  · simp only [if_neg hv]; omega
theorem adjust_gen (lo hi : Option Int) (n : Nat) : Builtin.Slice.sliceAdjust lo hi 1 (n : Int) = (((sIx n 0 lo : Nat) : Int), ((sIx n n hi : Nat) : Int)) := by
  have h1 : ¬ ((1 : Int) < 0) := by omega
  unfold Builtin.Slice.sliceAdjust
  simp only [h1, if_false]
  refine Prod.ext ?_ ?_
  · cases lo with
    | none => rfl
    | some v => exact clip_eq v n 0
  · cases hi with
    | none => rfl
    | some v => exact clip_eq v n n
theorem places_gen (i j : Nat) : Builtin.Slice.slicePlaces (i : Int) (j : Int) 1 = j - i := by
  unfold Builtin.Slice.slicePlaces
  have h1 : (1 : Int) > 0 := by omega
  simp only [h1, if_true, Int.ediv_one]
  split <;> omega
theorem slicePart_ {v : Value} {o : Option Int} {Q : Option Int → Shared → Prop} (p : IsPart v o) (h : Q o s) : wpAny (model prog w) A (Builtin.Slice.slicePartIndex v) Q E s := by
  cases p with
  | none => exact slicePart_none h
  | int i t => exact slicePart_int h
theorem sliceApplied_gen {sl : Addr} {vl vu : Value} {lo hi : Option Int} {n : Nat} {Q : Int × Int × Nat → Shared → Prop} (hs : s.heap.IsSliceOf sl vl vu .none) (pl : IsPart vl lo) (pu : IsPart vu hi)
    (h : Q (((sIx n 0 lo : Nat) : Int), 1, sIx n n hi - sIx n 0 lo) s) : wpAny (model prog w) A (Builtin.Slice.sliceApplied (.ref sl) (pure (n : Int))) Q E s := by
  obtain ⟨os, hos, hcs, hds⟩ := id hs
  unfold Builtin.Slice.sliceApplied Builtin.Slice.sliceFields
  refine wpAny_bind (wpAny_bind (wpAny_field hos hds (x := vl) rfl (wpAny_bind (wpAny_field hos hds (x := vu) rfl (wpAny_bind (wpAny_field hos hds (x := .none) rfl (wpAny_pure ?_)))))))
  refine wpAny_bind (slicePart_none ?_)
  show wpAny _ _ (if ((1 : Int) == 0) = true then _ else _) _ _ s
  rw [if_neg (by decide)]
  refine wpAny_bind (slicePart_ pl (wpAny_bind (slicePart_ pu (wpAny_bind (wpAny_pure ?_)))))
  show wpAny _ _ (match Builtin.Slice.sliceAdjust lo hi 1 (n : Int) with | (lo, hi) => pure (lo, (1 : Int), Builtin.Slice.slicePlaces lo hi 1)) _ _ s
  rw [adjust_gen lo hi n]
  show wpAny _ _ (pure (((sIx n 0 lo : Nat) : Int), (1 : Int), Builtin.Slice.slicePlaces ((sIx n 0 lo : Nat) : Int) ((sIx n n hi : Nat) : Int) 1)) _ _ s
  rw [places_gen]
  exact wpAny_pure h
theorem pick_gen (xs : Array Value) (i k : Nat) : ((List.range k).filterMap fun (m : Nat) => xs[((i : Int) + (m : Int) * 1).toNat]?).toArray = ((xs.toList.drop i).take k).toArray := by
  have e : (fun (m : Nat) => xs[((i : Int) + (m : Int) * 1).toNat]?) = fun m => xs[i + m]? := by
    funext m
    have : ((i : Int) + (m : Int) * 1).toNat = i + m := by omega
    rw [this]
  rw [e]
  have := pick_run xs i k
  rw [List.filterMap_map] at this
  have e2 : ((fun x => xs[x]?) ∘ fun x => i + x) = fun m => xs[i + m]? := rfl
  rw [e2] at this
  rw [this]

theorem getItem_tuple_cut {t sl : Addr} {items : Array Value} {vl vu : Value} {lo hi : Option Int} {Q : Value → Shared → Prop} (ht : IsTup s.heap t items) (hs : s.heap.IsSliceOf sl vl vu .none) (pl : IsPart vl lo) (pu : IsPart vu hi)
    (hw : ¬ (sIx items.size 0 lo = 0 ∧ sIx items.size items.size hi = items.size))
    (h : Q (.ref s.heap.objs.size) { s with heap := s.heap.push { cls := .type "tuple", data := .seq ((items.toList.drop (sIx items.size 0 lo)).take (sIx items.size items.size hi - sIx items.size 0 lo)).toArray } })
    (hsz : items.size ≤ sizeLine) : wpAny (model prog w) A (getItem (.ref t) (.ref sl)) Q E s := by
  have htake : sizeOk (.seq ((items.toList.drop (sIx items.size 0 lo)).take (sIx items.size items.size hi - sIx items.size 0 lo)).toArray) := by
    show ((items.toList.drop (sIx items.size 0 lo)).take (sIx items.size items.size hi - sIx items.size 0 lo)).toArray.size ≤ sizeLine
    rw [List.size_toArray, List.length_take, List.length_drop, Array.length_toList]
    omega
  have hj : sIx items.size items.size hi ≤ items.size := sIx_le _ _ (Nat.le_refl _) hi
  obtain ⟨os, hos, hcs, hds⟩ := id hs
  have hTs : s.TypeIs (.ref sl) "slice" := ⟨os, hos, hcs⟩
  unfold getItem
  try with_reducible refine wpAny_holding ?_
  first | refine wpAny_bind (wpAny_pure ?_) | skip
  refine wpAny_bind (wpAny_sequenceKey ht.typeIs (by decide) ?_)
  refine wpAny_bind (wpAny_callSpecial?_slot (name := Str.ofString "__getitem__") ht.typeIs PyProof.Rows.slot_tuple_getitem
    (wpAny_call_entry PyProof.Rows.slot_tuple_getitem ht.typeIs entry_tuple_getitem ?_ (args_tuple_getitem _ _)))
  show wpAny _ _ (Builtin.Tuple.tupleItemsOf (.ref t) >>= _) _ _ s
  refine wpAny_bind (tupleItemsOf_ ht ?_)
  refine wpAny_bind (wpAny_typeOf hTs ?_)
  rw [if_pos (by decide)]
  refine wpAny_bind (sliceApplied_gen hs pl pu ?_)
  have hno : ¬ ((((sIx items.size 0 lo : Nat) : Int) == 0 && (1 : Int) == 1 && (sIx items.size items.size hi - sIx items.size 0 lo) == items.size) = true) := by
    intro q
    rw [Bool.and_eq_true, Bool.and_eq_true] at q
    have q1 : ((sIx items.size 0 lo : Nat) : Int) = 0 := eq_of_beq q.1.1
    have q2 : sIx items.size items.size hi - sIx items.size 0 lo = items.size := eq_of_beq q.2
    exact hw ⟨by omega, by omega⟩
  show wpAny _ _ (if (((sIx items.size 0 lo : Nat) : Int) == 0 && (1 : Int) == 1 && (sIx items.size items.size hi - sIx items.size 0 lo) == items.size) = true then _ else _) _ _ s
  rw [if_neg hno, pick_gen]
  first
    | exact wpAny_bind (m := Builtin.Tuple.tupleExact _) (wpAny_newObj_type (wpAny_pure ⟨_, rfl, wpAny_pure h⟩) htake)
    | exact wpAny_bind (m := Builtin.Tuple.tupleExact _) (wpAny_newObj_type (wpAny_bind (wpAny_pure (wpAny_pure ⟨_, rfl, wpAny_pure h⟩))) htake)
    | exact wpAny_bind (wpAny_bind (m := Builtin.Tuple.tupleExact _) (wpAny_newObj_type (wpAny_pure (wpAny_pure ⟨_, rfl, wpAny_pure h⟩)) htake))
    | exact wpAny_bind (wpAny_bind (m := Builtin.Tuple.tupleExact _) (wpAny_newObj_type (wpAny_pure ⟨_, rfl, wpAny_pure h⟩) htake))
end
end HT

namespace L2
open PySem PySem.Spec PyProof.Rows

noncomputable abbrev TO := St → Hp → (Option Int → Hp → Prop) → Prop
noncomputable def PO (X : Cx) (e : Option Expr) (t : TO) : Prop :=
  ∀ (pins : List (Addr × Obj)) (s : Shared) (σ : St) (H : Hp) (Q : Option Int → Hp → Prop), Inv X pins σ H s → t σ H Q →
    wpAny (model X.prog X.w) X.A (evalPart e X.env) (fun u s' => ∃ o H', Inv X pins σ H' s' ∧ IsPart u o ∧ Q o H') X.xe s
noncomputable def tNoPart : TO := fun _ H Q => Q none H
noncomputable def tPart (t : TE) : TO := fun σ H Q => t σ H fun x H1 => ∃ i, x = .int i ∧ Q (some i) H1

section
variable {X : Cx} {e : Expr} {te : TE} {lo hi : Option Expr} {tl th : TO} {pos p2 : Pos}

theorem po_none : PO X none tNoPart := by
  intro pins s σ H Q I h
  rw [evalPart_none]
  exact wpAny_pure ⟨none, H, I, .none, h⟩
theorem po_some (h : PE X e te) : PO X (some e) (tPart te) := by
  intro pins s σ H Q I hw
  rw [evalPart_some]
  refine thn (h pins s σ H _ I hw) fun u s1 ⟨x, H1, I1, r1, q1⟩ => ?_
  obtain ⟨i, rfl, q⟩ := q1
  obtain ⟨t, rfl⟩ := r1
  exact ⟨some i, H1, I1, .int i t, q⟩

noncomputable def SlR (X : Cx) (r : V → Option Int → Option Int → Hp → VK → Prop) : Prop :=
  ∀ (pins : List (Addr × Obj)) (s : Shared) (σ : St) (H : Hp) (x : V) (v vl vu : Value) (lo hi : Option Int) (sl : Addr) (Q : VK), Inv X pins σ H s → RelV x v → s.heap.IsSliceOf sl vl vu .none → IsPart vl lo → IsPart vu hi → r x lo hi H Q →
    ∃ T id, typeLookup (.type T) "__getitem__" = pure (some (.builtin id)) ∧ s.TypeIs v T ∧ wpAny (model X.prog X.w) X.A (getItem v (.ref sl)) (EP X pins σ Q) X.xe s
theorem SlR.or {r r' : V → Option Int → Option Int → Hp → VK → Prop} (h : SlR X r) (h' : SlR X r') : SlR X (fun x lo hi H Q => r x lo hi H Q ∨ r' x lo hi H Q) := by
  intro pins s σ H x v vl vu lo hi sl Q I rx hs pl pu q
  rcases q with q | q
  · exact h pins s σ H x v vl vu lo hi sl Q I rx hs pl pu q
  · exact h' pins s σ H x v vl vu lo hi sl Q I rx hs pl pu q
noncomputable def tSl (r : V → Option Int → Option Int → Hp → VK → Prop) (te : TE) (tl th : TO) : TE := fun σ H Q => te σ H fun x H1 => tl σ H1 fun l H2 => th σ H2 fun u H3 => r x l u H3 Q
theorem pe_slice {r : V → Option Int → Option Int → Hp → VK → Prop} (hr : SlR X r) (he : PE X e te) (hl : PO X lo tl) (hu : PO X hi th) : PE X (.Subscript e (.Slice lo hi none p2) pos) (tSl r te tl th) := by
  intro pins s σ H Q I h
  refine Subscript_ (thn (he pins s σ H _ I h) fun v s1 ⟨x, H1, I1, r1, q1⟩ => ?_)
  refine wpAny_Slice (thn (hl pins s1 σ H1 _ I1 q1) fun vl s2 ⟨l, H2, I2, pl, q2⟩ => thn (hu pins s2 σ H2 _ I2 q2) fun vu s3 ⟨u, H3, I3, pu, q3⟩ => ?_)
  rw [evalPart_none]
  refine wpAny_pure ?_
  have I4 : Inv X pins σ H3 { s3 with heap := s3.heap.push { cls := .type "slice", data := .fields #[vl, vu, .none] } } := I3.kept (t' := s3.toks) fun b ob q => Heap.get?_push_of_some _ q
  obtain ⟨T, id, hT, ht, hg⟩ := hr pins { s3 with heap := s3.heap.push { cls := .type "slice", data := .fields #[vl, vu, .none] } } σ H3 x v vl vu l u s3.heap.objs.size Q I4 r1 (Heap.IsSliceOf.new ..) pl pu q3
  show wpAny (model X.prog X.w) X.A (subscriptTail e (.Slice lo hi none p2) v (.ref s3.heap.objs.size)) (EP X pins σ Q) X.xe { s3 with heap := s3.heap.push { cls := .type "slice", data := .fields #[vl, vu, .none] } }
  exact tail_any (ops := [.ref s3.heap.objs.size, v]) ht hT hg (by with_unfolding_all rfl)

noncomputable def cutV (xs : List V) (lo hi : Option Int) : List V := (xs.drop (HT.sIx xs.length 0 lo)).take (HT.sIx xs.length xs.length hi - HT.sIx xs.length 0 lo)
theorem cutV_length (xs : List V) (lo hi : Option Int) : (cutV xs lo hi).length ≤ xs.length := by
  unfold cutV
  rw [List.length_take, List.length_drop]
  omega
noncomputable def rSlT (K : PySem.W.Frag) : V → Option Int → Option Int → Hp → VK → Prop := fun x lo hi H Q => ∃ a xs, x = .ref a ∧ SqT K H a xs ∧
  ¬ (HT.sIx xs.length 0 lo = 0 ∧ HT.sIx xs.length xs.length hi = xs.length) ∧ ∀ p, H p = none → Q (.ref p) (upd H p (.tup (cutV xs lo hi)))
theorem sl_tup : SlR X (rSlT X.K) := by
  intro pins s σ H x v vl vu lo hi sl Q I rx hs pl pu h
  obtain ⟨a, xs, rfl, hx, hw, q⟩ := h
  cases rx
  obtain ⟨its, r, ht, hz⟩ := I.tuple hx
  have hlen : its.toArray.size = xs.length := by rw [List.size_toArray]; exact r.length.symm
  refine ⟨"tuple", _, PyProof.Rows.slot_tuple_getitem.lookup, ht.typeIs, ?_⟩
  refine HT.getItem_tuple_cut ht hs pl pu (by rw [hlen]; exact hw) ?_ (by rw [hlen]; exact hz)
  rw [hlen]
  refine ⟨.ref s.heap.objs.size, _, I.laid (t' := s.toks) (o := .tup (cutV xs lo hi)) (fun b ob q => Heap.get?_push_of_some _ q) (Nat.le_refl _) ?_, rfl, q _ (I.hok.fresh (Nat.le_refl _))⟩
  exact ⟨Nat.le_trans (cutV_length xs lo hi) hz, _, (r.drop (HT.sIx xs.length 0 lo)).take (HT.sIx xs.length xs.length hi - HT.sIx xs.length 0 lo), IsTup.new _ _⟩

noncomputable def rCatT (K : PySem.W.Frag) : R2 := fun x y H Q => ∃ a b xs ys, x = .ref a ∧ y = .ref b ∧ SqT K H a xs ∧ SqT K H b ys ∧ xs ≠ [] ∧ xs.length + ys.length ≤ sizeLine ∧
  (ys = [] → Q (.ref a) H) ∧ (ys ≠ [] → ∀ p, H p = none → Q (.ref p) (upd H p (.tup (xs ++ ys))))
theorem Vals.nil_iff {xs : List V} {us : List Value} (r : Vals xs us) : us = [] ↔ xs = [] := by
  cases r with
  | nil => simp
  | cons _ _ => simp
theorem op_catT : OpR X (binaryOp .Add) (rCatT X.K) := by
  intro pins s σ H x y v u Q I rx ry h
  obtain ⟨a, b, xs, ys, rfl, rfl, ha, hb, hx, hz, q1, q2⟩ := h
  cases rx
  cases ry
  obtain ⟨its, r1, p1, _⟩ := I.tuple ha
  obtain ⟨its2, r2, p2, _⟩ := I.tuple hb
  refine HT.cat_tup p1 p2 (fun z => hx (r1.nil_iff.mp z)) (fun z => ⟨.ref a, H, I, rfl, q1 (r2.nil_iff.mp z)⟩) (fun z => ?_) (by rw [← r1.length, ← r2.length]; exact hz)
  refine ⟨.ref s.heap.objs.size, _, I.laid (t' := s.toks) (o := .tup (xs ++ ys)) (fun b ob q => Heap.get?_push_of_some _ q) (Nat.le_refl _) ?_, rfl, q2 (fun w => z (r2.nil_iff.mpr w)) _ (I.hok.fresh (Nat.le_refl _))⟩
  exact ⟨by rw [List.length_append]; exact hz, _, r1.append r2, IsTup.new _ _⟩
end
end L2

namespace L2
open PySem PySem.Spec PyProof.Rows

noncomputable def ixN (n : Nat) (i : Int) : Option Nat := if 0 ≤ i then (if i < n then some i.toNat else none) else if -(n : Int) ≤ i then some (i + n).toNat else none
noncomputable def atI {α : Type} (xs : List α) (i : Int) : Option α := (ixN xs.length i).bind fun j => xs[j]?
theorem ixN_seq {n : Nat} {i : Int} {j : Nat} (h : ixN n i = some j) : seqIndex? i n = some j ∧ j < n ∧ -(n : Int) ≤ i ∧ i < n := by
  unfold ixN at h
  by_cases h0 : 0 ≤ i
  · rw [if_pos h0] at h
    by_cases h1 : i < n
    · rw [if_pos h1] at h
      have e : i.toNat = j := Option.some.inj h
      exact ⟨by rw [seqIndex_of h0 h1, e], by omega, by omega, h1⟩
    · rw [if_neg h1] at h; cases h
  · rw [if_neg h0] at h
    by_cases h1 : -(n : Int) ≤ i
    · rw [if_pos h1] at h
      have e : (i + n).toNat = j := Option.some.inj h
      exact ⟨by rw [seqIndex_neg (by omega) h1, e], by omega, h1, by omega⟩
    · rw [if_neg h1] at h; cases h
theorem atI_get {α : Type} {xs : List α} {i : Int} {v : α} (h : atI xs i = some v) : ∃ j, seqIndex? i xs.length = some j ∧ xs[j]? = some v ∧ j < xs.length ∧ -(xs.length : Int) ≤ i ∧ i < xs.length := by
  unfold atI at h
  cases e : ixN xs.length i with
  | none => rw [e] at h; cases h
  | some j =>
    rw [e] at h
    obtain ⟨h1, h2, h3, h4⟩ := ixN_seq e
    exact ⟨j, h1, h, h2, h3, h4⟩
noncomputable def PlainIx (b : Expr) : Prop := ∀ o i, subscripted b false o i = operate [o, i] (getItem o i)
noncomputable def IxR (X : Cx) (r : R2) : Prop :=
  ∀ (value slice : Expr) (pins : List (Addr × Obj)) (s : Shared) (σ : St) (H : Hp) (x y : V) (v u : Value) (Q : VK), Inv X pins σ H s → RelV x v → RelV y u → r x y H Q →
    subscripted slice false v u = operate [v, u] (getItem v u) → wpAny (model X.prog X.w) X.A (subscriptTail value slice v u) (EP X pins σ Q) X.xe s
noncomputable def MtR (X : Cx) (id : String) (r : V → List V → Hp → VK → Prop) : Prop :=
  ∀ (pins : List (Addr × Obj)) (s : Shared) (σ : St) (H : Hp) (x : V) (xs : List V) (v : Value) (us : List Value) (Q : VK), Inv X pins σ H s → RelV x v → Vals xs us → r x xs H Q →
    wpAny (model X.prog X.w) X.A (call (.builtin id) (v :: us)) (EP X pins σ Q) X.xe s
section
variable {X : Cx} {a b : Expr} {ta tb : TE} {pos : Pos}
theorem IxR.or {r r' : R2} (h : IxR X r) (h' : IxR X r') : IxR X (fun x y H Q => r x y H Q ∨ r' x y H Q) := by
  intro value slice pins s σ H x y v u Q I rx ry q hs
  rcases q with q | q
  · exact h value slice pins s σ H x y v u Q I rx ry q hs
  · exact h' value slice pins s σ H x y v u Q I rx ry q hs
theorem MtR.or {id : String} {r r' : V → List V → Hp → VK → Prop} (h : MtR X id r) (h' : MtR X id r') : MtR X id (fun x xs H Q => r x xs H Q ∨ r' x xs H Q) := by
  intro pins s σ H x xs v us Q I rx rs q
  rcases q with q | q
  · exact h pins s σ H x xs v us Q I rx rs q
  · exact h' pins s σ H x xs v us Q I rx rs q
theorem pe_ix {r : R2} (hr : IxR X r) (ha : PE X a ta) (hb : PE X b tb) (hs : PlainIx b) : PE X (.Subscript a b pos) (tOp r ta tb) := by
  intro pins s σ H Q I h
  exact Subscript_ (binT ha hb I h fun v u s2 x y H2 I2 rx ry q => hr a b pins s2 σ H2 x y v u Q I2 rx ry q (hs _ _))

noncomputable def rIxL (K : PySem.W.Frag) : R2 := fun x y H Q => ∃ p xs i v, x = .ref p ∧ y = .int i ∧ SqL K H p xs ∧ atI xs i = some v ∧ Q v H
noncomputable def rIxT (K : PySem.W.Frag) : R2 := fun x y H Q => ∃ p xs i v, x = .ref p ∧ y = .int i ∧ SqT K H p xs ∧ atI xs i = some v ∧ Q v H
noncomputable def rIxS : R2 := fun x y H Q => ∃ z i c, x = .str z ∧ y = .int i ∧ z.length ≤ sizeLine ∧ atI z.cps.toList i = some c ∧ Q (.str ⟨#[c]⟩) H
theorem ix_list : IxR X (rIxL X.K) := by
  intro value slice pins s σ H x y v u Q I rx ry h hs
  obtain ⟨p, xs, i, z, rfl, rfl, hq, he, q⟩ := h
  cases rx
  obtain ⟨t, rfl⟩ := ry
  obtain ⟨its, r, pl, hz⟩ := I.list hq
  obtain ⟨j, h1, h2, h3, h4, h5⟩ := atI_get he
  obtain ⟨w, ew, rw'⟩ := r.get h2
  have hl := r.length
  have hn := line63
  have fin : EP X pins σ Q w s := ⟨z, H, I, rw', q⟩
  by_cases h0 : 0 ≤ i
  · have hj : i.toNat = j := by
      rw [seqIndex_of h0 h5] at h1
      exact Option.some.inj h1
    exact item_listR pl.isList h0 (by omega) (by rw [hj]; simpa using ew) fin hs
  · have hj : (i + (its.toArray.size : Int)).toNat = j := by
      rw [seqIndex_neg (by omega) h4] at h1
      rw [List.size_toArray, ← hl]
      exact Option.some.inj h1
    exact subscriptTail_builtinR (x := w) pl.isList.typeIs slot_list_getitem.lookup
      (wpAny_getItem_list_neg (Q := fun r s' => r = w ∧ EP X pins σ Q r s') pl.isList (by omega) (by rw [List.size_toArray] <;> omega) (by omega) (by rw [hj]; simpa using ew) ⟨rfl, fin⟩) hs
theorem ix_tup : IxR X (rIxT X.K) := by
  intro value slice pins s σ H x y v u Q I rx ry h hs
  obtain ⟨p, xs, i, z, rfl, rfl, hq, he, q⟩ := h
  cases rx
  obtain ⟨t, rfl⟩ := ry
  obtain ⟨its, r, pl, hz⟩ := I.tuple hq
  obtain ⟨j, h1, h2, h3, h4, h5⟩ := atI_get he
  obtain ⟨w, ew, rw'⟩ := r.get h2
  have hl := r.length
  have hn := line63
  have fin : EP X pins σ Q w s := ⟨z, H, I, rw', q⟩
  exact subscriptTail_builtinR (x := w) pl.typeIs slot_tuple_getitem.lookup
    (getItem_tuple (j := j) (Q := fun r s' => r = w ∧ EP X pins σ Q r s') pl (by omega) (by omega) (by rw [List.size_toArray, ← hl]; exact h1) (by simpa using ew) ⟨rfl, fin⟩) hs
theorem ix_str : IxR X rIxS := by
  intro value slice pins s σ H x y v u Q I rx ry h hs
  obtain ⟨z, i, c, rfl, rfl, hz, he, q⟩ := h
  obtain ⟨t, rfl⟩ := rx
  obtain ⟨t', rfl⟩ := ry
  obtain ⟨j, h1, h2, h3, h4, h5⟩ := atI_get he
  have hl : z.cps.toList.length = z.length := by simp [Str.length]
  rw [hl] at h1 h4 h5
  have hn := line63
  exact tail_any (typeIs_str s z t) slot_str_getitem.lookup (getItem_str (c := c) (by
    have e1 : decide (i < -(2 ^ 63 : Int)) = false := decide_eq_false (by omega)
    have e2 : decide (i ≥ 2 ^ 63) = false := decide_eq_false (by omega)
    rw [e1, e2, Bool.or_false]) (by rw [h1]; simpa using h2) ⟨.str ⟨#[c]⟩, H, I.tok _, ⟨_, rfl⟩, q⟩) hs
theorem mapSeq_set (its : List Value) (n j : Nat) (u : Value) : Obj.mapSeq (·.setIfInBounds j u) { cls := .type "list", data := .seq its.toArray n } = { cls := .type "list", data := .seq (its.set j u).toArray n } := by
  simp [Obj.mapSeq]
theorem Inv.lst {pins : List (Addr × Obj)} {σ : St} {H : Hp} {s : Shared} {p : Addr} {xs : List V} (I : Inv X pins σ H s) (h : H p = some (.lst xs)) :
    ∃ (its : List Value) (n : Nat), Vals xs its ∧ s.heap.get? p = some { cls := .type "list", data := .seq its.toArray n } ∧ xs.length ≤ sizeLine := by
  obtain ⟨z, its, n, r, e⟩ := I.hok p _ h
  exact ⟨its, n, r, e, z⟩
theorem Inv.lstUpd {pins : List (Addr × Obj)} {σ : St} {H : Hp} {s : Shared} {p : Addr} {xs ys : List V} {its its' : List Value} {n n' : Nat} {f : Obj → Obj} (I : Inv X pins σ H s) (h : H p = some (.lst xs))
    (ho : s.heap.get? p = some { cls := .type "list", data := .seq its.toArray n }) (hf : f { cls := .type "list", data := .seq its.toArray n } = { cls := .type "list", data := .seq its'.toArray n' }) (r : Vals ys its') (hz : ys.length ≤ sizeLine) (t : Nat) :
    Inv X pins σ (upd H p (.lst ys)) { s with heap := s.heap.update p f, toks := t } := by
  have e : (s.heap.update p f).get? p = some { cls := .type "list", data := .seq its'.toArray n' } := by
    rw [Heap.get?_update_self f ho (by rw [hf] <;> rfl), hf]
  refine I.write (x := p) (e := p) (by rw [h]; trivial) (.inl rfl) (fun b u hb q => (Heap.get?_update_other _ _ (Ne.symm hb)).trans q) ⟨_, e⟩ ?_
  exact ⟨hz, its', n', r, e⟩
noncomputable def rSetL : V → V → V → Hp → (Hp → Prop) → Prop := fun o i v H Q => ∃ p xs k j, o = .ref p ∧ i = .int k ∧ H p = some (.lst xs) ∧ ixN xs.length k = some j ∧ Q (upd H p (.lst (xs.set j v)))
theorem set_list : PSet X rSetL := by
  intro pins s σ H o i v ov iv u Q I ro ri rv h
  obtain ⟨p, xs, k, j, rfl, rfl, hp, hj, q⟩ := h
  cases ro
  obtain ⟨t, rfl⟩ := ri
  obtain ⟨its, n, r, ho, hz⟩ := I.lst hp
  obtain ⟨h1, h2, h3, h4⟩ := ixN_seq hj
  have hl := r.length
  have hn := line63
  have I' : Inv X pins σ (upd H p (.lst (xs.set j v))) { s with heap := s.heap.update p (Obj.mapSeq (·.setIfInBounds j u)) } :=
    I.lstUpd hp ho (mapSeq_set its n j u) (r.set rv j) (by rw [List.length_set]; exact hz) s.toks
  by_cases h0 : 0 ≤ k
  · have hk : k.toNat = j := by
      rw [seqIndex_of h0 h4] at h1
      exact Option.some.inj h1
    exact PySem.W.ki_setAt ho h0 (by omega) (by rw [List.size_toArray, ← hl]; exact h4) (by rw [hk]; exact ⟨_, I', q⟩)
  · have hk : (k + (its.toArray.size : Int)).toNat = j := by
      rw [seqIndex_neg (by omega) h3] at h1
      rw [List.size_toArray, ← hl]
      exact Option.some.inj h1
    exact PySem.W.ki_setBack ho (by omega) (by rw [List.size_toArray, ← hl]; exact h3) (by omega) (by rw [hk]; exact ⟨_, I', q⟩)

theorem slice_bounds (lo hi : Option Int) (n : Nat) : (sliceBounds lo hi none n).1 = ((HT.sIx n 0 lo : Nat) : Int) ∧ (sliceBounds lo hi none n).2.1 = ((HT.sIx n n hi : Nat) : Int) ∧ (sliceBounds lo hi none n).2.2 = 1 := by
  refine ⟨?_, ?_, rfl⟩
  · cases lo with
    | none => simp [sliceBounds, HT.sIx]
    | some i =>
      simp only [sliceBounds, HT.sIx, Option.getD_none, show (1 : Int) > 0 by decide, if_true]
      by_cases h : i < 0
      · simp only [h, if_true] <;> omega
      · simp only [h, if_false] <;> omega
  · cases hi with
    | none => simp [sliceBounds, HT.sIx]
    | some i =>
      simp only [sliceBounds, HT.sIx, Option.getD_none, show (1 : Int) > 0 by decide, if_true]
      by_cases h : i < 0
      · simp only [h, if_true] <;> omega
      · simp only [h, if_false] <;> omega
theorem slicePick_cut (its : List Value) (lo hi : Option Int) : slicePick its.toArray lo hi none = ((its.drop (HT.sIx its.length 0 lo)).take (HT.sIx its.length its.length hi - HT.sIx its.length 0 lo)).toArray := by
  obtain ⟨h1, h2, h3⟩ := slice_bounds lo hi its.toArray.size
  unfold slicePick
  rw [h1, h2, h3]
  simp only [sliceRange_one, pick_run, List.size_toArray] <;> rfl
noncomputable def rSlL (K : PySem.W.Frag) : V → Option Int → Option Int → Hp → VK → Prop := fun x lo hi H Q => ∃ a xs, x = .ref a ∧ SqL K H a xs ∧ ∀ p, H p = none → Q (.ref p) (upd H p (.lst (cutV xs lo hi)))
theorem sl_list : SlR X (rSlL X.K) := by
  intro pins s σ H x v vl vu lo hi sl Q I rx hs pl pu h
  obtain ⟨a, xs, rfl, hx, q⟩ := h
  cases rx
  obtain ⟨its, r, ht, hz⟩ := I.list hx
  have hlen := r.length
  refine ⟨"list", _, slot_list_getitem.lookup, ht.isList.typeIs, ?_⟩
  refine wpAny_getItem_list_slice ht.isList hs pl pu .none (by simp) ?_ (by rw [List.size_toArray] <;> omega)
  rw [slicePick_cut, ← hlen]
  refine ⟨.ref s.heap.objs.size, _, I.laid (t' := s.toks) (o := .lst (cutV xs lo hi)) (fun b ob q => Heap.get?_push_of_some _ q) (Nat.le_refl _) ?_, rfl, q _ (I.hok.fresh (Nat.le_refl _))⟩
  exact ⟨Nat.le_trans (cutV_length xs lo hi) hz, _, 0, (r.drop (HT.sIx xs.length 0 lo)).take (HT.sIx xs.length xs.length hi - HT.sIx xs.length 0 lo), Heap.get?_push_size _ rfl⟩

noncomputable def flatV : V → Bool
  | .non => true
  | .bl _ => true
  | .int _ => true
  | .str _ => true
  | _ => false
noncomputable def eqV : V → V → Bool
  | .non, .non => true
  | .bl a, .bl b => a == b
  | .bl a, .int b => (if a then 1 else 0) == b
  | .int a, .bl b => a == (if b then 1 else 0)
  | .int a, .int b => a == b
  | .str a, .str b => a == b
  | _, _ => false
theorem eqAt_V {A : Around} {s : Shared} {y x : V} {u v : Value} (ry : RelV y u) (rx : RelV x v) (fy : flatV y = true) (fx : flatV x = true) : SeqAt.EqAt A s u v (eqV y x) := by
  cases y with
  | non =>
    cases ry
    cases x with
    | non => cases rx; exact SeqAt.EqAt.same _
    | bl b => cases rx; exact SeqAt.EqAt.none_bool b
    | int b => obtain ⟨t, rfl⟩ := rx; exact SeqAt.EqAt.none_int b t
    | str b => obtain ⟨t, rfl⟩ := rx; exact SeqAt.EqAt.none_str b t
    | _ => exact absurd (show false = true from fx) Bool.false_ne_true
  | bl a =>
    cases ry
    cases x with
    | non => cases rx; exact SeqAt.EqAt.bool_none a
    | bl b => cases rx; exact SeqAt.EqAt.bool_bool a b
    | int b => obtain ⟨t, rfl⟩ := rx; exact SeqAt.EqAt.bool_int a b t
    | str b => obtain ⟨t, rfl⟩ := rx; exact SeqAt.EqAt.bool_str a b t
    | _ => exact absurd (show false = true from fx) Bool.false_ne_true
  | int a =>
    obtain ⟨t', rfl⟩ := ry
    cases x with
    | non => cases rx; exact SeqAt.EqAt.int_none a t'
    | bl b => cases rx; exact SeqAt.EqAt.int_bool a t' b
    | int b => obtain ⟨t, rfl⟩ := rx; exact SeqAt.EqAt.int_int a t' b t
    | str b => obtain ⟨t, rfl⟩ := rx; exact SeqAt.EqAt.int_str a t' b t
    | _ => exact absurd (show false = true from fx) Bool.false_ne_true
  | str a =>
    obtain ⟨t', rfl⟩ := ry
    cases x with
    | non => cases rx; exact SeqAt.EqAt.str_none a t'
    | bl b => cases rx; exact SeqAt.EqAt.str_bool a t' b
    | int b => obtain ⟨t, rfl⟩ := rx; exact SeqAt.EqAt.str_int a t' b t
    | str b => obtain ⟨t, rfl⟩ := rx; exact SeqAt.EqAt.str_str a t' b t
    | _ => exact absurd (show false = true from fx) Bool.false_ne_true
  | _ => exact absurd (show false = true from fy) Bool.false_ne_true
theorem call_len_seq : CallR X (.builtin "len") (fun xs H Q => ∃ p ys, xs = [.ref p] ∧ (SqL X.K H p ys ∨ SqT X.K H p ys) ∧ Q (.int ys.length) H) := by
  intro pins s σ H xs us Q I r h
  obtain ⟨p, ys, rfl, hq, q⟩ := h
  obtain ⟨u, rfl, rx⟩ := vals1 r
  cases rx
  have hn := line63
  rcases hq with hq | hq
  · obtain ⟨its, r', pl, hz⟩ := I.list hq
    have hlen := r'.length
    exact Calls.call_len_list pl.isList (by simp only [List.size_toArray] <;> omega) ⟨.int ys.length, H, I.tok _, ⟨s.toks + 1, by rw [List.size_toArray, hlen]⟩, q⟩
  · obtain ⟨its, r', pl, hz⟩ := I.tuple hq
    have hlen := r'.length
    exact len_tuple pl (by simp only [List.size_toArray] <;> omega) ⟨.int ys.length, H, I.tok _, ⟨s.toks + 1, by rw [List.size_toArray, hlen]⟩, q⟩
theorem call_len_str : CallR X (.builtin "len") (fun xs H Q => ∃ z, xs = [.str z] ∧ z.length ≤ sizeLine ∧ Q (.int z.length) H) := by
  intro pins s σ H xs us Q I r h
  obtain ⟨z, rfl, hz, q⟩ := h
  obtain ⟨u, rfl, t, rfl⟩ := vals1 r
  have hn := line63
  exact len_str (by omega) ⟨.int z.length, H, I.tok _, ⟨_, rfl⟩, q⟩
theorem CallR.or {f : Value} {r r' : List V → Hp → VK → Prop} (h : CallR X f r) (h' : CallR X f r') : CallR X f (fun xs H Q => r xs H Q ∨ r' xs H Q) := by
  intro pins s σ H xs us Q I rs q
  rcases q with q | q
  · exact h pins s σ H xs us Q I rs q
  · exact h' pins s σ H xs us Q I rs q
theorem call_list_of : CallR X (.type "list") (fun xs H Q => ∃ p ys, xs = [.ref p] ∧ (SqL X.K H p ys ∨ SqT X.K H p ys) ∧ ∀ l, H l = none → Q (.ref l) (upd H l (.lst ys))) := by
  intro pins s σ H xs us Q I r h
  obtain ⟨p, ys, rfl, hq, q⟩ := h
  obtain ⟨u, rfl, rx⟩ := vals1 r
  cases rx
  have fin : ∀ (its : List Value), Vals ys its → ys.length ≤ sizeLine → ∀ (h' : Heap) (c' : Nat), (∀ b o', s.heap.get? b = some o' → h'.get? b = some o') →
      h'.get? s.heap.objs.size = some { cls := .type "list", dict := none, data := .seq its.toArray c', slots := #[] } → EP X pins σ Q (.ref s.heap.objs.size) { s with heap := h' } := fun its r' hz h' c' kp e =>
    ⟨.ref s.heap.objs.size, _, I.laid (t' := s.toks) kp (Nat.le_refl _) (show ObjOk X.prog X.w _ h' _ (.lst ys) from ⟨hz, its, c', r', e⟩), rfl, q _ (I.hok.fresh (Nat.le_refl _))⟩
  rcases hq with hq | hq
  · obtain ⟨its, r', pl, hz⟩ := I.list hq
    have hlen := r'.length
    obtain ⟨o, ho, hc, n, hd⟩ := pl.isList
    exact call_list_seq p (.inl rfl) ho hc hd (fun h' c' kp e => fin its r' hz h' c' kp e) (by simp only [List.size_toArray] <;> omega)
  · obtain ⟨its, r', pl, hz⟩ := I.tuple hq
    have hlen := r'.length
    obtain ⟨o, ho, hc, n, hd⟩ := pl
    exact call_list_seq p (.inr rfl) ho hc hd (fun h' c' kp e => fin its r' hz h' c' kp e) (by simp only [List.size_toArray] <;> omega)
theorem call_tuple_of : CallR X (.type "tuple") (fun xs H Q => ∃ p ys, xs = [.ref p] ∧ ((SqL X.K H p ys ∧ ∀ l, H l = none → Q (.ref l) (upd H l (.tup ys))) ∨ (SqT X.K H p ys ∧ Q (.ref p) H))) := by
  intro pins s σ H xs us Q I r h
  obtain ⟨p, ys, rfl, h⟩ := h
  obtain ⟨u, rfl, rx⟩ := vals1 r
  cases rx
  rcases h with ⟨hq, q⟩ | ⟨hq, q⟩
  · obtain ⟨its, r', pl, hz⟩ := I.list hq
    have hlen := r'.length
    refine call_tuple_list pl.isList (fun h' kp => ?_) (by simp only [List.size_toArray] <;> omega)
    have I1 : Inv X pins σ H { s with heap := h' } := I.kept (t' := s.toks) kp
    have I2 : Inv X pins σ (upd H h'.objs.size (.tup ys)) { s with heap := h'.push { cls := .type "tuple", data := .seq its.toArray } } :=
      I1.laid (t' := s.toks) (fun b o e => Heap.get?_push_of_some _ e) (Nat.le_refl _) (show ObjOk X.prog X.w _ _ _ (.tup ys) from ⟨hz, its, r', IsTup.new _ _⟩)
    exact ⟨.ref h'.objs.size, _, I2, rfl, q _ (I1.hok.fresh (Nat.le_refl _))⟩
  · obtain ⟨its, r', pl, hz⟩ := I.tuple hq
    exact call_tuple_same pl ⟨.ref p, H, I, rfl, q⟩

noncomputable def tyV (K : PySem.W.Frag) (T : String) (x : V) (H : Hp) : Prop := match x with
  | .str _ => T = "str"
  | .int _ => T = "int"
  | .ref p => (T = "list" ∧ ∃ xs, SqL K H p xs) ∨ (T = "tuple" ∧ ∃ o, K.lookup p = some o ∧ o.cls = .type "tuple" ∧ o.dict = none) ∨
      (T = "dict" ∧ ((∃ kvs, H p = some (.dK kvs)) ∨ ∃ kvs, H p = some (.dT kvs))) ∨ (T = "set" ∧ ∃ S n, H p = some (.set S n))
  | _ => False
theorem tyV_is {pins : List (Addr × Obj)} {σ : St} {H : Hp} {s : Shared} {T : String} {x : V} {v : Value} (I : Inv X pins σ H s) (r : RelV x v) (ty : tyV X.K T x H) :
    s.TypeIs v T ∧ ∀ a, v = .ref a → ∃ ob, s.heap.get? a = some ob ∧ ob.dict = none := by
  cases x with
  | str z =>
    obtain ⟨t, rfl⟩ := r
    cases (show T = "str" from ty)
    exact ⟨typeIs_str s z t, fun _ e => nomatch e⟩
  | int i =>
    obtain ⟨t, rfl⟩ := r
    cases (show T = "int" from ty)
    exact ⟨typeIs_int s i t, fun _ e => nomatch e⟩
  | ref p =>
    cases r
    rcases ty with ⟨rfl, xs, hq⟩ | ⟨rfl, o, hk, hc, hd⟩ | ⟨rfl, hk⟩ | ⟨rfl, S, n, hk⟩
    · obtain ⟨its, _, pl, _⟩ := I.list hq
      refine ⟨pl.isList.typeIs, fun a e => ?_⟩
      cases e
      obtain ⟨o, n, e, c, hd, _⟩ := pl
      exact ⟨o, e, hd⟩
    · refine ⟨⟨o, I.kIn p o hk, hc⟩, fun a e => ?_⟩
      cases e
      exact ⟨o, I.kIn _ o hk, hd⟩
    · have z : ∃ o, s.heap.get? p = some o ∧ o.ExactDict := by
        rcases hk with ⟨kvs, hk⟩ | ⟨kvs, hk⟩
        · obtain ⟨_, _, _, _, o, _, _, e, ex, _⟩ := I.hok p _ hk
          exact ⟨o, e, ex⟩
        · obtain ⟨_, _, _, _, o, _, _, e, ex, _⟩ := I.hok p _ hk
          exact ⟨o, e, ex⟩
      obtain ⟨o, e, ex⟩ := z
      refine ⟨⟨o, e, ex.1⟩, fun a e2 => ?_⟩
      cases e2
      exact ⟨o, e, ex.2.1⟩
    · obtain ⟨o, _, _, _, e, ex, _⟩ := I.hok p _ hk
      refine ⟨⟨o, e, ex.1⟩, fun a e2 => ?_⟩
      cases e2
      exact ⟨o, e, ex.2.1⟩
  | _ => exact False.elim ty
noncomputable def tBM0 (K : PySem.W.Frag) (T : String) (r : V → List V → Hp → VK → Prop) (to : TE) : TE := fun σ H Q => to σ H fun x H1 => tyV K T x H1 ∧ r x [] H1 Q
noncomputable def tBM (K : PySem.W.Frag) (T : String) (r : V → List V → Hp → VK → Prop) (to : TE) (t : TA) : TE := fun σ H Q => to σ H fun x H1 => tyV K T x H1 ∧ t σ H1 fun xs H2 => r x xs H2 Q
variable {o e : Expr} {es : List Expr} {to : TE} {t : TA} {name : Str} {apos cpos : Pos} {T id : String} {r : V → List V → Hp → VK → Prop}
theorem pe_bm0 (pa : PlainAttrs T) (slot : Slot T name id) (hty : typeOf (.builtin id) = pure (.type "method_descriptor")) (hm : MtR X id r) (ho : PE X o to)
    (hbase : attributeBase o name X.env (eval o X.env) = eval o X.env := by rfl) (hline : (apos.endLine == cpos.line) = true := by rfl) : PE X (.Call (.Attribute o name apos) [] [] cpos) (tBM0 X.K T r to) := by
  intro pins s σ H Q I h
  refine wpAny_Call_method0_late hbase hline (thn (ho pins s σ H _ I h) fun v s1 ⟨x, H1, I1, r1, ty, q1⟩ => ?_)
  obtain ⟨h1, h2⟩ := tyV_is I1 r1 ty
  exact ⟨T, id, pa, slot, hty, h1, h2, Calls.callWith_builtin rfl (PySem.evalArgs_none (hm pins s1 σ H1 x [] v [] Q I1 r1 .nil q1))⟩
theorem pe_bm (pa : PlainAttrs T) (slot : Slot T name id) (hty : typeOf (.builtin id) = pure (.type "method_descriptor")) (hm : MtR X id r) (ho : PE X o to) (ha : PA X (e :: es) t)
    (hbase : attributeBase o name X.env (eval o X.env) = eval o X.env := by rfl)
    (hfew : ((backTo cpos (starEach (e :: es) X.env)).all (fun x => !x.1) && (backToKw cpos (keywordEach [] X.env)).all (fun x => x.1.isSome)
      && decide ((e :: es).length + ([] : List Keyword).length + (if ([] : List Keyword).isEmpty then 0 else 1) < 30)) = true := by rfl)
    (hline : (apos.endLine == cpos.line) = true := by rfl) (hs : starEach (e :: es) X.env = (false, eval e X.env) :: starEach es X.env := by rfl) (hplain : (backTo cpos (starEach es X.env)).any (·.1) = false := by rfl) :
    PE X (.Call (.Attribute o name apos) (e :: es) [] cpos) (tBM X.K T r to t) := by
  intro pins s σ H Q I h
  refine wpAny_Call_method_late hbase hfew hline rfl (thn (ho pins s σ H _ I h) fun v s1 ⟨x, H1, I1, r1, ty, q1⟩ => ?_)
  obtain ⟨h1, h2⟩ := tyV_is I1 r1 ty
  refine ⟨T, id, pa, slot, hty, h1, h2, ?_⟩
  have hA := ha cpos pins s1 σ H1 _ I1 q1
  rw [hs] at hA ⊢
  refine Calls.callWith_builtin (by show (false || (backTo cpos (starEach es X.env)).any (·.1)) = false; rw [hplain] <;> rfl) (Calls.evalArgs_plain ?_)
  exact thn hA fun us s2 ⟨vs, H2, I2, r2, q2⟩ => hm pins s2 σ H2 x vs v us Q I2 r1 r2 q2
end
end L2

namespace L2
open PySem PySem.Spec PyProof.Rows

noncomputable def MtM (X : Cx) (id : String) (r : V → List V → Hp → VK → Prop) : Prop :=
  ∀ (pins : List (Addr × Obj)) (s : Shared) (σ : St) (H : Hp) (x : V) (xs : List V) (v : Value) (us : List Value) (Q : VK), Inv X pins σ H s → RelV x v → Vals xs us → r x xs H Q →
    wpAny (model X.prog X.w) X.A (call (.builtin id) (v :: us)) (EP X pins σ Q) X.xe s

theorem Vals.one : ∀ {x : V} {us : List Value}, Vals [x] us → ∃ u, us = [u] ∧ RelV x u
  | _, _, .cons r .nil => ⟨_, rfl, r⟩
theorem Vals.two : ∀ {x y : V} {us : List Value}, Vals [x, y] us → ∃ u v, us = [u, v] ∧ RelV x u ∧ RelV y v
  | _, _, _, .cons r (.cons q .nil) => ⟨_, _, rfl, r, q⟩
theorem Vals.zero : ∀ {us : List Value}, Vals [] us → us = []
  | _, .nil => rfl
theorem Vals.dropLast {xs : List V} {us : List Value} (h : Vals xs us) : Vals xs.dropLast us.dropLast := by
  induction h with
  | nil => exact .nil
  | cons r t ih =>
    cases t with
    | nil => exact .nil
    | cons q t' => exact .cons r ih
theorem Vals.eraseIdx : ∀ {xs : List V} {us : List Value} (i : Nat), Vals xs us → Vals (xs.eraseIdx i) (us.eraseIdx i)
  | _, _, _, .nil => .nil
  | _, _, 0, .cons _ t => t
  | _, _, i + 1, .cons r t => .cons r (Vals.eraseIdx i t)
theorem Vals.reverse {xs : List V} {us : List Value} (h : Vals xs us) : Vals xs.reverse us.reverse := by
  induction h with
  | nil => exact .nil
  | cons r t ih => rw [List.reverse_cons, List.reverse_cons]; exact Vals.append ih (.cons r .nil)
theorem Vals.rep {xs : List V} {us : List Value} (h : Vals xs us) : ∀ k : Nat, Vals (List.replicate k xs).flatten (List.replicate k us).flatten
  | 0 => .nil
  | k + 1 => by
    rw [List.replicate_succ, List.replicate_succ, List.flatten_cons, List.flatten_cons]
    exact Vals.append h (Vals.rep h k)
theorem erase_last {α : Type} (l : List α) : l.eraseIdx (l.length - 1) = l.dropLast := by
  induction l with
  | nil => rfl
  | cons a r ih =>
    cases r with
    | nil => rfl
    | cons b r =>
      have e : (a :: b :: r).length - 1 = ((b :: r).length - 1) + 1 := by
        have h1 : (a :: b :: r).length = r.length + 2 := rfl
        have h2 : (b :: r).length = r.length + 1 := rfl
        omega
      rw [e, List.eraseIdx_cons_succ, ih]
      all_goals rfl
theorem foldl_rep (its : List Value) : ∀ (k : Nat) (acc : List Value),
    List.foldl (fun x1 x2 => x1 ++ x2) acc.toArray (List.replicate k its.toArray) = (acc ++ (List.replicate k its).flatten).toArray
  | 0, acc => by simp
  | k + 1, acc => by
    have e : acc.toArray ++ its.toArray = (acc ++ its).toArray := by simp
    have e2 : (acc ++ its) ++ (List.replicate k its).flatten = acc ++ (List.replicate (k + 1) its).flatten := by
      rw [List.replicate_succ, List.flatten_cons, List.append_assoc]
    rw [← e2, ← foldl_rep its k (acc ++ its), ← e, List.replicate_succ, List.foldl_cons]

section
variable {X : Cx} {pins : List (Addr × Obj)} {σ : St} {H : Hp} {s : Shared} {l b : Addr} {xs ys zs : List V}

theorem Inv.lset {its its' : List Value} {n : Nat} {f : Array Value → Array Value} {t' : Nat} (I : Inv X pins σ H s) (hH : H l = some (.lst xs))
    (e : s.heap.get? l = some { cls := .type "list", data := .seq its.toArray n }) (hf : f its.toArray = its'.toArray) (hv : Vals ys its') (hz : ys.length ≤ sizeLine) :
    Inv X pins σ (upd H l (.lst ys)) { s with heap := s.heap.update l (Obj.mapSeq f), toks := t' } := by
  have q := PySem.IsL.update e f
  rw [hf] at q
  refine I.write (x := l) (e := l) (by rw [hH]; exact trivial) (.inl rfl) (fun b' u hb hu => (Heap.get?_update_other s.heap (Obj.mapSeq f) (Ne.symm hb)).trans hu) ⟨_, q⟩ ?_
  exact ⟨hz, its', _, hv, q⟩
theorem Inv.lnew {its : List Value} {t' : Nat} (I : Inv X pins σ H s) (hv : Vals ys its) (hz : ys.length ≤ sizeLine) :
    Inv X pins σ (upd H s.heap.objs.size (.lst ys)) { s with heap := s.heap.push { cls := .type "list", data := .seq its.toArray }, toks := t' } :=
  I.laid (fun _ _ q => Heap.get?_push_of_some _ q) (Nat.le_refl _) ⟨hz, its, 0, hv, Heap.get?_push_size _ rfl⟩
theorem Inv.fresh (I : Inv X pins σ H s) : H s.heap.objs.size = none := I.hok.fresh (Nat.le_refl _)
theorem Inv.lstM (I : Inv X pins σ H s) (hH : H l = some (.lst xs)) : xs.length ≤ sizeLine ∧ ∃ (its : List Value) (n : Nat), Vals xs its ∧ xs.length = its.length ∧ s.heap.get? l = some { cls := .type "list", data := .seq its.toArray n } := by
  obtain ⟨z, its, n, r, e⟩ := I.hok l _ hH
  exact ⟨z, its, n, r, r.length, e⟩

theorem notLongL {n : Nat} (h : n ≤ sizeLine) : Builtin.List.listTooLong n = false := by
  unfold Builtin.List.listTooLong
  exact decide_eq_false (by omega)
end

section
variable {X : Cx}

noncomputable def rAppend : V → List V → Hp → VK → Prop := fun x vs H Q => ∃ l xs y, x = .ref l ∧ vs = [y] ∧ H l = some (.lst xs) ∧ xs.length < sizeLine ∧ Q .non (upd H l (.lst (xs ++ [y])))
theorem mt_append : MtM X "list.append" rAppend := by
  intro pins s σ H x vs v us Q I rx rv h
  obtain ⟨l, xs, y, rfl, rfl, hH, hz, q⟩ := h
  cases rx
  obtain ⟨u, rfl, ru⟩ := rv.one
  obtain ⟨z, its, n, r, hl, e⟩ := I.lstM hH
  refine call_meets F.slot_list_append ⟨_, e, rfl⟩ F.entry_list_append (F.args_list_append_2 _ _) (PySem.list_append l its.toArray n u (by rw [List.size_toArray]; omega)) ⟨e, ?_⟩
  refine ⟨.non, _, I.lset (its' := its ++ [u]) hH e (by simp) (r.append (.cons ru .nil)) ?_, rfl, q⟩
  rw [List.length_append, List.length_singleton]
  omega

noncomputable def rExtend : V → List V → Hp → VK → Prop := fun x vs H Q => ∃ l b xs zs, x = .ref l ∧ vs = [.ref b] ∧ H l = some (.lst xs) ∧ H b = some (.lst zs) ∧ xs.length + zs.length ≤ sizeLine ∧ Q .non (upd H l (.lst (xs ++ zs)))
theorem mt_extend : MtM X "list.extend" rExtend := by
  intro pins s σ H x vs v us Q I rx rv h
  obtain ⟨l, b, xs, zs, rfl, rfl, hH, hB, hz, q⟩ := h
  cases rx
  obtain ⟨u, rfl, ru⟩ := rv.one
  cases ru
  obtain ⟨z, its, n, r, hl, e⟩ := I.lstM hH
  obtain ⟨z2, its2, n2, r2, hl2, e2⟩ := I.lstM hB
  have hsz : its.toArray.size + its2.toArray.size ≤ sizeLine := by rw [List.size_toArray, List.size_toArray]; omega
  have hlong : ¬ (!its.toArray.isEmpty && Builtin.List.listTooLong (its.toArray.size + its2.toArray.size)) = true := by
    rw [notLongL hsz, Bool.and_false]
    exact Bool.false_ne_true
  refine call_meets F.slot_list_extend ⟨_, e, rfl⟩ F.entry_list_extend (F.args_list_extend_2 _ _)
    (AutoSeq1.list_extend_list_list_0 l its.toArray n b its2.toArray n2 hlong (by rw [List.size_toArray]; omega) (by omega)) ⟨e, e2, ?_⟩
  refine ⟨.non, _, I.lset (its' := its ++ its2) hH e (by simp) (r.append r2) ?_, rfl, q⟩
  rw [List.length_append]
  omega

noncomputable def rPop : V → List V → Hp → VK → Prop := fun x vs H Q => ∃ l xs y, x = .ref l ∧ vs = [] ∧ H l = some (.lst xs) ∧ xs[xs.length - 1]? = some y ∧ Q y (upd H l (.lst xs.dropLast))
theorem mt_pop : MtM X "list.pop" rPop := by
  intro pins s σ H x vs v us Q I rx rv h
  obtain ⟨l, xs, y, rfl, rfl, hH, hy, q⟩ := h
  cases rx
  have hus := rv.zero
  subst hus
  obtain ⟨z, its, n, r, hl, e⟩ := I.lstM hH
  obtain ⟨u, hu, ru⟩ := r.get hy
  have hy' : its.toArray[its.toArray.size - 1]? = some u := by
    show its.toArray[its.length - 1]? = some u
    rw [← Array.getElem?_toList, ← hl]
    exact hu
  refine call_meets F.slot_list_pop ⟨_, e, rfl⟩ F.entry_list_pop (F.args_list_pop_1 _) (MeetsSeq.list_pop_last l its.toArray n u hy' (by rw [List.size_toArray]; omega)) ⟨e, ?_⟩
  refine ⟨y, _, I.lset (its' := its.dropLast) hH e ?_ r.dropLast ?_, ru, q⟩
  · show its.toArray.eraseIdxIfInBounds (its.toArray.size - 1) = its.dropLast.toArray
    rw [List.size_toArray, List.eraseIdxIfInBounds_toArray, erase_last]
  · rw [List.length_dropLast]
    omega

noncomputable def rReverse : V → List V → Hp → VK → Prop := fun x vs H Q => ∃ l xs, x = .ref l ∧ vs = [] ∧ H l = some (.lst xs) ∧ Q .non (upd H l (.lst xs.reverse))
theorem mt_reverse : MtM X "list.reverse" rReverse := by
  intro pins s σ H x vs v us Q I rx rv h
  obtain ⟨l, xs, rfl, rfl, hH, q⟩ := h
  cases rx
  have hus := rv.zero
  subst hus
  obtain ⟨z, its, n, r, hl, e⟩ := I.lstM hH
  refine call_meets F.slot_list_reverse ⟨_, e, rfl⟩ F.entry_list_reverse (F.args_list_reverse_1 _) (AutoSeq1.list_reverse_list_0 l its.toArray n (by rw [List.size_toArray]; omega)) ⟨e, ?_⟩
  refine ⟨.non, _, I.lset (its' := its.reverse) hH e (by simp) r.reverse ?_, rfl, q⟩
  rw [List.length_reverse]
  omega

noncomputable def rCat : R2 := fun x y H Q => ∃ l b xs zs, x = .ref l ∧ y = .ref b ∧ H l = some (.lst xs) ∧ H b = some (.lst zs) ∧ xs.length + zs.length ≤ sizeLine ∧ ∀ p, H p = none → Q (.ref p) (upd H p (.lst (xs ++ zs)))
theorem op_cat : OpR X (binaryOp .Add) rCat := by
  intro pins s σ H x y v u Q I rx ry h
  obtain ⟨l, b, xs, zs, rfl, rfl, hH, hB, hz, q⟩ := h
  cases rx
  cases ry
  obtain ⟨z, its, n, r, hl, e⟩ := I.lstM hH
  obtain ⟨z2, its2, n2, r2, hl2, e2⟩ := I.lstM hB
  refine PySem.P.add_list e e2 ?_ (by rw [List.size_toArray, List.size_toArray]; omega)
  have ea : its.toArray ++ its2.toArray = (its ++ its2).toArray := by simp
  rw [ea]
  exact ⟨.ref _, _, I.lnew (t' := s.toks) (r.append r2) (by rw [List.length_append]; omega), rfl, q _ I.fresh⟩
noncomputable def rRep : R2 := fun x y H Q => ∃ l k xs, x = .ref l ∧ y = .int k ∧ H l = some (.lst xs) ∧ -(2 ^ 63) ≤ k ∧ k < 2 ^ 63 ∧ xs.length * k.toNat ≤ sizeLine ∧
  ∀ p, H p = none → Q (.ref p) (upd H p (.lst (List.replicate k.toNat xs).flatten))
theorem len_rep {α : Type} (xs : List α) (k : Nat) : (List.replicate k xs).flatten.length = k * xs.length := by
  induction k with
  | zero => simp
  | succ k ih => rw [List.replicate_succ, List.flatten_cons, List.length_append, ih, Nat.succ_mul, Nat.add_comm]
theorem op_rep : OpR X (binaryOp .Mult) rRep := by
  intro pins s σ H x y v u Q I rx ry h
  obtain ⟨l, k, xs, rfl, rfl, hH, h1, h2, hz, q⟩ := h
  cases rx
  obtain ⟨t, rfl⟩ := ry
  obtain ⟨z, its, n, r, hl, e⟩ := I.lstM hH
  have hlen : its.toArray.size * k.toNat ≤ sizeLine := by rw [List.size_toArray, ← hl]; exact hz
  have hcap : ¬ its.toArray.size * k.toNat > (2 ^ 63 - 1) / 8 := by
    have : (sizeLine : Nat) ≤ (2 ^ 63 - 1) / 8 := by decide
    omega
  have hfit : ¬ (!Builtin.List.listFitsIndex k) = true := by
    rw [fitsIndex_both h1 h2]
    exact Bool.false_ne_true
  have hlong : ¬ Builtin.List.listTooLong (its.toArray.size * k.toNat) = true := by
    rw [notLongL hlen]
    exact Bool.false_ne_true
  have hnew : List.foldl (fun x1 x2 => x1 ++ x2) #[] (List.replicate (if its.toArray.isEmpty = true then 0 else k.toNat) its.toArray) = (List.replicate k.toNat its).flatten.toArray := by
    have f0 : ∀ m : Nat, List.foldl (fun x1 x2 => x1 ++ x2) #[] (List.replicate m its.toArray) = (List.replicate m its).flatten.toArray := fun m => by
      have := foldl_rep its m []
      rw [List.nil_append] at this
      exact this
    rw [f0]
    cases its with
    | nil => simp
    | cons a r' => rw [if_neg (by simp)]
  refine wpAny_binaryOp_repeat_ref (T := "list") (U := "int") (by decide) ⟨_, e, rfl⟩ (fun s' => typeIs_int s' k t) noFill_list_mul F.fills_int_mul F.slot_int_rmul repeat_list F.slot_int_index.lookup
    (call_meets F.slot_int_rmul (typeIs_int s k t) F.entry_int_rmul (F.args_int_rmul_2 _ _) (int___rmul___int_list k t l its.toArray n)
      ⟨e, rfl, ⟨_, e, rfl⟩, call_meets F.slot_list_mul ⟨_, e, rfl⟩ F.entry_list_mul (F.args_list_mul_2 _ _) (AutoListH.list___mul___list_int_3 l its.toArray n k t hfit hcap hlong) ⟨e, ?_⟩⟩)
  rw [hnew]
  exact ⟨.ref _, _, I.lnew (t' := s.toks) (r.rep k.toNat) (by rw [len_rep, Nat.mul_comm]; exact hz), rfl, q _ I.fresh⟩

end

section
variable {prog : Program} {w : World} {A : Around} {E : Value → Shared → Prop} {s : Shared}
set_option maxRecDepth 100000 in
end

section
variable {X : Cx}
end
end L2

namespace Att
open PySem PySem.W PySem.Calls PyProof.Rows

theorem ints_of_wellAll {P : Params} {h : Heap} : ∀ (ns : List Int) (vs : List Value), WellAll P h vs (ns.map WData.int) → IntsAre vs ns := by
  intro ns
  induction ns with
  | nil =>
    intro vs w
    rw [List.map_nil] at w
    cases w
    exact .nil
  | cons n ns ih =>
    intro vs w
    rw [List.map_cons] at w
    cases w with
    | cons a b =>
      cases a
      exact .cons _ _ (ih _ b)

theorem script_of {l : OpenLaw} {n : Nat} (hn : l.most = some n) {P : Params} {h : Heap} {args : List WData} {vals : List Value}
    (hpre : l.row.toRowW.claim.pre args = true) (hwl : WellAll P h vals args) :
    ∃ a vs ns, vals = [Value.ref a] ∧ args = [WData.list (ns.map WData.int)] ∧ h.get? a = some { cls := .type "list", data := .seq vs.toArray } ∧ IntsAre vs ns ∧ ns.length ≤ n := by
  have hsh : WShape.hasAll [] args [.list .int] = true := (pre_splitW hpre).1
  have hc : l.pre.holds [] { args := args } = true := (pre_splitW hpre).2
  obtain ⟨d, r, rfl, h1, h2⟩ := hasAllW_cons hsh
  obtain rfl := hasAllW_nil h2
  obtain ⟨xs, rfl, h3⟩ := hasW_list h1
  obtain ⟨ns, rfl⟩ := items_int h3
  have hlen : ns.length ≤ n := by
    unfold OpenLaw.pre at hc
    have h4 : (WTm.not (.lt (.lit (.int (n : Int))) (.len (.arg 0)))).holds [] { args := [.list (ns.map .int)] } = true := by
      have h4 := (holds_andW hc).1
      rw [hn] at h4
      exact h4
    have h5 := condW_of h4 (w_not (w_lt w_lit (w_len_list (w_arg rfl))))
    rw [List.length_map] at h5
    refine Nat.le_of_not_lt fun q => ?_
    have q' : (n : Int) < ((ns.length : Nat) : Int) := by omega
    first
      | (rw [decide_eq_true q'] at h5; exact absurd h5 (by decide))
      | (simp at h5; omega)
  cases hwl with
  | cons w1 w2 =>
    cases w2
    cases w1 with
    | list ho hall => exact ⟨_, _, ns, rfl, rfl, ho, ints_of_wellAll ns _ hall, hlen⟩

theorem post_true (l : OpenLaw) (args : List WData) : l.row.toRowW.claim.post args (.bool true) args = true :=
  postW_of (r := l.row.toRowW) (X := (true == true))
    (show WShape.has [] (.bool true) .bool = true by first | rfl | decide | simp [WShape.has, WShape.arms, WShape.armsAll])
    (show (WTm.eq .res (.lit (.bool true))).value [] { args := args, res := some (.bool true), after := args } = some (.bool (true == true)) from w_eq_bool (w_res rfl) w_lit) rfl

theorem attach_call {l : OpenLaw} {n : Nat} {q : Program} {loose : List Str} {XP : (Str → Option Value) → Heap → Prop} {YP : World → Heap → Prop} {d : DefRec}
    (hn : l.most = some n) (hdf : d.params.defaults = [])
    (call : ∀ (w : World) (s₀ s₁ : Shared) (mg mb : Str → Option Value) (fa : Addr) (o : Obj) (pm cd doc : Value) (a : Addr) (vs : List Value) (ns : List Int),
      Ground q loose [] XP w s₀ mg mb s₁.heap → YP w s₁.heap →
      s₁.heap.get? fa = some o → o.data = .func (docDef d.name d.params d.body d.scope pm cd doc) → s₁.heap.CodeRec cd d.name → mg d.name = some (.ref fa) →
      s₁.heap.get? a = some { cls := .type "list", data := .seq vs.toArray } → IntsAre vs ns → ns.length ≤ n → s₁.gens = #[] →
      codeAny (model l.prog w) callerA (.call (.ref fa) ⟨[.ref a], []⟩) (fun r s' => r = .ok (.ret (.bool true)) ∧ OldK s₁.heap s'.heap ∧ s'.os = s₁.os ∧ AllBare s'.gens) s₁) :
    WalkO q loose XP YP l.row.toRowW d [] (fun f vs => PySem.call f vs) := by
  intro w s₀ s₁ mg mb G Y fa o pm cd doc dV kV ho hd hcd hD hmg hg args vals as hpre hlay hrd hwl hlo
  obtain rfl : dV = .none := Dflts.none hD hdf
  obtain rfl : kV = .none := Dflts.noKw hD
  obtain ⟨a, vs, ns, rfl, rfl, hobj, hints, hlen⟩ := script_of hn hpre hwl
  refine enter_call (codeAny_mono (call w s₀ s₁ mg mb fa o pm cd doc a vs ns G Y ho (fd_plain hd) hcd hmg hobj hints hlen hg) fun r s' hq => ?_)
  obtain ⟨rfl, h2, h3, h4⟩ := hq
  exact ⟨.inl ⟨.bool true, .bool true, [], rfl, fun _ => rfl, .bool true, post_true l _, fun _ => ⟨List.Pairwise.nil, fun _ hm => (nomatch hm)⟩⟩, h2, h3, h4⟩

section
variable {prog : Program} {w : World} {A : Around} {E : Value → Shared → Prop} {s : Shared} {K : Frag}

end
end Att

namespace L2
open PySem PySem.Spec PyProof.Rows

theorem vals_ints : ∀ {vs : List Value} {ns : List Int}, IntsAre vs ns → Vals (ns.map V.int) vs
  | _, _, .nil => .nil
  | _, _, .cons n t h => .cons ⟨t, rfl⟩ (vals_ints h)

noncomputable def Only (H : Hp) : Prop := ∀ b, H b = none ∨ ∃ o xs, H b = some (.frz o (.lst xs))

theorem law_call {P : Program} {w : World} {K : PySem.W.Frag} {mg mb : Str → Option Value} {CX : CXT} {k : Nat} {fa a : Addr} {fd : FuncData} {x : Str} {sp : Sp} {s₁ : Shared} {vs : List Value} {ns : List Int}
    (KX : K.In s₁.heap) (hns : s₁.heap.Ns mainGlobals mg) (hb : s₁.heap.Ns builtinsNs mb) (hbb : ∀ x : Str, x ≠ "__name__" → mb x = bootBuiltins x) (hlim : s₁.heap.NoLimit) (hg : s₁.gens = #[])
    (ha : s₁.heap.get? a = some { cls := .type "list", data := .seq vs.toArray }) (hi : IntsAre vs ns) (hl : ns.length ≤ sizeLine) (hr : Room k callerA)
    (F : ∀ base : Heap, K.In base → base.Ns mainGlobals mg → FnOk P w K mg base CX k fa fd [x] sp) (hbind : ∀ (s : Shared) (u : Value), BindsTo s fd ⟨[u], []⟩ [(x, u)])
    (hsp : ∀ H : Hp, Only H → SqL K H a (ns.map V.int) → sp [.ref a] H (fun v _ => v = .bl true) fun _ _ _ => False)
    (hCX : ∀ H e s', CX [] H s₁ (fun _ _ _ => False) e s' → False) :
    codeAny (model P w) callerA (.call (.ref fa) ⟨[.ref a], []⟩) (fun r s' => r = .ok (.ret (.bool true)) ∧ OldK s₁.heap s'.heap ∧ s'.os = s₁.os ∧ AllBare s'.gens) s₁ := by
  have rv := vals_ints hi
  have lenV := hi.length
  -- from an abstract heap in which nothing but the script may be tracked
  have core : ∀ H : Hp, Only H → SqL K H a (ns.map V.int) → HOk P w H s₁.heap → (∀ b, H b ≠ none → b = a) → (H a ≠ none → K.lookup a = none) →
      codeAny (model P w) callerA (.call (.ref fa) ⟨[.ref a], []⟩) (fun r s' => r = .ok (.ret (.bool true)) ∧ OldK s₁.heap s'.heap ∧ s'.os = s₁.os ∧ AllBare s'.gens) s₁ := by
    intro H hO hS hok hA hK
    have base_of : ∀ {b : Addr} {o : Obj}, s₁.heap.get? b = some o → H b = none → (hidT s₁.heap H).get? b = some o := fun e n => hidT_get e n
    have noA : ∀ {b : Addr} {o : Obj} {es : Array DictEntry} {ep : Nat}, s₁.heap.get? b = some o → o.data = .dict es ep → H b = none := fun {b o es ep} e d => by
      cases q : H b with
      | none => rfl
      | some u =>
        have e' : b = a := hA b (by rw [q]; simp)
        subst e'
        rw [ha] at e; cases e
        have d' : Data.seq vs.toArray _ = Data.dict es ep := d
        cases d'
    have nsK : ∀ {b : Addr} {m : Str → Option Value}, s₁.heap.Ns b m → (hidT s₁.heap H).Ns b m := fun {b m} ⟨o, es, ep, e, d, r⟩ => ⟨o, es, ep, base_of e (noA e d), d, r⟩
    have hKb : K.In (hidT s₁.heap H) := fun b o e => base_of (KX b o e) (by
      cases q : H b with
      | none => rfl
      | some u =>
        have e' : b = a := hA b (by rw [q]; simp)
        subst e'
        rw [hK (by rw [q]; simp)] at e; cases e)
    have hM : Mod K mg (hidT s₁.heap H) := ⟨hKb, nsK hns, ⟨mb, nsK hb, hbb⟩, let ⟨mc, h1, h2⟩ := hlim; ⟨mc, nsK h1, h2⟩⟩
    have e0 : Env0 P w K mg (hidT s₁.heap H) callerA [] s₁ H := ⟨rfl, hM, fun b o e => of_hidT e, Nat.le_of_eq (hidT_size _ _), trivial, fun b hb => absurd (show b ∈ ([] : List Addr) from hb) (by simp), hok, .of_eq hg⟩
    refine codeAny_mono ((F _ hKb (nsK hns)).run callerA [] s₁ H ⟨[.ref a], []⟩ [.ref a] [.ref a] _ _ hr e0 (hbind s₁ (.ref a)) (.cons rfl .nil) (hsp H hO hS)) fun r s' h => ?_
    cases r with
    | error e => exact (hCX H e s' h).elim
    | ok fl =>
      cases fl with
      | next => exact False.elim h
      | brk => exact False.elim h
      | cont => exact False.elim h
      | ret u =>
        obtain ⟨v, H', os, bare, un, hok', r', q⟩ := h
        have q' : v = .bl true := q
        subst q'
        obtain rfl : u = Value.bool true := r'
        refine ⟨rfl, OldK.of_keep fun b o e => ?_, os, bare⟩
        cases q : H b with
        | none => exact un.keep b o e q (by intro z; exact absurd (show b ∈ ([] : List Addr) from z) (by simp)) (by simp)
        | some u =>
          rcases hO b with z | ⟨ob, xs, z⟩
          · rw [q] at z; cases z
          · have z2 := un.frzs b ob _ z
            obtain ⟨e1, _⟩ := hok b _ z
            obtain ⟨e2, _⟩ := hok' b _ z2
            rw [e] at e1; cases e1
            exact e2
  cases hk : K.lookup a with
  | some o =>
    -- the script is one of the module's own objects
    have e := KX a o hk
    rw [ha] at e
    cases e
    refine core (fun _ => none) (fun _ => .inl rfl) (.inr ⟨_, vs.toArray, _, hk, rfl, rfl, rfl, by rw [List.size_toArray, lenV]; exact hl, by simpa using rv⟩) (fun b u z => by have z' : (none : Option HO) = some u := z; cases z') (fun b z => absurd rfl z) fun z => absurd rfl z
  | none =>
    refine core (fun b => if b = a then some (.frz { cls := .type "list", data := .seq vs.toArray } (.lst (ns.map V.int))) else none) (fun b => ?_) (.inl (.inr ⟨{ cls := .type "list", data := .seq vs.toArray }, if_pos rfl⟩)) (fun b u z => ?_) (fun b z => ?_) fun _ => hk
    · by_cases hb : b = a
      · exact .inr ⟨_, _, if_pos hb⟩
      · exact .inl (if_neg hb)
    · by_cases hb : b = a
      · have z' := (if_pos hb).symm.trans z
        cases z'
        subst hb
        exact ⟨ha, by rw [List.length_map]; exact hl, vs, _, rv, ha⟩
      · have z' := (if_neg hb).symm.trans z
        cases z'
    · by_cases hb : b = a
      · exact hb
      · exact absurd (if_neg hb) z
end L2

namespace L2
open PySem PySem.Spec PyProof.Rows

theorem walk_of {l : PySem.W.OpenLaw} {n k : Nat} {q : Program} {loose : List Str} {XP : (Str → Option Value) → Heap → Prop} {YP : World → Heap → Prop} {d : DefRec} {K : Params → PySem.W.Frag} {CX : World → CXT} {sp : World → Sp} {x : Str}
    (hn : l.most = some n) (hn2 : n ≤ sizeLine) (hdf : d.params.defaults = []) (hr : Room k callerA)
    (hY : ∀ (w : World) (h : Heap), YP w h → (K w.params).In h)
    (F : ∀ (w : World) (mg : Str → Option Value) (fa : Addr) (h : Heap), (K w.params).In h → h.Ns mainGlobals mg → mg d.name = some (.ref fa) →
      ∃ fd : FuncData, (∀ (s : Shared) (u : Value), BindsTo s fd ⟨[u], []⟩ [(x, u)]) ∧
        ∀ base : Heap, (K w.params).In base → base.Ns mainGlobals mg → FnOk l.prog w (K w.params) mg base (CX w) k fa fd [x] (sp w))
    (hsp : ∀ (w : World) (H : Hp) (a : Addr) (ns : List Int), ns.length ≤ n → Only H → SqL (K w.params) H a (ns.map V.int) → sp w [.ref a] H (fun v _ => v = .bl true) fun _ _ _ => False)
    (hCX : ∀ (w : World) (H : Hp) (s : Shared) (e : Value) (s' : Shared), CX w [] H s (fun _ _ _ => False) e s' → False) :
    PySem.W.WalkO q loose XP YP l.row.toRowW d [] (fun f vs => PySem.call f vs) := by
  refine Att.attach_call hn hdf fun w s₀ s₁ mg mb fa o pm cd doc a vs ns G Y ho hd hcd hmg hobj hints hlen hg => ?_
  have KX := hY w _ Y
  obtain ⟨fd, hb, hF⟩ := F w mg fa _ KX G.T.g hmg
  exact law_call KX G.T.g G.T.b G.T.builtins G.T.nolimit hg hobj hints (Nat.le_trans hlen hn2) hr hF hb (fun H hO hS => hsp w H a ns hlen hO hS) fun H e s' => hCX w H s₁ e s'
end L2



namespace L2
open PySem PySem.Spec PyProof.Rows

noncomputable def defArgs (s : Stmt) : Arguments := match s with
  | .FunctionDef _ a _ _ _ _ _ _ _ _ => a
  | _ => { posonlyargs := [], args := [], vararg := none, kwonlyargs := [], kw_defaults := [], kwarg := none, defaults := [] }
noncomputable def defBody (s : Stmt) : List Stmt := match s with
  | .FunctionDef _ _ b _ _ _ _ _ _ _ => b
  | _ => []
noncomputable def defScope (s : Stmt) : Scope := match s with
  | .FunctionDef _ _ _ _ _ _ sc _ _ _ => sc
  | _ => { kind := .function, names := [], isGenerator := false, isCoroutine := false }

noncomputable abbrev CX0 : CXT := fun _ _ _ _ _ _ => False
noncomputable abbrev E0 : XK := fun _ _ _ => False
theorem pass0 {X : Cx} : Passes CX0 X E0 := fun _ _ _ _ _ _ _ h => h.elim

structure Fun (K : PySem.W.Frag) (x qual : Str) (st : Stmt) (f : Addr) (fd : FuncData) : Prop where
  ex : ∃ (oc : Value) (od : Option Addr) (kV doc pm : Value) (an : Option Addr) (cdv ct : Value) (osl : Array (Option Value)),
    fd = PySem.W.fnOf x qual (defArgs st) (defBody st) (defScope st) .none kV doc pm an cdv ct ∧ K.lookup f = some ⟨oc, od, .func fd, osl⟩ ∧ PySem.W.codeIn K cdv qual = true
  kp : PySem.W.keepIn K (.ref f) = true
section
variable {P : Program} {w : World} {K : PySem.W.Frag} {mg : Str → Option Value} {base : Heap}
theorem Fun.ok {x qual : Str} {st : Stmt} {f : Addr} {fd : FuncData} {N ps : List Str} {k : Nat} {sp : Sp} (F : Fun K x qual st f fd) (S : FnScope N ps (defScope st)) (len : ∀ vs H Q E, sp vs H Q E → vs.length = ps.length)
    (hbody : ∀ (cdv : Value) (A : Around) (outer : List Env) (s : Shared) (H : Hp) (vs : List V) (Q : VK) (E : XK), Room k (A.deeper (envOfC qual (defScope st) s.heap.objs.size f cdv)) → sp vs H Q E →
      ∃ t, PSs (cxOf CX0 P w K mg base N qual (defScope st) f cdv A outer s H E).nox (defBody st) t ∧ t { nx := fun _ H' => Q .non H', rt := Q } (start N vs) H) : FnOk P w K mg base CX0 (k + 1) f fd ps sp := by
  obtain ⟨oc, od, kV, doc, pm, an, cdv, ct, osl, rfl, lk, hcd⟩ := F.ex
  refine fn_of lk hcd S len fun A outer s H vs Q E hr hsp => ?_
  obtain ⟨t, h, q⟩ := hbody cdv A outer s H vs Q E hr hsp
  exact ⟨t, h.nox, q⟩
theorem Fun.binds {x qual : Str} {st : Stmt} {f : Addr} {fd : FuncData} {ps : List Str} (F : Fun K x qual st f fd)
    (h : ∀ (kV doc pm : Value) (an : Option Addr) (cdv ct : Value) (us : List Value), us.length = ps.length → bindArgs (PySem.W.fnOf x qual (defArgs st) (defBody st) (defScope st) .none kV doc pm an cdv ct) ⟨us, []⟩ = pure (ps.zip us)) : Binds K fd ps [] := by
  obtain ⟨oc, od, kV, doc, pm, an, cdv, ct, osl, rfl, lk, hcd⟩ := F.ex
  exact .all (h kV doc pm an cdv ct)
theorem fun_mk {x qual : Str} {st : Stmt} {f : Addr} {oc : Value} {od an : Option Addr} {osl : Array (Option Value)} {kV doc pm cdv ct : Value} (l : K.lookup f = some ⟨oc, od, .func (PySem.W.fnOf x qual (defArgs st) (defBody st) (defScope st) .none kV doc pm an cdv ct), osl⟩)
    (c : PySem.W.codeIn K cdv qual = true) (k : PySem.W.keepIn K (.ref f) = true) : Fun K x qual st f (PySem.W.fnOf x qual (defArgs st) (defBody st) (defScope st) .none kV doc pm an cdv ct) := ⟨⟨oc, od, kV, doc, pm, an, cdv, ct, osl, rfl, l, c⟩, k⟩
end
section
variable {X : Cx}
end

theorem iteF {A B : Prop} (h : B) : if false = true then A else B := by
  rw [if_neg Bool.false_ne_true]
  exact h
theorem iteT {A B : Prop} (h : A) : if true = true then A else B := by
  rw [if_pos rfl]
  exact h
noncomputable def Same (H H' : Hp) : Prop := ∀ b o, H b = some o → H' b = some o
theorem Same.refl (H : Hp) : Same H H := fun _ _ h => h
theorem Same.trans {H H1 H2 : Hp} (a : Same H H1) (b : Same H1 H2) : Same H H2 := fun c o h => b c o (a c o h)
theorem Same.free {H H' : Hp} (e : Same H H') {l : Addr} (h : H' l = Option.none) : H l = Option.none := by
  cases q : H l with
  | none => rfl
  | some o =>
    rw [e l o q] at h
    cases h
theorem Same.seq {K : PySem.W.Frag} {H H' : Hp} {a : Addr} {xs : List V} (e : Same H H') (h : SqL K H a xs) : SqL K H' a xs := by
  rcases h with (h | ⟨o, h⟩) | h
  · exact .inl (.inl (e _ _ h))
  · exact .inl (.inr ⟨o, e _ _ h⟩)
  · exact .inr h

end L2

namespace L2
open PySem PySem.Spec PyProof.Rows

section
variable {prog : Program} {w : World} {A : Around} {R : Result → Shared → Prop} {s : Shared}
theorem compLoop_any {elt target iter : Expr} {ifs : List Expr} {scope : Scope} {pos : Pos} {it acc : Value} {env : Env} (I : Nat → Shared → Prop)
    (turn : ∀ n s, I n s → wpAny (model prog w) A (pyNext it) (fun r s₁ => match r with
      | none => R (.ok .next) s₁
      | some v => wpAny (model prog w) A (letOwnedTupleGo target it v) (fun _ s₁' => wpAny (model prog w) A (assign target env v) (fun _ s₂ =>
          wpAny (model prog w) A (forIn ifs true fun c r => if r = true then do let ok ← isTrue c env (eval c env); pure (ForInStep.yield ok) else pure (ForInStep.yield r)) (fun ok s₃ =>
            if ok = true then wpAny (model prog w) A (eval elt env) (fun x s₄ =>
              wpAny (model prog w) A (call (.builtin "list.append") [acc, x]) (fun _ s₅ => ∃ m, m < n ∧ I m s₅) (fun _ _ => False) s₄) (fun _ _ => False) s₃
            else ∃ m, m < n ∧ I m s₃) (fun _ _ => False) s₂) (fun _ _ => False) s₁') (fun _ _ => False) s₁) (fun _ _ => False) s)
    (n : Nat) (h : I n s) :
    codeAny (model prog w) A (.compLoop (.ListComp elt [⟨target, iter, ifs, 0⟩] scope pos) 0 it acc env) R s := by
  refine codeAny_loop rfl I (fun n s hI => ?_) n h
  show wpAny _ A ((compTurn (.ListComp elt [⟨target, iter, ifs, 0⟩] scope pos) 0 it acc env).onRaise (fun x => do noteFrame x env; theTreesLotGoes x)) _ _ s
  refine wpAny_noted ?_
  rw [compTurn_list]
  refine wpAny_bind (wpAny_standAt (wpAny_bind (wpAny_mono (turn n s hI) (fun r s₁ h₁ => ?_) fun _ _ h' => h'.elim)))
  cases r with
  | none => exact wpAny_pure h₁
  | some v =>
    refine wpAny_bind (wpAny_mono h₁ (fun _ s₁' h₁' => ?_) fun _ _ h' => h'.elim)
    refine wpAny_bind (wpAny_mono h₁' (fun _ s₂ h₂ => wpAny_bind (wpAny_mono h₂ (fun ok s₃ h₃ => ?_) fun _ _ h' => h'.elim)) fun _ _ h' => h'.elim)
    cases ok with
    | false => exact wpAny_pure ⟨rfl, h₃⟩
    | true =>
      exact wpAny_bind (wpAny_bind (wpAny_mono h₃ (fun x s₄ h₄ => wpAny_bind (wpAny_mono h₄ (fun _ s₅ h₅ => wpAny_pure (wpAny_pure ⟨rfl, h₅⟩)) fun _ _ h' => h'.elim)) fun _ _ h' => h'.elim))
end

noncomputable def clOf (cells : List (Str × Addr)) : List (Str × NameKind) → List (Str × Addr) → List (Str × Addr)
  | [], acc => acc
  | (n, k) :: r, acc => if k == .free then (match cells.lookup n with | some c => clOf cells r ((n, c) :: acc) | none => clOf cells r acc) else clOf cells r acc
theorem closureFor_fold (env : Env) : ∀ (names : List (Str × NameKind)) (acc : List (Str × Addr)), (∀ x ∈ names, x.2 = .free → ∃ c, env.cells.lookup x.1 = some c) →
    (forIn names acc (fun (x : Str × NameKind) (cs : List (Str × Addr)) => (match x with | (name, kind) => if kind == .free then (do let c ← cellOf env name; pure (ForInStep.yield ((name, c) :: cs))) else pure (ForInStep.yield cs) : Sem (ForInStep (List (Str × Addr)))))) = pure (clOf env.cells names acc)
  | [], acc, _ => rfl
  | (n, k) :: r, acc, h => by
    have hr : ∀ x ∈ r, x.2 = .free → ∃ c, env.cells.lookup x.1 = some c := fun x hx => h x (List.mem_cons_of_mem _ hx)
    simp only [List.forIn_cons]
    by_cases hk : (k == NameKind.free) = true
    · obtain ⟨c, hc⟩ := h (n, k) List.mem_cons_self (by simpa using hk)
      have hc' : env.cells.lookup n = some c := hc
      simp only [hk, if_true, cellOf, hc', pure_bind, clOf]
      exact closureFor_fold env r _ hr
    · simp only [hk, Bool.false_eq_true, if_false, pure_bind, clOf]
      exact closureFor_fold env r _ hr
theorem closureFor_is {scope : Scope} {env : Env} (h : ∀ x ∈ scope.names, x.2 = .free → ∃ c, env.cells.lookup x.1 = some c) : closureFor scope env = pure (clOf env.cells scope.names []) := by
  have e := closureFor_fold env scope.names [] h
  unfold closureFor
  simp only [bind_pure]
  refine Eq.trans ?_ e
  congr 1
theorem clOf_mem (cells : List (Str × Addr)) : ∀ (names : List (Str × NameKind)) (acc : List (Str × Addr)), (∀ p ∈ acc, cells.lookup p.1 = some p.2) → ∀ p ∈ clOf cells names acc, cells.lookup p.1 = some p.2
  | [], acc, h, p, hp => h p hp
  | (n, k) :: r, acc, h, p, hp => by
    unfold clOf at hp
    split at hp
    · split at hp
      · rename_i c hc
        refine clOf_mem cells r _ (fun q hq => ?_) p hp
        rcases List.mem_cons.mp hq with e | e
        · subst e; exact hc
        · exact h q e
      · exact clOf_mem cells r _ h p hp
    · exact clOf_mem cells r _ h p hp
theorem clOf_keeps (cells : List (Str × Addr)) : ∀ (names : List (Str × NameKind)) (acc : List (Str × Addr)) (p), p ∈ acc → p ∈ clOf cells names acc
  | [], acc, p, h => h
  | (n, k) :: r, acc, p, h => by
    unfold clOf
    split
    · split
      · exact clOf_keeps cells r _ p (List.mem_cons_of_mem _ h)
      · exact clOf_keeps cells r _ p h
    · exact clOf_keeps cells r _ p h
theorem clOf_has (cells : List (Str × Addr)) : ∀ (names : List (Str × NameKind)) (acc : List (Str × Addr)) (x : Str) (c : Addr), (x, NameKind.free) ∈ names → cells.lookup x = some c → (x, c) ∈ clOf cells names acc
  | [], acc, x, c, h, _ => by simp at h
  | (n, k) :: r, acc, x, c, h, e => by
    unfold clOf
    rcases List.mem_cons.mp h with q | q
    · cases q
      simp only [beq_self_eq_true, if_true, e]
      exact clOf_keeps cells r _ _ List.mem_cons_self
    · split
      · split
        · exact clOf_has cells r _ x c q e
        · exact clOf_has cells r _ x c q e
      · exact clOf_has cells r _ x c q e
theorem lookup_of_mem {α : Type} {l : List (Str × α)} {x : Str} {c : α} (h : (x, c) ∈ l) : ∃ c', l.lookup x = some c' := by
  induction l with
  | nil => simp at h
  | cons p r ih =>
    obtain ⟨y, d⟩ := p
    by_cases e : (x == y) = true
    · exact ⟨d, by simp [List.lookup_cons, e]⟩
    · have e' : (x == y) = false := by simpa using e
      rcases List.mem_cons.mp h with q | q
      · cases q; simp at e
      · obtain ⟨c', hc⟩ := ih q
        exact ⟨c', by simp [List.lookup_cons, e', hc]⟩
theorem clOf_lookup {cells : List (Str × Addr)} {names : List (Str × NameKind)} {x : Str} {c : Addr} (h : (clOf cells names []).lookup x = some c) : cells.lookup x = some c := 
  clOf_mem cells names [] (fun _ h => by simp at h) (x, c) (PySem.mem_of_lookup h)
theorem clOf_some {cells : List (Str × Addr)} {names : List (Str × NameKind)} {x : Str} {c : Addr} (h : (x, NameKind.free) ∈ names) (e : cells.lookup x = some c) : (clOf cells names []).lookup x = some c := by
  obtain ⟨c', hc⟩ := lookup_of_mem (clOf_has cells names [] x c h e)
  rw [hc, ← clOf_lookup hc, e]

theorem ObjOk.upd_none {P : Program} {w : World} {H : Hp} {h : Heap} {a b : Addr} {o u : HO} (n : H b = none) (x : ObjOk P w H h a o) : ObjOk P w (upd H b u) h a o :=
  x.stay (fun _ _ _ q => q) (fun c q => by rw [upd_ne (ne_of_none q n)]; exact q) fun c xs q => by rw [upd_ne (ne_of_none q n)]; exact q
theorem Inv.adopt {X : Cx} {pins : List (Addr × Obj)} {σ : St} {H : Hp} {s : Shared} {d : Addr} {o : HO} (I : Inv X pins σ H s) (n : H d = none) (h1 : X.s₀.heap.objs.size ≤ d) (h2 : d ≠ X.env.locals)
    (h3 : ∀ x c, X.env.cells.lookup x = some c → c ≠ d) (h4 : ∀ p ∈ X.pn ++ pins, p.1 ≠ d) (new : ObjOk X.prog X.w (upd H d o) s.heap d o) : Inv X pins σ (upd H d o) s := by
  have hH : HOk X.prog X.w (upd H d o) s.heap := fun b u e => by
    by_cases hb : b = d
    · subst hb
      rw [upd_same] at e
      cases e
      exact new
    · rw [upd_ne hb] at e
      exact (I.hok b u e).upd_none n
  have q := I.step (h' := s.heap) (H' := upd H d o) (g' := s.gens) (d' := s.drawn) (t' := s.toks) (ch := [d]) (fun b hb => by
      have e : b = d := by simpa using hb
      subst e
      exact ⟨.inr h1, h2, h3, h4⟩) (fun b o _ _ _ e _ => e) (fun b o _ _ _ e _ => ⟨o.slots, e⟩) (fun b u hb e z => by
      have hb' : b ≠ d := fun e => hb (by simp [e])
      rw [upd_ne hb']; exact z) (fun b o _ e => ⟨o, e⟩)
    (fun b xs e => by rw [upd_ne (ne_of_none e n)]; exact e) (fun b u xs e => by rw [upd_ne (ne_of_none e n)]; exact e) (fun b ps e => ⟨#[], by rw [upd_ne (ne_of_none e n), e]; simp⟩) (fun m hm => hm) hH I.bare
  exact q
end L2

namespace L2
open PySem PySem.Spec PyProof.Rows

theorem relabel_lookup (scope : Scope) (env : Env) (x : Str) : (relabel scope env).names.lookup x = (scope.names.lookup x).map fun k => if (k == .free && env.scope.kind == .function && env.kindOf x == some .cell) = true then .cell else k := by
  show (scope.names.map fun (n, k) => if (k == NameKind.free && env.scope.kind == .function && env.kindOf n == some .cell) then (n, NameKind.cell) else (n, k)).lookup x = _
  generalize scope.names = l
  induction l with
  | nil => rfl
  | cons p r ih =>
    obtain ⟨n, k⟩ := p
    show List.lookup x ((if (k == NameKind.free && env.scope.kind == .function && env.kindOf n == some .cell) = true then (n, NameKind.cell) else (n, k)) :: _) = _
    cases hx : x == n with
    | true =>
      have e : x = n := by simpa using hx
      subst e
      simp only [List.lookup_cons, beq_self_eq_true, Option.map_some]
      split <;> simp
    | false =>
      simp only [List.lookup_cons, hx]
      split <;> (simp only [List.lookup_cons, hx]; exact ih)

noncomputable def compCx (X : Cx) (N' : List Str) (scope : Scope) (s₃ : Shared) (H₃ : Hp) (ex : List Addr) (pins : List (Addr × Obj)) : Cx :=
  { X with N := N', s₀ := s₃, H₀ := H₃, env := compEnvC scope (clOf X.env.cells scope.names []) s₃.heap.objs.size X.env, outer := X.stack, ex := ex, fn := fun _ => false, pn := X.pn ++ pins, xe := fun _ _ => False }
noncomputable def inSt (k : Nat) (keep : List Nat) (σ : St) : St := List.replicate k none ++ keep.map fun i => (σ[i]?).join
structure CompOk (X : Cx) (N' : List Str) (k : Nat) (keep : List Nat) (scope : Scope) : Prop where
  kind : scope.kind = .function
  cell : ∀ y ∈ scope.names, y.2 ≠ .cell
  names : ∀ y ∈ scope.names, y.2 = .local → scope.names.lookup y.1 = some .local
  free : ∀ y ∈ scope.names, y.2 = .free → X.env.scope.names.lookup y.1 = some .cell ∨ X.env.scope.names.lookup y.1 = some .free
  len : N'.length = k + keep.length
  kept : ∀ j i, keep[j]? = some i → ∃ x, N'[k + j]? = some x ∧ X.N[i]? = some x ∧ scope.names.lookup x = some .free
theorem mem_of_lk {l : List (Str × NameKind)} {x : Str} {k : NameKind} (h : l.lookup x = some k) : (x, k) ∈ l := PySem.mem_of_lookup h
section
variable {X : Cx} {N' : List Str} {k : Nat} {keep : List Nat} {scope : Scope} {pins : List (Addr × Obj)} {σ : St} {H H₃ : Hp} {s s₃ : Shared} {ex : List Addr}
theorem CompOk.clo (c : CompOk X N' k keep scope) (ok : X.Ok) : ∀ y ∈ scope.names, y.2 = .free → ∃ c, X.env.cells.lookup y.1 = some c := fun y hy hf => ok.has y.1 (c.free y hy hf)
theorem CompOk.inner (c : CompOk X N' k keep scope) {x : Str} (h : (relabel scope X.env).names.lookup x = some .cell ∨ (relabel scope X.env).names.lookup x = some .free) : scope.names.lookup x = some .free := by
  rw [relabel_lookup] at h
  cases e : scope.names.lookup x with
  | none => rw [e] at h; simp at h
  | some q =>
    rw [e] at h
    have hc := c.cell _ (mem_of_lk e)
    simp only [Option.map_some, Option.some.injEq] at h
    by_cases hq : (q == NameKind.free && X.env.scope.kind == .function && X.env.kindOf x == some .cell) = true
    · have : q = .free := by
        simp only [Bool.and_eq_true] at hq
        simpa using hq.1.1
      rw [this]
    · rw [if_neg hq] at h
      rcases h with h | h
      · exact absurd h hc
      · rw [h]
theorem Inv.enter (c : CompOk X N' k keep scope) (I : Inv X pins σ H s₃) {h' : Heap} {t' : Nat} {m : Str → Option Value} (hns : h'.Ns s₃.heap.objs.size m) (hk : ∀ b o, s₃.heap.get? b = some o → h'.get? b = some o)
    (hex : ∀ b ∈ ex, b < s₃.heap.objs.size ∧ b ≠ X.env.locals ∧ b ∉ X.fs ∧ (b ∈ X.ex ∨ X.s₀.heap.objs.size ≤ b) ∧ ∀ x c, X.env.cells.lookup x = some c → c ≠ b) :
    Inv (compCx X N' scope s₃ H ex pins) [] (inSt k keep σ) H { s₃ with heap := h', toks := t' } := by
  have hcl : ∀ x c', (clOf X.env.cells scope.names []).lookup x = some c' → X.env.cells.lookup x = some c' := fun x c' h => clOf_lookup h
  have nstk : ∀ b ∈ ex, b ∉ frs X.stack := fun b hb z => by
    obtain ⟨h0, h1, h2, _⟩ := hex b hb
    rcases List.mem_cons.mp (I.stkSub b z) with e | e
    · exact h1 e
    · exact h2 e
  have cltb : ∀ x c', X.env.cells.lookup x = some c' → c' < s₃.heap.objs.size := fun x c' e => by
    obtain ⟨v, q⟩ := I.cell x c' e
    exact q.lt
  refine ⟨⟨I.ok.mod, c.kind, I.ok.glob, I.ok.blt, Nat.le_refl _, ?inj, ?has, ?cab, I.ok.hd, I.ok.frames, .inl rfl, ?exf, I.bs, Nat.le_trans I.ok.bsz I.sz, ?noex, nstk, I.stack, I.stkFree⟩, rfl, I.bare, Un.kept hk, ?loc, ?cell, ?free, ?freeC, ?pin, I.hok.kept hk, ?len⟩
  case inj => exact fun x y a h1 h2 => I.ok.inj x y a (hcl x a h1) (hcl y a h2)
  case has =>
    intro x hx
    have e : scope.names.lookup x = some .free := c.inner hx
    obtain ⟨a, ha⟩ := c.clo I.ok (x, .free) (mem_of_lk e) rfl
    exact ⟨a, clOf_some (mem_of_lk e) ha⟩
  case cab => exact fun x a hf => absurd hf (by show ¬ (false = true); simp)
  case exf => exact fun b hb => ⟨Nat.ne_of_lt (hex b hb).1, fun x a e => (hex b hb).2.2.2.2 x a (hcl x a e)⟩
  case noex =>
    intro b o e hb
    rcases (hex b hb).2.2.2.1 with z | z
    · exact I.ok.noex b o e z
    · exact absurd (Nat.lt_of_lt_of_le (Heap.lt_size e) (Nat.le_trans I.ok.bsz z)) (Nat.lt_irrefl _)
  case loc =>
    refine ⟨m, hns, fun i x v e1 e2 e3 => ?_⟩
    have e1 : N'[i]? = some x := e1
    unfold inSt at e2
    by_cases hi : i < k
    · rw [List.getElem?_append_left (by simpa using hi), List.getElem?_replicate, if_pos hi] at e2
      cases e2
    · rw [List.getElem?_append_right (by simpa using hi), List.length_replicate, List.getElem?_map] at e2
      cases ej : keep[i - k]? with
      | none => rw [ej] at e2; cases e2
      | some j =>
        rw [ej] at e2
        have e2' : (σ[j]?).join = some v := Option.some.inj e2
        have e2' : σ[j]? = some (some v) := by
          cases q : σ[j]? with
          | none => rw [q] at e2'; cases e2'
          | some y => rw [q] at e2'; exact congrArg some e2'
        obtain ⟨x', p1, p2, p3⟩ := c.kept _ _ ej
        have ex' : k + (i - k) = i := by omega
        rw [ex', e1] at p1
        cases p1
        have fr := c.free _ (mem_of_lk p3) rfl
        obtain ⟨m0, hn0, hl0⟩ := I.loc
        obtain ⟨u, ru, lk⟩ := hl0 j x v p2 e2' (.inr fr)
        refine ⟨u, ru, ?_⟩
        rcases lk with ⟨l1, _⟩ | ⟨_, a, ha, hcell⟩
        · exfalso
          have l1 : X.env.scope.names.lookup x = some .local := l1
          rcases fr with z | z
          · rw [z] at l1; cases l1
          · rw [z] at l1; cases l1
        · refine .inr ⟨e3.elim (fun z => ?_) id, a, clOf_some (mem_of_lk p3) ha, ?_⟩
          · exfalso
            have z : (relabel scope X.env).names.lookup x = some .local := z
            rw [relabel_lookup, p3] at z
            simp only [Option.map_some, Option.some.injEq] at z
            split at z <;> cases z
          · obtain ⟨o, ho, hd⟩ := hcell
            exact ⟨o, hk _ _ ho, hd⟩
  case cell =>
    intro x a h
    obtain ⟨v, o, ho, hd⟩ := I.cell x a (hcl x a h)
    exact ⟨v, o, hk _ _ ho, hd⟩
  case free => exact I.hok.fresh (Nat.le_refl _)
  case freeC => exact fun x a h => I.freeC x a (hcl x a h)
  case pin =>
    intro p hp
    have hp : p ∈ X.pn ++ pins := by simpa [compCx] using hp
    obtain ⟨e, n, ne, nf, d⟩ := I.pin p hp
    refine ⟨hk _ _ e, n, Nat.ne_of_lt (Heap.lt_size e), fun z => ?_, d⟩
    rcases List.mem_cons.mp (I.stkSub p.1 z) with q | q
    · exact ne q
    · exact nf q
  case len =>
    show (inSt k keep σ).length = N'.length
    rw [c.len]
    unfold inSt
    simp
theorem Inv.leave (I : Inv X pins σ H₃ s₃) {σ' : St} {pins' : List (Addr × Obj)} (J : Inv (compCx X N' scope s₃ H₃ ex pins) pins' σ' H s)
    (hex : ∀ b ∈ ex, b < s₃.heap.objs.size ∧ b ≠ X.env.locals ∧ b ∉ X.fs ∧ (b ∈ X.ex ∨ X.s₀.heap.objs.size ≤ b) ∧ ∀ x c, X.env.cells.lookup x = some c → c ≠ b) (hpin : ∀ b ∈ ex, ∀ p ∈ X.pn ++ pins, p.1 ≠ b) :
    Inv X pins σ H s := by
  have u : Un (frs X.stack) ex H₃ H s₃.heap s.heap := J.base
  have ho : s.os = s₃.os := J.os
  exact I.call' ho u J.hok J.bare fun b hb => ⟨(hex b hb).2.2.2.1, (hex b hb).2.1, (hex b hb).2.2.2.2, hpin b hb⟩
end

noncomputable def PTs (X : Cx) (ifs : List Expr) (t : TT) : Prop :=
  ∀ (pins : List (Addr × Obj)) (s : Shared) (σ : St) (H : Hp) (Q : Bool → Hp → Prop), Inv X pins σ H s → t σ H Q →
    wpAny (model X.prog X.w) X.A (forIn ifs true fun c r => if r = true then do let ok ← isTrue c X.env (eval c X.env); pure (ForInStep.yield ok) else pure (ForInStep.yield r)) (TP X pins σ Q) X.xe s
theorem pts_nil {X : Cx} : PTs X [] (fun _ H Q => Q true H) := fun pins s σ H Q I h => wpAny_tests_nil ⟨H, I, h⟩
theorem pts_one {X : Cx} {c : Expr} {t : TT} (h : PT X c t) : PTs X [c] t := fun pins s σ H Q I q => wpAny_tests_one (h pins s σ H Q I q)

noncomputable def CompW (J : It) (g : TG) (tc : TT) (te : TE) (Q : List V → Hp → Prop) (σ' : St) (H1 : Hp) : Prop :=
  ∃ W : Nat → Nat → List V → St → Hp → Prop, (∃ m, W 0 m [] σ' H1) ∧ ∀ i m xs σ H, W i m xs σ H → xs.length ≤ sizeLine ∧
    ((J.stop i H ∧ Q xs H) ∨ (J.go i H ∧ ∀ x H', J.yld i H x H' → g x σ H' fun σ2 H2 => tc σ2 H2 fun b H3 =>
      if b = true then te σ2 H3 fun y H4 => ∃ m', m' < m ∧ W (i + 1) m' (xs ++ [y]) σ2 H4 else ∃ m', m' < m ∧ W (i + 1) m' xs σ2 H3))
noncomputable def Own (X : Cx) (pins : List (Addr × Obj)) (H : Hp) (b : Addr) : Prop :=
  H b = none ∧ X.s₀.heap.objs.size ≤ b ∧ b ≠ X.env.locals ∧ (∀ x c, X.env.cells.lookup x = some c → c ≠ b) ∧ ∀ p ∈ X.pn ++ pins, p.1 ≠ b
theorem Inv.own {X : Cx} {pins : List (Addr × Obj)} {σ : St} {H H' : Hp} {s : Shared} {b : Addr} (I : Inv X pins σ H s) (hb : s.heap.objs.size ≤ b) (hn : H' b = none) : Own X pins H' b := by
  obtain ⟨f0, f1, f2, f3, f4, f5⟩ := I.fpOk hb hn
  exact ⟨f0, Nat.le_trans I.sz hb, f1, f4, f5⟩
section
variable {X : Cx} {N' : List Str} {k : Nat} {keep : List Nat} {scope : Scope} {pins : List (Addr × Obj)} {σ : St} {H : Hp} {s : Shared}
theorem comp_block {elt tg iter : Expr} {ifs : List Expr} {pos : Pos} {J : It} {fp : List Addr} {it : Addr} {tn : Nat → Heap → Prop} {g : TG} {tc : TT} {te : TE} {Q : List V → Hp → Prop} {RR : Value → Addr → Result → Shared → Prop} {E : Value → Shared → Prop}
    (c : CompOk X N' k keep scope) (calm : X.calm = true) (I : Inv X pins σ H s) (T : Turn X.prog X.w X.K tg J fp it tn) (st : tn 0 s.heap) (hf : ∀ b ∈ fp, FpOk X pins H b)
    (hg : ∀ s₃ ex, PG (compCx X N' scope s₃ H ex pins) tg g) (hc : ∀ s₃ ex, PTs (compCx X N' scope s₃ H ex pins) ifs tc) (he : ∀ s₃ ex, PE (compCx X N' scope s₃ H ex pins) elt te)
    (hW : CompW J g tc te Q (inSt k keep σ) H)
    (hRR : ∀ D C s' H' xs m, Inv X pins σ H' s' → Own X pins H' D → Own X pins H' C → D ≠ C → ObjOk X.prog X.w (upd H' D (.lst xs)) s'.heap D (.lst xs) → s'.heap.Ns C m → Q xs H' → RR (.ref D) C (.ok .next) s') :
    wpAny (model X.prog X.w) X.A (newList []) (fun acc s₃ => wpAny (model X.prog X.w) X.A (newFunctionEnv scope X.env.globals (clOf X.env.cells scope.names []) [] X.env.qual none .none (some X.env)) (fun cenv s₄ =>
      codeAny (model X.prog X.w) X.A (.compStart (.ListComp elt [⟨tg, iter, ifs, 0⟩] scope pos) 0 (.ref it) acc { cenv with scope := relabel scope X.env }) (RR acc cenv.locals) s₄) E s₃) E s := by
  refine wpAny_newObj_type (wpAny_newFunctionEnv c.cell (by intro y hy; simp at hy) (fun h₁ hns₁ hsb₁ => ?_) c.kind)
  dsimp only at hns₁ hsb₁ ⊢
  generalize hH2 : s.heap.push { cls := .type "list", dict := none, data := .seq ([] : List Value).toArray } = H2 at hns₁ hsb₁ ⊢
  have I3 : Inv X pins σ H { s with heap := H2 } := I.kept (t' := s.toks) fun b o e => hH2 ▸ Heap.get?_push_of_some _ e
  have hC : H2.objs.size = s.heap.objs.size + 1 := by rw [← hH2, Heap.size_push]
  have hlt : s.heap.objs.size < H2.objs.size := by rw [hC]; exact Nat.lt_succ_self _
  have hne : s.heap.objs.size ≠ H2.objs.size := Nat.ne_of_lt hlt
  have fpo : ∀ b ∈ fp, ∃ o, s.heap.get? b = some o ∧ ∀ v, o.data ≠ .cell v := T.obj _ _ st
  have fplt : ∀ b ∈ fp, b < s.heap.objs.size := fun b hb => by
    obtain ⟨o, e, _⟩ := fpo b hb
    exact Heap.lt_size e
  have nD : H s.heap.objs.size = none := I.hok.fresh (Nat.le_refl _)
  have nC : H H2.objs.size = none := I.hok.fresh (by omega)
  have oD : Own X pins H s.heap.objs.size := I.own (Nat.le_refl _) nD
  have oC : Own X pins H H2.objs.size := I.own (by omega) nC
  have hkp : ∀ b o, H2.get? b = some o → h₁.get? b = some o := fun b o e => hsb₁.extBut b o (Nat.ne_of_lt (Heap.lt_size e)) (Heap.get?_push_of_some _ e)
  have hex : ∀ b ∈ s.heap.objs.size :: fp, b < ({ s with heap := H2 } : Shared).heap.objs.size ∧ b ≠ X.env.locals ∧ b ∉ X.fs ∧ (b ∈ X.ex ∨ X.s₀.heap.objs.size ≤ b) ∧ ∀ x c, X.env.cells.lookup x = some c → c ≠ b := fun b hb => by
    rcases List.mem_cons.mp hb with e | e
    · subst e
      exact ⟨hlt, oD.2.2.1, I.nofs (Nat.le_refl _), .inr oD.2.1, oD.2.2.2.1⟩
    · obtain ⟨f0, f1, f2, f3, f4, f5⟩ := hf b e
      exact ⟨Nat.lt_trans (fplt b e) hlt, f1, f2, f3, f4⟩
  have hpin : ∀ b ∈ s.heap.objs.size :: fp, ∀ p ∈ X.pn ++ pins, p.1 ≠ b := fun b hb p hp => by
    rcases List.mem_cons.mp hb with e | e
    · subst e; exact oD.2.2.2.2 p hp
    · exact (hf b e).2.2.2.2.2 p hp
  have Dstk : s.heap.objs.size ∉ frs X.stack := fun z => by
    rcases List.mem_cons.mp (I.stkSub _ z) with q | q
    · exact oD.2.2.1 q
    · exact I.nofs (Nat.le_refl _) q
  -- what an address of the iterator is in the block
  generalize hY : compCx X N' scope { s with heap := H2 } H (s.heap.objs.size :: fp) pins = Y
  have ePrg : Y.prog = X.prog := by subst hY; rfl
  have eW : Y.w = X.w := by subst hY; rfl
  have eK : Y.K = X.K := by subst hY; rfl
  have eA : Y.A = X.A := by subst hY; rfl
  have eCalm : Y.calm = true := by subst hY; exact calm
  have eEnv : Y.env = compEnvC scope (clOf X.env.cells scope.names []) H2.objs.size X.env := by subst hY; rfl
  have eXe : Y.xe = fun _ _ => False := by subst hY; rfl
  have J0 : Inv Y [] (inSt k keep σ) H { s with heap := h₁, toks := s.toks + ([] : List (Str × Value)).length } := by
    subst hY
    exact I3.enter (t' := s.toks + ([] : List (Str × Value)).length) c hns₁ hkp hex
  have fpY : ∀ {H' : Hp} {q : List (Addr × Obj)}, (∀ b ∈ fp, H' b = none) → (∀ p ∈ q, p.1 = s.heap.objs.size) → ∀ b ∈ fp, FpOk Y q H' b := fun {H' q} hn hq b hb => by
    obtain ⟨f0, f1, f2, f3, f4, f5⟩ := hf b hb
    have lt := fplt b hb
    subst hY
    refine ⟨hn b hb, Nat.ne_of_lt (Nat.lt_trans lt hlt), fun z => ?_, .inl (List.mem_cons_of_mem _ hb), fun x a e => f4 x a (clOf_lookup e), fun p hp => ?_⟩
    · rcases List.mem_cons.mp (I.stkSub b z) with q | q
      · exact f1 q
      · exact f2 q
    · rcases List.mem_append.mp (show p ∈ (X.pn ++ pins) ++ q from hp) with z | z
      · exact f5 p z
      · rw [hq p z]; exact Nat.ne_of_gt lt
  obtain ⟨W, ⟨m0, w0⟩, turn⟩ := hW
  let Iv : Nat → Shared → Prop := fun n s' => ∃ i xs σ' H' its nn, Inv Y [] σ' H' s' ∧ tn i s'.heap ∧ (∀ b ∈ fp, H' b = none) ∧ H' s.heap.objs.size = none ∧ Vals xs its ∧ s'.heap.get? s.heap.objs.size = some { cls := .type "list", data := .seq its.toArray nn } ∧ W i n xs σ' H'
  have hdD : ∀ {h' : Heap}, (∀ b o, s.heap.get? b = some o → h'.get? b = some o) → True := fun _ => trivial
  have start : Iv m0 { s with heap := h₁, toks := s.toks + ([] : List (Str × Value)).length } := by
    refine ⟨0, [], _, H, [], 0, J0, T.keep _ _ _ st fun b hb o e => hkp b o (hH2 ▸ Heap.get?_push_of_some _ e), fun b hb => (hf b hb).1, nD, .nil, ?_, w0⟩
    exact hkp _ _ (hH2 ▸ Heap.get?_push_size _ rfl)
  have loop : ∀ s₃ : Shared, s₃ = { s with heap := h₁, toks := s.toks + ([] : List (Str × Value)).length } →
      codeAny (model X.prog X.w) X.A (.compLoop (.ListComp elt [⟨tg, iter, ifs, 0⟩] scope pos) 0 (.ref it) (.ref s.heap.objs.size) (compEnvC scope (clOf X.env.cells scope.names []) H2.objs.size X.env))
        (RR (.ref s.heap.objs.size) H2.objs.size) s₃ := by
    rintro s₃ rfl
    refine compLoop_any Iv (fun n s' hI => ?_) m0 start
    obtain ⟨i, xs, σ', H', its, nn, J', tn', fr', dn', rv, hl, w'⟩ := hI
    obtain ⟨hsz, alt⟩ := turn i n xs σ' H' w'
    rcases alt with ⟨stop, q⟩ | ⟨go, step⟩
    · have z := T.done Y ePrg eW eK eCalm i [] s' σ' H' (fun _ _ => False) J' (fpY fr' (fun _ h => by simp at h)) tn' stop
      rw [eA] at z
      -- the list's record is kept: pin it through the last look
      have J'' : Inv Y [(s.heap.objs.size, { cls := .type "list", data := .seq its.toArray nn })] σ' H' s' := J'.pins_of fun p hp => by
        have e : p = (s.heap.objs.size, { cls := .type "list", data := .seq its.toArray nn }) := by simpa using hp
        subst e
        refine ⟨hl, dn', ?_, ?_, fun v h => nomatch h⟩
        · rw [eEnv]; exact hne
        · subst hY; exact Dstk
      have z := T.done Y ePrg eW eK eCalm i _ s' σ' H' (fun _ _ => False) J'' (fpY fr' (fun p hp => by have e : p = _ := (List.mem_singleton.mp hp); rw [e])) tn' stop
      rw [eA] at z
      refine wpAny_mono z (fun r s4 ⟨hr, J4⟩ => ?_) fun _ _ f => f
      subst hr
      have hl4 := (J4.pin _ (List.mem_append_right _ (List.mem_singleton.mpr rfl))).1
      have J5 : Inv (compCx X N' scope { s with heap := H2 } H (s.heap.objs.size :: fp) pins) [(s.heap.objs.size, { cls := .type "list", data := .seq its.toArray nn })] σ' H' s4 := by rw [hY]; exact J4
      have I4 : Inv X pins σ H' s4 := I3.leave J5 hex hpin
      obtain ⟨mC, hnC, _⟩ := J4.loc
      have cfree := J4.free
      rw [eEnv] at hnC cfree
      refine hRR _ _ s4 H' xs mC I4 ⟨dn', oD.2⟩ ⟨cfree, oC.2⟩ hne ⟨hsz, its, nn, rv, hl4⟩ hnC q
    · have J'' : Inv Y [(s.heap.objs.size, { cls := .type "list", data := .seq its.toArray nn })] σ' H' s' := J'.pins_of fun p hp => by
        have e : p = (s.heap.objs.size, { cls := .type "list", data := .seq its.toArray nn }) := by simpa using hp
        subst e
        refine ⟨hl, dn', ?_, ?_, fun v h => nomatch h⟩
        · rw [eEnv]; exact hne
        · subst hY; exact Dstk
      have z := T.item Y ePrg eW eK eCalm i _ s' σ' H' (fun _ _ => False) J'' (fpY fr' (fun p hp => by have e : p = _ := (List.mem_singleton.mp hp); rw [e])) tn' go
      rw [eA] at z
      refine wpAny_mono z (fun r s4 ⟨u, hr, h4⟩ => ?_) fun _ _ f => f
      subst hr
      refine wpAny_mono h4 (fun _ s5 ⟨x, H5, J5, r5, y5, tn5, fr5⟩ => ?_) fun _ _ f => f
      have J5' := J5.pinned (fpY fr5 (fun p hp => by have e : p = _ := (List.mem_singleton.mp hp); rw [e])) (T.obj _ _ tn5)
      have hg' : PG Y tg g := hY ▸ hg _ _
      have hc' : PTs Y ifs tc := hY ▸ hc _ _
      have he' : PE Y elt te := hY ▸ he _ _
      have g6 := hg' _ s5 σ' H5 x u _ J5' r5 (step x H5 y5)
      rw [eXe, eA, ePrg, eW, eEnv] at g6
      refine wpAny_mono g6 (fun _ s6 ⟨σ6, H6, J6, q6⟩ => ?_) fun _ _ f => f
      have c7 := hc' _ s6 σ6 H6 _ J6 q6
      rw [eXe, eA, ePrg, eW, eEnv] at c7
      refine wpAny_mono c7 (fun ok s7 ⟨H7, J7, q7⟩ => ?_) fun _ _ f => f
      have fin : ∀ {s8 : Shared} {σ8 : St} {H8 : Hp} {xs' : List V} {its' : List Value} {n' m' : Nat}, Inv Y [] σ8 H8 s8 → tn (i + 1) s8.heap → (∀ b ∈ fp, H8 b = none) → H8 s.heap.objs.size = none → Vals xs' its' →
          s8.heap.get? s.heap.objs.size = some { cls := .type "list", data := .seq its'.toArray n' } → W (i + 1) m' xs' σ8 H8 → m' < n → ∃ m, m < n ∧ Iv m s8 := fun a1 a2 a3 a4 a5 a6 a7 a8 => ⟨_, a8, _, _, _, _, _, _, a1, a2, a3, a4, a5, a6, a7⟩
      have kp : ∀ {s8 : Shared} {σ8 : St} {H8 : Hp}, Inv Y ([(s.heap.objs.size, { cls := .type "list", data := .seq its.toArray nn })] ++ pinsAt fp s5.heap) σ8 H8 s8 →
          tn (i + 1) s8.heap ∧ (∀ b ∈ fp, H8 b = none) ∧ H8 s.heap.objs.size = none ∧ s8.heap.get? s.heap.objs.size = some { cls := .type "list", data := .seq its.toArray nn } := fun {s8 σ8 H8} J8 => by
        have p1 := J8.pin _ (List.mem_append_right _ (List.mem_append_left _ (List.mem_singleton.mpr rfl)))
        refine ⟨T.keep _ _ _ tn5 fun b hb o e => (J8.pin (b, o) (List.mem_append_right _ (List.mem_append_right _ (mem_pinsAt hb e)))).1, fun b hb => ?_, p1.2.1, p1.1⟩
        obtain ⟨o, e, d⟩ := T.obj _ _ tn5 b hb
        exact (J8.pin (b, o) (List.mem_append_right _ (List.mem_append_right _ (mem_pinsAt hb e)))).2.1
      cases ok with
      | false =>
        simp only [Bool.false_eq_true, if_false] at q7 ⊢
        obtain ⟨m', hm, w7⟩ := q7
        obtain ⟨k1, k2, k3, k4⟩ := kp J7
        exact fin (J7.pins_of fun p hp => by simp at hp) k1 k2 k3 rv k4 w7 hm
      | true =>
        simp only [if_true] at q7 ⊢
        have e8 := he' _ s7 σ6 H7 _ J7 q7
        rw [eXe, eA, ePrg, eW, eEnv] at e8
        refine wpAny_mono e8 (fun y s8 ⟨v8, H8, J8, r8, m', hm, w8⟩ => ?_) fun _ _ f => f
        obtain ⟨k1, k2, k3, k4⟩ := kp J8
        have hl8 : s8.heap.PlainList s.heap.objs.size its.toArray := ⟨nn, k4⟩
        refine wpAny_list_append_plain (hsz := by have := rv.length; simp only [List.size_toArray]; omega) hl8 fun h9 hl9 hs9 => ?_
        obtain ⟨n9, e9⟩ := hl9
        have J9 : Inv Y [] σ6 H8 { s8 with heap := h9 } := by
          have J8' : Inv Y [] σ6 H8 s8 := J8.pins_of fun p hp => by simp at hp
          refine J8'.turned (t' := s8.toks) (it := s.heap.objs.size) (fun b o hb e => hs9.extBut b o hb e) k3 ?_ ?_ ?_ ?_
          · rw [eEnv]; exact hne
          · subst hY; exact .inl List.mem_cons_self
          · subst hY; exact fun x a e => oD.2.2.2.1 x a (clOf_lookup e)
          · subst hY
            intro p hp
            exact oD.2.2.2.2 p (by simpa [compCx] using hp)
        refine fin (n' := n9) (its' := its ++ [y]) J9 (T.keep _ _ _ k1 fun b hb o e => hs9.extBut b o (Nat.ne_of_lt (fplt b hb)) e) k2 k3 (rv.append (.cons r8 .nil)) ?_ w8 hm
        show h9.get? _ = _
        rw [e9, List.push_toArray]
  exact codeAny_compStart_list (loop _ rfl) (T.self _ 0 _ _ _ (T.keep _ _ _ st fun b hb o e => hkp b o (hH2 ▸ Heap.get?_push_of_some _ e)) (loop _ rfl))
end
end L2

namespace L2
open PySem PySem.Spec PyProof.Rows
noncomputable def tComp (k : Nat) (keep : List Nat) (wi : TI) (g : TG) (tc : TT) (te : TE) : TE := fun σ H Q => wi σ H fun J H1 =>
  CompW J g tc te (fun xs H' => ∀ p, H' p = none → Q (.ref p) (upd H' p (.lst xs))) (inSt k keep σ) H1
section
variable {X : Cx} {N' : List Str} {k : Nat} {keep : List Nat} {scope : Scope} {elt tg iter : Expr} {ifs : List Expr} {pos : Pos} {wi : TI} {g : TG} {tc : TT} {te : TE}
theorem pe_comp (c : CompOk X N' k keep scope) (calm : X.calm = true) (hi : PI X tg iter wi)
    (hg : ∀ s₃ H ex pins, PG (compCx X N' scope s₃ H ex pins) tg g) (hc : ∀ s₃ H ex pins, PTs (compCx X N' scope s₃ H ex pins) ifs tc) (he : ∀ s₃ H ex pins, PE (compCx X N' scope s₃ H ex pins) elt te)
    (hs : ∀ x, foldedSetIterable iter X.env x = pure x) : PE X (.ListComp elt [⟨tg, iter, ifs, 0⟩] scope pos) (tComp k keep wi g tc te) := by
  intro pins s σ H Q I h
  rw [eval_ListComp]
  refine wpAny_comprehension_free (use := none) rfl hs (closureFor_is (c.clo I.ok)) c.kind c.names ?_
  refine thn (hi pins s σ H _ I h) fun v s1 h1 => thn h1 fun itv s2 h2 => ?_
  obtain ⟨it, fp, tn, J, H2, e, I2, T, st2, f2, hW⟩ := h2
  subst e
  refine comp_block c calm I2 T st2 f2 (fun s₃ ex => hg s₃ H2 ex pins) (fun s₃ ex => hc s₃ H2 ex pins) (fun s₃ ex => he s₃ H2 ex pins) hW (RR := fun acc C => compPost (model X.prog X.w) X.A X.xe none (EP X pins σ Q) acc C) ?_
  intro D C s' H' xs m I' oD oC hDC new hn q
  refine ⟨m, hn, fun h' hs' => ?_⟩
  have I3 : Inv X pins σ (upd H' D (.lst xs)) s' := I'.adopt oD.1 oD.2.1 oD.2.2.1 oD.2.2.2.1 oD.2.2.2.2 new
  have I4 : Inv X pins σ (upd H' D (.lst xs)) { s' with heap := h' } := I3.turned (t' := s'.toks) (it := C) (fun b o hb e => hs'.extBut b o hb e) (by rw [upd_ne hDC.symm]; exact oC.1) oC.2.2.1 (.inr oC.2.1) oC.2.2.2.1 oC.2.2.2.2
  exact ⟨.ref D, _, I4, rfl, q D oD.1⟩
theorem ps_comp {i : Nat} {y : Str} {py spos : Pos} (hN : X.N.Nodup) (hiy : X.N[i]? = some y) (hy : Loc X.env.scope y) (hf : X.fn y = true ∨ X.env.scope.names.lookup y = some .local)
    (hsw : swapsWith (.ListComp elt [⟨tg, iter, ifs, 0⟩] scope pos) (some (.Name y py)) spos.line X.env = pure true)
    (c : CompOk X N' k keep scope) (calm : X.calm = true) (hi : PI X tg iter wi)
    (hg : ∀ s₃ H ex pins, PG (compCx X N' scope s₃ H ex pins) tg g) (hc : ∀ s₃ H ex pins, PTs (compCx X N' scope s₃ H ex pins) ifs tc) (he : ∀ s₃ H ex pins, PE (compCx X N' scope s₃ H ex pins) elt te)
    (hs : ∀ x, foldedSetIterable iter X.env x = pure x) : PS X (.Assign [.Name y py] (.ListComp elt [⟨tg, iter, ifs, 0⟩] scope pos) spos) (tAsg (tComp k keep wi g tc te) (gName i)) := by
  intro pins s σ H D0 I h
  rw [exec_Assign_Name_used _ _ _ _ hsw]
  refine wpAny_bind (wpAny_standAt (wpAny_bind ?_))
  show wpAny _ X.A (do let _ ← comprehension (.ListComp elt [⟨tg, iter, ifs, 0⟩] scope pos) scope X.env _ (newList []) false (eval iter X.env) (some (assign (.Name y py) X.env))) _ _ s
  refine wpAny_bind (wpAny_mono (wpAny_comprehension_free (use := some (assign (.Name y py) X.env)) (Q := fun _ s' => SP X pins D0 .next s') rfl hs (closureFor_is (c.clo I.ok)) c.kind c.names ?_) (fun _ s' hq => wpAny_pure (wpAny_pure hq)) fun _ _ e => e)
  refine thn (hi pins s σ H _ I h) fun v s1 h1 => thn h1 fun itv s2 h2 => ?_
  obtain ⟨it, fp, tn, J, H2, e, I2, T, st2, f2, hW⟩ := h2
  subst e
  refine comp_block c calm I2 T st2 f2 (fun s₃ ex => hg s₃ H2 ex pins) (fun s₃ ex => hc s₃ H2 ex pins) (fun s₃ ex => he s₃ H2 ex pins) hW (RR := fun acc C => compPost (model X.prog X.w) X.A X.xe (some (assign (.Name y py) X.env)) (fun _ s' => SP X pins D0 .next s') acc C) ?_
  intro D C s' H' xs m I' oD oC hDC new hn q
  have I3 : Inv X pins σ (upd H' D (.lst xs)) s' := I'.adopt oD.1 oD.2.1 oD.2.2.1 oD.2.2.2.1 oD.2.2.2.2 new
  show wpAny _ X.A (assign (.Name y py) X.env (.ref D)) _ _ _
  refine wpAny_assign_Name (store_ok2 I3 hN hiy hy (v := .ref D) rfl (fun s'' I5 hsb => ?_) hf)
  obtain ⟨a, sb, ha⟩ := hsb
  have hCa : C ≠ a := by
    rcases ha with e | e
    · rw [e]; exact oC.2.2.1
    · exact fun z => oC.2.2.2.1 y a e z.symm
  refine ⟨m, hn.sameBut sb hCa, fun h' hs' => ?_⟩
  have I4 : Inv X pins (σ.set i (some (.ref D))) (upd H' D (.lst xs)) { s'' with heap := h' } := I5.turned (t' := s''.toks) (it := C) (fun b o hb e => hs'.extBut b o hb e) (by rw [upd_ne hDC.symm]; exact oC.1) oC.2.2.1 (.inr oC.2.1) oC.2.2.2.1 oC.2.2.2.2
  exact ⟨_, _, I4, q D oD.1⟩
end
end L2

namespace L2
open PySem PySem.Spec PyProof.Rows
theorem Inv.turnedL {X : Cx} {pins : List (Addr × Obj)} {σ : List (Option V)} {H : Hp} {s : Shared} {h' : Heap} {t' : Nat} {fp : List Addr} (I : Inv X pins σ H s) (k : ∀ b o, b ∉ fp → s.heap.get? b = some o → h'.get? b = some o) (hf : ∀ b ∈ fp, FpOk X pins H b) : Inv X pins σ H { s with heap := h', toks := t' } := by
  have nit : ∀ b u, H b = some u → b ∉ fp := fun b u e z => by rw [(hf b z).1] at e; cases e
  refine I.step (g' := s.gens) (d' := s.drawn) (ch := fp) (fun b hb => ?_) (fun b o _ _ hc e _ => k b o hc e) (fun b o _ _ hc e _ => ⟨o.slots, k b o hc e⟩) (fun _ _ _ _ n => n)
    (fun b o hc e => ⟨o, k b o hc e⟩) (fun _ _ e => e) (fun _ _ _ e => e) (fun b ps e => ⟨#[], by rw [e]; simp⟩) (fun m hm => ?_) (fun b u e => ?_) I.bare
  · obtain ⟨f0, f1, f2, f3, f4, f5⟩ := hf b hb
    exact ⟨f3, f1, f4, f5⟩
  · obtain ⟨o, es, ep, ho, r⟩ := hm
    exact ⟨o, es, ep, k _ o (fun z => (hf _ z).2.1 rfl) ho, r⟩
  · refine (I.hok b u e).stay (fun c v hc q => k c v ?_ q) (fun _ q => q) fun _ _ q => q
    rcases hc with z | z
    · rw [z]; exact nit b u e
    · exact nit c _ z
noncomputable def Itz (K : PySem.W.Frag) (l1 l2 : Addr) : It :=
  ⟨fun i H => ∃ xs ys x y, SqL K H l1 xs ∧ SqL K H l2 ys ∧ xs[i]? = some x ∧ ys[i]? = some y,
   fun i H v H' => ∃ p x y, H p = none ∧ v = .ref p ∧ H' = upd H p (.tup [x, y]) ∧ (∀ xs, SqL K H l1 xs → xs[i]? = some x) ∧ ∀ ys, SqL K H l2 ys → ys[i]? = some y,
   fun i H => ∃ xs ys, SqL K H l1 xs ∧ SqL K H l2 ys ∧ (xs.length ≤ i ∨ ys.length ≤ i)⟩
noncomputable def zipAt (z TI TO i1 i2 l1 l2 : Addr) (i : Nat) (h : Heap) : Prop := IsZip h z TI TO .none ∧ IsPair h TI (.ref i1) (.ref i2) ∧ (∃ a b, IsPair h TO a b) ∧ h.IsListIter i1 l1 i ∧ h.IsListIter i2 l2 i
theorem turn_zip {P : Program} {w : World} {K : PySem.W.Frag} {elts : List Expr} {x1 : Nat} {tp : Pos} (z TI TO i1 i2 l1 l2 : Addr) (ap : ZipApart z TI TO i1 i2 l1 l2) :
    Turn P w K (.Tuple elts x1 tp) (Itz K l1 l2) [z, TI, TO, i1, i2] z (zipAt z TI TO i1 i2 l1 l2) where
  mem := by simp
  obj := fun i h st b hb => by
    obtain ⟨hz, hti, ⟨a, c, hto⟩, ⟨o1, e1, c1, d1⟩, ⟨o2, e2, c2, d2⟩⟩ := st
    simp only [List.mem_cons, List.not_mem_nil, or_false] at hb
    rcases hb with rfl | rfl | rfl | rfl | rfl
    · exact ⟨_, hz, fun v q => by cases q⟩
    · exact ⟨_, hti, fun v q => by cases q⟩
    · exact ⟨_, hto, fun v q => by cases q⟩
    · exact ⟨o1, e1, fun v q => by rw [d1] at q; cases q⟩
    · exact ⟨o2, e2, fun v q => by rw [d2] at q; cases q⟩
  keep := fun i h h' st k => by
    obtain ⟨hz, hti, ⟨a, c, hto⟩, h1, h2⟩ := st
    exact ⟨k z (by simp) _ hz, k TI (by simp) _ hti, ⟨a, c, k TO (by simp) _ hto⟩, h1.at fun o e => k i1 (by simp) o e, h2.at fun o e => k i2 (by simp) o e⟩
  item := by
    intro X hP hw hK hc i pins s σ H E I hf st hg
    subst hP hw hK
    obtain ⟨xs, ys, x, y, hq1, hq2, hx, hy⟩ := hg
    have ho : ∀ b ∈ [z, TI, TO, i1, i2], ∃ o, s.heap.get? b = some o := fun b hb => by
      obtain ⟨hz, hti, ⟨a, c, hto⟩, ⟨o1, e1, _⟩, ⟨o2, e2, _⟩⟩ := st
      simp only [List.mem_cons, List.not_mem_nil, or_false] at hb
      rcases hb with rfl | rfl | rfl | rfl | rfl
      · exact ⟨_, hz⟩
      · exact ⟨_, hti⟩
      · exact ⟨_, hto⟩
      · exact ⟨_, e1⟩
      · exact ⟨_, e2⟩
    obtain ⟨hz, hti, ⟨a, c, hto⟩, hi1, hi2⟩ := st
    obtain ⟨its1, rv1, p1, _⟩ := I.list hq1
    obtain ⟨its2, rv2, p2, _⟩ := I.list hq2
    obtain ⟨u, hu, ru⟩ := rv1.get hx
    obtain ⟨v, hv, rv⟩ := rv2.get hy
    refine wpAny_pyNext_zip_item ap hz hti hto hi1 hi2 p1.isList p2.isList (x := u) (y := v) (by simpa using hu) (by simpa using hv) fun h' z1 to1 j1 j2 pr sz kk => ?_
    refine ⟨_, rfl, wpAny_letOwnedTupleGo_zip (s := { s with heap := h' }) z1 fun h2 z2 sb => ?_⟩
    have hf0 : H s.heap.objs.size = none := I.hok.fresh (Nat.le_refl _)
    have I0 : Inv X pins σ (upd H s.heap.objs.size (.tup [x, y])) { s with heap := s.heap.push { cls := .type "tuple", data := .seq #[u, v] }, toks := s.toks } :=
      I.laid (t' := s.toks) (fun b o e => Heap.get?_push_of_some _ e) (Nat.le_refl _) ⟨by show 2 ≤ sizeLine; decide, [u, v], .cons ru (.cons rv .nil), ⟨_, Heap.get?_push_size _ rfl, rfl, _, rfl⟩⟩
    have neT : ∀ b ∈ [z, TI, TO, i1, i2], b ≠ s.heap.objs.size := fun b hb e => by
      obtain ⟨o, q⟩ := ho b hb
      exact absurd (Heap.lt_size q) (by rw [e]; exact Nat.lt_irrefl _)
    have hf' : ∀ b ∈ [z, TI, TO, i1, i2], FpOk X pins (upd H s.heap.objs.size (.tup [x, y])) b := fun b hb => by
      obtain ⟨f0, f1, f2, f3, f4, f5⟩ := hf b hb
      exact ⟨by rw [upd_ne (neT b hb)]; exact f0, f1, f2, f3, f4, f5⟩
    have I1 : Inv X pins σ (upd H s.heap.objs.size (.tup [x, y])) { s with heap := h2, toks := s.toks } := by
      refine Inv.turnedL (s := { s with heap := s.heap.push { cls := .type "tuple", data := .seq #[u, v] }, toks := s.toks }) (h' := h2) (t' := s.toks) (fp := [z, TI, TO, i1, i2]) I0 (fun b o hb e => ?_) hf'
      replace e : (s.heap.push { cls := .type "tuple", data := .seq #[u, v] }).get? b = some o := e
      simp only [List.mem_cons, List.not_mem_nil, or_false, not_or] at hb
      obtain ⟨b1, b2, b3, b4, b5⟩ := hb
      rw [sb.2 b b1]
      by_cases hT : b = s.heap.objs.size
      · subst hT
        have : (s.heap.push { cls := .type "tuple", data := .seq #[u, v] }).get? s.heap.objs.size = some { cls := .type "tuple", data := .seq #[u, v] } := Heap.get?_push_size _ rfl
        rw [this] at e
        cases e
        exact pr
      · have e' : s.heap.get? b = some o := by
          rw [Heap.get?_push_ne _ _ _ hT] at e
          exact e
        exact kk b o b1 b3 b4 b5 e'
    refine ⟨.ref s.heap.objs.size, _, I1, rfl, ⟨_, x, y, hf0, rfl, rfl, fun zs hz' => by rw [I.list_inj hz' hq1]; exact hx, fun zs hz' => by rw [I.list_inj hz' hq2]; exact hy⟩, ⟨z2, ?_, ⟨u, v, ?_⟩, ?_, ?_⟩, fun b hb => (hf' b hb).1⟩
    · show h2.get? TI = _
      rw [sb.2 TI ap.TIz]
      exact kk TI _ ap.TIz ap.TITO ap.TIi1 ap.TIi2 hti
    · show h2.get? TO = _
      rw [sb.2 TO ap.TOz]
      exact to1
    · exact j1.at fun o e => (sb.2 i1 ap.i1z).trans e
    · exact j2.at fun o e => (sb.2 i2 ap.i2z).trans e
  done := by
    intro X hP hw hK hc i pins s σ H E I hf st hg
    subst hP hw hK
    obtain ⟨xs, ys, hq1, hq2, hl⟩ := hg
    obtain ⟨hz, hti, ⟨a, c, hto⟩, hi1, hi2⟩ := st
    obtain ⟨its1, rv1, p1, _⟩ := I.list hq1
    obtain ⟨its2, rv2, p2, _⟩ := I.list hq2
    have l1 := rv1.length
    have l2 := rv2.length
    refine wpAny_pyNext_zip_end (I.ok.hd hc) ap hz hti hto hi1 hi2 p1.isList p2.isList (hl.elim (fun h => .inl (by simp; omega)) (fun h => .inr (by simp; omega))) fun h' kk => ⟨rfl, I.turnedL (t' := s.toks) (fp := [z, TI, TO, i1, i2]) (fun b o hb e => ?_) hf⟩
    simp only [List.mem_cons, List.not_mem_nil, or_false, not_or] at hb
    exact kk b o hb.1 hb.2.2.1 hb.2.2.2.1 hb.2.2.2.2 e
  self := fun _ _ _ _ _ st h => wpAny_pyIter_zip st.1 h
noncomputable def iZip (K : PySem.W.Frag) (ta : TA) : TI := fun σ H R => ta σ H fun vs H1 => ∃ l1 l2, vs = [.ref l1, .ref l2] ∧ (∃ xs, SqL K H1 l1 xs) ∧ (∃ ys, SqL K H1 l2 ys) ∧ R (Itz K l1 l2) H1
theorem boot_zip : bootBuiltins "zip" = some (.type "zip") := by rfl
theorem zip_apart {n a b : Nat} (h1 : a < n) (h2 : b < n) : ZipApart (n + 4) (n + 2) (n + 3) n (n + 1) a b := by
  constructor <;> (intro e; replace e : @Eq Nat _ _ := e; omega)
theorem pi_zip {X : Cx} {a b : Expr} {ta : TA} {p pos : Pos} {elts : List Expr} {x1 : Nat} {tp : Pos} (hg : Gl X "zip") (hm : X.mg "zip" = none) (ha : PA X [a, b] ta) (hs : starEach [a, b] X.env = [(false, eval a X.env), (false, eval b X.env)] := by rfl) (hs2 : starEach [b] X.env = [(false, eval b X.env)] := by rfl) :
    PI X (.Tuple elts x1 tp) (.Call (.Name "zip" p) [a, b] [] pos) (iZip X.K ta) := by
  intro pins s σ H R I h
  refine Call_ (ld_blt I hg hm boot_zip (PyProof.Rows.callWith_type1 (thn (ha pos pins s σ H _ I h) fun us s1 ⟨vs, H1, I1, r1, q1⟩ => ?_) (by rw [hs, hs2]) (by rw [hs2]; rfl)))
  obtain ⟨l1, l2, e, ⟨xs, hq1⟩, ⟨ys, hq2⟩, q⟩ := q1
  subst e
  cases r1 with
  | cons r rr =>
    cases rr with
    | cons r' rr =>
      cases rr
      cases r
      cases r'
      obtain ⟨its1, rv1, p1, _⟩ := I1.list hq1
      obtain ⟨its2, rv2, p2, _⟩ := I1.list hq2
      have lt1 : l1 < s1.heap.objs.size := by obtain ⟨o, e, _⟩ := id p1.isList; exact Heap.lt_size e
      have lt2 : l2 < s1.heap.objs.size := by obtain ⟨o, e, _⟩ := id p2.isList; exact Heap.lt_size e
      refine call_zip_2 p1.isList p2.isList fun h' z1 ti to j1 j2 sz kk => ?_
      refine wpAny_pyIter_zip (s := { s1 with heap := h' }) z1 ?_
      have ap : ZipApart (s1.heap.objs.size + 4) (s1.heap.objs.size + 2) (s1.heap.objs.size + 3) s1.heap.objs.size (s1.heap.objs.size + 1) l1 l2 := zip_apart lt1 lt2
      refine ⟨s1.heap.objs.size + 4, _, _, _, H1, rfl, I1.kept (t' := s1.toks) kk, turn_zip _ _ _ _ _ l1 l2 ap, ⟨z1, ti, ⟨_, _, to⟩, j1, j2⟩, fun b hb => ?_, q⟩
      have hb' : s1.heap.objs.size ≤ b := by
        simp only [List.mem_cons, List.not_mem_nil, or_false] at hb
        rcases hb with rfl | rfl | rfl | rfl | rfl
        · exact Nat.le_add_right _ _
        · exact Nat.le_add_right _ _
        · exact Nat.le_add_right _ _
        · exact Nat.le_refl _
        · exact Nat.le_add_right _ _
      exact I1.fpOk hb' (I1.hok.fresh hb')
end L2

namespace Mi
open PySem L2

inductive D where
  | non | bl (b : Bool) | int (i : Int) | str (x : Str) | tup (ds : List D) | loc (l : Nat) | kl (ds : List D) | kd (kvs : List (Str × Int))
  deriving Inhabited
inductive Obj where
  | lst (ds : List D) | dct (kvs : List (D × D)) | ins (c : String) (fs : List (String × D))
  deriving Inhabited
noncomputable abbrev Store := List Obj
noncomputable abbrev En := List (Option D)
inductive Res (α : Type) where
  | ok (a : α) (S : Store) | err (c : String) (S : Store) | bad
noncomputable def Res.bind {α β : Type} (r : Res α) (f : α → Store → Res β) : Res β := match r with
  | .ok a S => f a S
  | .err c S => .err c S
  | .bad => .bad
@[simp] theorem Res.bind_ok {α β : Type} (a : α) (S : Store) (f : α → Store → Res β) : (Res.ok a S).bind f = f a S := rfl
@[simp] theorem Res.bind_err {α β : Type} (c : String) (S : Store) (f : α → Store → Res β) : (Res.err c S : Res α).bind f = .err c S := rfl
@[simp] theorem Res.bind_bad {α β : Type} (f : α → Store → Res β) : (Res.bad : Res α).bind f = .bad := rfl
theorem Res.bind_eq_ok {α β : Type} {r : Res α} {f : α → Store → Res β} {b : β} {S' : Store} (h : r.bind f = .ok b S') : ∃ a S, r = .ok a S ∧ f a S = .ok b S' := by
  cases r with
  | ok a S => exact ⟨a, S, rfl, h⟩
  | err c S => cases h
  | bad => cases h

noncomputable def Line : Nat := 16777216

inductive Bop where | add | sub | mul | fdiv | mod | pow deriving DecidableEq
inductive Cop where | eq | ne | lt | le | gt | ge | isc | isnc | inn | nin deriving DecidableEq
inductive Prim where | len | abs | min2 | max2 | int1 | str1 | list1 | tuple1 | divmod | all1 | sum1 deriving DecidableEq
inductive Meth where | append | pop0 | reverse | index | get2 | indexT deriving DecidableEq

noncomputable def scalV : D → Option V
  | .non => some .non
  | .bl b => some (.bl b)
  | .int i => some (.int i)
  | .str x => some (.str x)
  | _ => none
noncomputable def seqAt (S : Store) (l : Nat) : Option (List D) := match S[l]? with
  | some (.lst ds) => some ds
  | _ => none
noncomputable def eqL (f : D → D → Option Bool) : List D → List D → Option Bool
  | [], [] => some true
  | a :: as, b :: bs => match f a b, eqL f as bs with
    | some x, some y => some (x && y)
    | _, _ => none
  | _, _ => some false
noncomputable def eqD (S : Store) : Nat → D → D → Option Bool
  | 0, a, b => match scalV a, scalV b with
    | some x, some y => some (eqV x y)
    | _, _ => none
  | n + 1, a, b => match a, b with
    | .tup as, .tup bs => if as.length = bs.length then eqL (eqD S n) as bs else (if (eqL (eqD S n) (as.take bs.length) (bs.take as.length)).isSome then some false else none)
    | .loc l, .loc k => match seqAt S l, seqAt S k with
      | some as, some bs => if as.length = bs.length then eqL (eqD S n) as bs else some false
      | _, _ => none
    | a, b => match scalV a, scalV b with
      | some x, some y => some (eqV x y)
      | _, _ => none
noncomputable def Deep : Nat := 12
noncomputable def anyEq (S : Store) (n : Nat) (x : D) : List D → Option Bool
  | [] => some false
  | y :: ys => match eqD S n y x, anyEq S n x ys with
    | some a, some b => some (a || b)
    | _, _ => none

noncomputable def small (i : Int) : Bool := decide (-(2 ^ 64) < i) && decide (i < 2 ^ 64)
noncomputable def mid (i : Int) : Bool := decide (i.natAbs < 2 ^ 4096)
noncomputable def bop (o : Bop) (x y : D) (S : Store) : Res D := match o, x, y with
  | .add, .int i, .int j => .ok (.int (i + j)) S
  | .add, .str a, .str b => if a.length + b.length ≤ Line then .ok (.str (a ++ b)) S else .bad
  | .add, .tup a, .tup b => if a.length + b.length ≤ Line then .ok (.tup (a ++ b)) S else .bad
  | .add, .loc l, .loc k => match S[l]?, S[k]? with
    | some (.lst a), some (.lst b) => if a.length + b.length ≤ Line then .ok (.loc S.length) (S ++ [.lst (a ++ b)]) else .bad
    | _, _ => .bad
  | .sub, .int i, .int j => .ok (.int (i - j)) S
  | .mul, .int i, .int j => if small i || small j || (mid i && mid j) then .ok (.int (i * j)) S else .bad
  | .mul, .tup a, .int k => if decide (-(2 ^ 63) ≤ k) && decide (k < 2 ^ 63) && decide (a.length * k.toNat ≤ Line) then .ok (.tup (List.replicate k.toNat a).flatten) S else .bad
  | .mul, .loc l, .int k => match S[l]? with
    | some (.lst a) => if decide (-(2 ^ 63) ≤ k) && decide (k < 2 ^ 63) && decide (a.length * k.toNat ≤ Line) then .ok (.loc S.length) (S ++ [.lst (List.replicate k.toNat a).flatten]) else .bad
    | _ => .bad
  | .fdiv, .int i, .int j => if 0 < j ∧ j.natAbs < 2 ^ 4096 then .ok (.int (i / j)) S else .bad
  | .mod, .int i, .int j => if 0 < j then .ok (.int (i % j)) S else .bad
  | .pow, .int i, .int j => if decide (0 ≤ j) && decide (j ≤ 1000000) && decide (i.natAbs < 2 ^ 64) then .ok (.int (i ^ j.toNat)) S else .bad
  | _, _, _ => .bad
noncomputable def seqOf (S : Store) : D → Option (List D)
  | .tup ds => some ds
  | .loc l => seqAt S l
  | .kl ds => some ds
  | _ => none
noncomputable def cop (o : Cop) (x y : D) (S : Store) : Option Bool := match o with
  | .eq => eqD S Deep x y
  | .ne => (eqD S Deep x y).map (!·)
  | .lt => match x, y with | .int i, .int j => some (decide (i < j)) | _, _ => none
  | .le => match x, y with | .int i, .int j => some (decide (i ≤ j)) | _, _ => none
  | .gt => match x, y with | .int i, .int j => some (decide (j < i)) | _, _ => none
  | .ge => match x, y with | .int i, .int j => some (decide (j ≤ i)) | _, _ => none
  | .isc => match y with
    | .non => some (match x with | .non => true | _ => false)
    | .bl b => match x with | .bl a => some (a == b) | .non => some false | .int _ => some false | .loc _ => some false | .tup _ => some false | _ => none
    | _ => none
  | .isnc => match y with
    | .non => some (match x with | .non => false | _ => true)
    | .bl b => match x with | .bl a => some (!(a == b)) | .non => some true | .int _ => some true | .loc _ => some true | .tup _ => some true | _ => none
    | _ => none
  | .inn => match seqOf S y with | some ds => anyEq S Deep x ds | none => none
  | .nin => match seqOf S y with | some ds => (anyEq S Deep x ds).map (!·) | none => none
noncomputable def tru (S : Store) : D → Option Bool
  | .non => some false
  | .bl b => some b
  | .int i => some (i != 0)
  | .str x => if x.length ≤ Line then some ((x.length : Int) != 0) else none
  | .tup ds => some (!ds.isEmpty)
  | .loc l => match seqAt S l with | some ds => some (!ds.isEmpty) | none => none
  | .kl ds => some (!ds.isEmpty)
  | .kd _ => none
noncomputable def idxD (x y : D) (S : Store) : Option D := match y with
  | .int i => match seqOf S x with
    | some ds => atI ds i
    | none => match x with
      | .str z => if z.length ≤ Line then (atI z.cps.toList i).map fun c => .str ⟨#[c]⟩ else none
      | _ => none
  | _ => none
noncomputable def cutD (xs : List D) (lo hi : Option Int) : List D := (xs.drop (HT.sIx xs.length 0 lo)).take (HT.sIx xs.length xs.length hi - HT.sIx xs.length 0 lo)
noncomputable def sliD (x : D) (lo hi : Option Int) (S : Store) : Res D := match x with
  | .tup ds => if HT.sIx ds.length 0 lo = 0 ∧ HT.sIx ds.length ds.length hi = ds.length then .bad else .ok (.tup (cutD ds lo hi)) S
  | .loc l => match seqAt S l with
    | some ds => .ok (.loc S.length) (S ++ [.lst (cutD ds lo hi)])
    | none => .bad
  | .kl ds => .ok (.loc S.length) (S ++ [.lst (cutD ds lo hi)])
  | _ => .bad
noncomputable def tyD (S : Store) : D → Option String
  | .non => some "NoneType"
  | .bl _ => some "bool"
  | .int _ => some "int"
  | .str _ => some "str"
  | .tup _ => some "tuple"
  | .loc l => match S[l]? with | some (.lst _) => some "list" | some (.dct _) => some "dict" | _ => none
  | .kl _ => none
  | .kd _ => none
noncomputable def isiD (t c : String) : Bool := t == c || (t == "bool" && c == "int")
noncomputable def allB : List D → Option Bool
  | [] => some true
  | .bl b :: r => (allB r).map (b && ·)
  | _ => none
noncomputable def sumI : List D → Option Int
  | [] => some 0
  | .int i :: r => (sumI r).map (i + ·)
  | _ => none
noncomputable def primD (p : Prim) (ds : List D) (S : Store) : Res D := match p, ds with
  | .len, [x] => match seqOf S x with
    | some ds => .ok (.int ds.length) S
    | none => match x with | .str z => if z.length ≤ Line then .ok (.int z.length) S else .bad | _ => .bad
  | .abs, [.int i] => .ok (.int (if i < 0 then -i else i)) S
  | .max2, [.int i, .int j] => .ok (.int (if j > i then j else i)) S
  | .min2, [.int i, .int j] => .ok (.int (if j < i then j else i)) S
  | .int1, [.int i] => .ok (.int i) S
  | .int1, [.bl b] => .ok (.int (if b then 1 else 0)) S
  | .str1, [.int i] => if i.natAbs < 2 ^ 1900 then .ok (.str (toString i)) S else .bad
  | .list1, [x] => match seqOf S x with
    | some ds => .ok (.loc S.length) (S ++ [.lst ds])
    | none => .bad
  | .tuple1, [x] => match seqOf S x with
    | some ds => .ok (.tup ds) S
    | none => .bad
  | .divmod, [.int i, .int j] => if 0 < j ∧ j.natAbs < 2 ^ 4096 then .ok (.tup [.int (i / j), .int (i % j)]) S else .bad
  | .all1, [x] => match seqOf S x with | some ds => (match allB ds with | some b => .ok (.bl b) S | none => .bad) | none => .bad
  | .sum1, [x] => match seqOf S x with | some ds => (match sumI ds with | some b => .ok (.int b) S | none => .bad) | none => .bad
  | _, _ => .bad
noncomputable def idxEq (S : Store) (x : D) (ds : List D) : Option Nat := if ds.all (fun y => (eqD S 0 y x).isSome) then ds.findIdx? (fun y => eqD S 0 y x == some true) else none
noncomputable def methD (p : Meth) (o : D) (ds : List D) (S : Store) : Res D := match p, o, ds with
  | .append, .loc l, [y] => match S[l]? with
    | some (.lst xs) => if xs.length < Line then .ok .non (S.set l (.lst (xs ++ [y]))) else .bad
    | _ => .bad
  | .pop0, .loc l, [] => match S[l]? with
    | some (.lst xs) => match xs[xs.length - 1]? with
      | some y => .ok y (S.set l (.lst xs.dropLast))
      | none => .bad
    | _ => .bad
  | .reverse, .loc l, [] => match S[l]? with
    | some (.lst xs) => .ok .non (S.set l (.lst xs.reverse))
    | _ => .bad
  | .index, .loc l, [y] => match S[l]? with
    | some (.lst xs) => if xs.length ≤ Line then (match idxEq S y xs with | some j => .ok (.int j) S | none => .bad) else .bad
    | _ => .bad
  | .indexT, .tup xs, [y] => if xs.length ≤ Line then (match idxEq S y xs with | some j => .ok (.int j) S | none => .bad) else .bad
  | .get2, .kd kvs, [.str x, y] => .ok (match kvs.lookup x with | some n => .int n | none => y) S
  | _, _, _ => .bad

inductive M where
  | nul | cns (a b : M)
  | cst (d : D) | var (i : Nat) | glb (x : String)
  | bin (o : Bop) (a b : M) | neg (a : M) | nott (a : M) | bo (w : Bool) (as : M)
  | cmp (o : Cop) (a b : M) | cmp2 (o p : Cop) (a b c : M) | ife (c a b : M)
  | tup (as : M) | lst (as : M) | idx (a b : M) | sli (a lo hi : M)
  | call (f : String) (as : M) | prim (p : Prim) (as : M) | isi (a : M) (t : String) | meth (p : Meth) (o as : M)
  | comp (N : List String) (k : Nat) (keep : List Nat) (tg it cd el : M)
  | rng (a : M) | rng2 (a b : M)
  | tvar (i : Nat) | ttup (ts : M) | tsub (a b : M)
  | asg (t e : M) | ifs (c a b : M) | forr (t i b : M) | whl (c b : M) | ret (e : M) | retN | exp (e : M) | pas | brk | cnt | zipf (t a b c : M)
inductive Fl where
  | nx (τ : En) | rt (d : D) | bk (τ : En) | ct (τ : En)
structure Pr where
  call : String → List D → Store → Res D
  glob : String → Option D
  W : Nat

noncomputable def setS (o i v : D) (S : Store) : Res Unit := match o, i with
  | .loc l, .int k => match S[l]? with
    | some (.lst xs) => match ixN xs.length k with
      | some j => .ok () (S.set l (.lst (xs.set j v)))
      | none => .bad
    | _ => .bad
  | _, _ => .bad
noncomputable def sameAt (S : Store) (g : Option Nat) (n : Nat) : Bool := match g with
  | none => true
  | some l => match S[l]? with
    | some (.lst ds) => ds.length == n
    | _ => false
noncomputable def nth (S : Store) (g : Option Nat) (ds : List D) (i : Nat) : Option D := match g with
  | none => ds[i]?
  | some l => match seqAt S l with
    | some es => es[i]?
    | none => none
noncomputable def forL (turn : D → En → Store → Res Fl) (g : Option Nat) (ds : List D) : Nat → Nat → En → Store → Res Fl
  | 0, i, τ, S => if sameAt S g ds.length then .ok (.nx τ) S else .bad
  | f + 1, i, τ, S => if sameAt S g ds.length then (match nth S g ds i with
      | none => .bad
      | some d => (turn d τ S).bind fun fl S1 => match fl with
        | .nx τ1 => forL turn g ds f (i + 1) τ1 S1
        | .ct τ1 => forL turn g ds f (i + 1) τ1 S1
        | .bk τ1 => .ok (.nx τ1) S1
        | .rt d => .ok (.rt d) S1) else .bad
noncomputable def compL (turn : D → En → Store → Res (Option D)) (g : Option Nat) (ds : List D) : Nat → Nat → En → Store → List D → Res (List D)
  | 0, i, τ, S, acc => if sameAt S g ds.length then .ok acc S else .bad
  | f + 1, i, τ, S, acc => if sameAt S g ds.length then (match nth S g ds i with
      | none => .bad
      | some d => (turn d τ S).bind fun o S1 => match o with
        | some y => if acc.length < Line then compL turn g ds f (i + 1) τ S1 (acc ++ [y]) else .bad
        | none => compL turn g ds f (i + 1) τ S1 acc) else .bad
noncomputable def whlL (test : En → Store → Res Bool) (body : En → Store → Res Fl) : Nat → En → Store → Res Fl
  | 0, _, _ => .bad
  | n + 1, τ, S => (test τ S).bind fun b S1 => if b then (body τ S1).bind fun fl S2 => match fl with
      | .nx τ1 => whlL test body n τ1 S2
      | .ct τ1 => whlL test body n τ1 S2
      | .bk τ1 => .ok (.nx τ1) S2
      | .rt d => .ok (.rt d) S2 else .ok (.nx τ) S1
noncomputable def zipL (turn : D → En → Store → Res Fl) (l k : Nat) : Nat → Nat → En → Store → Res Fl
  | 0, i, τ, S => match seqAt S l, seqAt S k with
    | some xs, some ys => if xs.length ≤ i ∨ ys.length ≤ i then .ok (.nx τ) S else .bad
    | _, _ => .bad
  | f + 1, i, τ, S => match seqAt S l, seqAt S k with
    | some xs, some ys => (match xs[i]?, ys[i]? with
      | some x, some y => (turn (.tup [x, y]) τ S).bind fun fl S1 => match fl with
        | .nx τ1 => zipL turn l k f (i + 1) τ1 S1
        | .ct τ1 => zipL turn l k f (i + 1) τ1 S1
        | .bk τ1 => .ok (.nx τ1) S1
        | .rt d => .ok (.rt d) S1
      | _, _ => .bad)
    | _, _ => .bad
noncomputable def inEn (k : Nat) (keep : List Nat) (τ : En) : En := List.replicate k none ++ keep.map fun i => (τ[i]?).join
mutual
noncomputable def evE (C : Pr) : M → En → Store → Res D
  | .cst d, _, S => .ok d S
  | .var i, τ, S => match τ[i]? with | some (some d) => .ok d S | _ => .bad
  | .glb x, _, S => match C.glob x with | some d => .ok d S | none => .bad
  | .bin o a b, τ, S => (evE C a τ S).bind fun x S1 => (evE C b τ S1).bind fun y S2 => bop o x y S2
  | .neg a, τ, S => (evE C a τ S).bind fun x S1 => match x with | .int i => .ok (.int (-i)) S1 | _ => .bad
  | .nott a, τ, S => (evE C a τ S).bind fun x S1 => match tru S1 x with | some b => .ok (.bl (!b)) S1 | none => .bad
  | .bo w as, τ, S => evBV C w as τ S
  | .cmp o a b, τ, S => (evE C a τ S).bind fun x S1 => (evE C b τ S1).bind fun y S2 => match cop o x y S2 with | some k => .ok (.bl k) S2 | none => .bad
  | .cmp2 o p a b c, τ, S => (evE C a τ S).bind fun x S1 => (evE C b τ S1).bind fun y S2 => match cop o x y S2 with
    | some true => (evE C c τ S2).bind fun z S3 => (match cop p y z S3 with | some k => .ok (.bl k) S3 | none => .bad)
    | some false => .ok (.bl false) S2
    | none => .bad
  | .ife c a b, τ, S => (evT C c τ S).bind fun k S1 => if k then evE C a τ S1 else evE C b τ S1
  | .tup as, τ, S => (evA C as τ S).bind fun ds S1 => if ds.length ≤ Line then .ok (.tup ds) S1 else .bad
  | .lst as, τ, S => (evA C as τ S).bind fun ds S1 => if ds.length ≤ Line then .ok (.loc S1.length) (S1 ++ [.lst ds]) else .bad
  | .idx a b, τ, S => (evE C a τ S).bind fun x S1 => (evE C b τ S1).bind fun y S2 => match idxD x y S2 with | some d => .ok d S2 | none => .bad
  | .sli a lo hi, τ, S => (evE C a τ S).bind fun x S1 => (evO C lo τ S1).bind fun l S2 => (evO C hi τ S2).bind fun h S3 => sliD x l h S3
  | .call f as, τ, S => (evA C as τ S).bind fun ds S1 => C.call f ds S1
  | .prim p as, τ, S => (evA C as τ S).bind fun ds S1 => primD p ds S1
  | .isi a t, τ, S => (evE C a τ S).bind fun x S1 => match tyD S1 x with | some y => .ok (.bl (isiD y t)) S1 | none => .bad
  | .meth p o as, τ, S => (evE C o τ S).bind fun x S1 => (evA C as τ S1).bind fun ds S2 => methD p x ds S2
  | .comp N k keep tg it cd el, τ, S => (evI C it τ S).bind fun w S1 =>
      (compL (fun d τ1 S2 => (evG C tg d τ1 S2).bind fun τ2 S3 => (evC C cd τ2 S3).bind fun b S4 => if b then (evE C el τ2 S4).bind fun y S5 => .ok (some y) S5 else .ok none S4) w.1 w.2 w.2.length 0 (inEn k keep τ) S1 []).bind
        fun ys S6 => .ok (.loc S6.length) (S6 ++ [.lst ys])
  | _, _, _ => .bad
noncomputable def evT (C : Pr) : M → En → Store → Res Bool
  | .nott a, τ, S => (evT C a τ S).bind fun b S1 => .ok (!b) S1
  | .bo w as, τ, S => evBT C w as τ S
  | .cmp o a b, τ, S => (evE C a τ S).bind fun x S1 => (evE C b τ S1).bind fun y S2 => match cop o x y S2 with | some k => .ok k S2 | none => .bad
  | .cmp2 o p a b c, τ, S => (evE C a τ S).bind fun x S1 => (evE C b τ S1).bind fun y S2 => match cop o x y S2 with
    | some true => (evE C c τ S2).bind fun z S3 => (match cop p y z S3 with | some k => .ok k S3 | none => .bad)
    | some false => .ok false S2
    | none => .bad
  | .var i, τ, S => match τ[i]? with | some (some d) => (match tru S d with | some b => .ok b S | none => .bad) | _ => .bad
  | .idx a b, τ, S => (evE C a τ S).bind fun x S1 => (evE C b τ S1).bind fun y S2 => match idxD x y S2 with | some d => (match tru S2 d with | some b => .ok b S2 | none => .bad) | none => .bad
  | .call f as, τ, S => (evA C as τ S).bind fun ds S1 => (C.call f ds S1).bind fun d S2 => match tru S2 d with | some b => .ok b S2 | none => .bad
  | .prim p as, τ, S => (evA C as τ S).bind fun ds S1 => (primD p ds S1).bind fun d S2 => match tru S2 d with | some b => .ok b S2 | none => .bad
  | .isi a t, τ, S => (evE C a τ S).bind fun x S1 => match tyD S1 x with | some y => .ok (isiD y t) S1 | none => .bad
  | _, _, _ => .bad
noncomputable def evBV (C : Pr) (w : Bool) : M → En → Store → Res D
  | .cns a .nul, τ, S => evE C a τ S
  | .cns a r, τ, S => (evE C a τ S).bind fun x S1 => match x with | .bl c => if c = w then evBV C w r τ S1 else .ok (.bl (!w)) S1 | _ => .bad
  | _, _, _ => .bad
noncomputable def evBT (C : Pr) (w : Bool) : M → En → Store → Res Bool
  | .cns a .nul, τ, S => evT C a τ S
  | .cns a r, τ, S => (evT C a τ S).bind fun c S1 => if c = w then evBT C w r τ S1 else .ok (!w) S1
  | _, _, _ => .bad
noncomputable def evC (C : Pr) : M → En → Store → Res Bool
  | .nul, _, S => .ok true S
  | .cns c .nul, τ, S => evT C c τ S
  | _, _, _ => .bad
noncomputable def evA (C : Pr) : M → En → Store → Res (List D)
  | .nul, _, S => .ok [] S
  | .cns a b, τ, S => (evE C a τ S).bind fun x S1 => (evA C b τ S1).bind fun xs S2 => .ok (x :: xs) S2
  | _, _, _ => .bad
noncomputable def evO (C : Pr) : M → En → Store → Res (Option Int)
  | .nul, _, S => .ok none S
  | .cns a .nul, τ, S => (evE C a τ S).bind fun x S1 => match x with | .int i => .ok (some i) S1 | _ => .bad
  | _, _, _ => .bad
noncomputable def evI (C : Pr) : M → En → Store → Res (Option Nat × List D)
  | .rng a, τ, S => (evE C a τ S).bind fun x S1 => match x with
    | .int j => if decide (-(2 ^ 62) ≤ j) && decide (j < 2 ^ 62) then .ok (none, (List.range j.toNat).map fun (i : Nat) => .int i) S1 else .bad
    | _ => .bad
  | .rng2 a b, τ, S => (evE C a τ S).bind fun x S1 => (evE C b τ S1).bind fun y S2 => match x, y with
    | .int i, .int j => if decide (-(2 ^ 62) ≤ i) && decide (i < 2 ^ 62) && decide (-(2 ^ 62) ≤ j) && decide (j < 2 ^ 62) then .ok (none, (List.range (j - i).toNat).map fun (n : Nat) => .int (i + n)) S2 else .bad
    | _, _ => .bad
  | .cns a .nul, τ, S => (evE C a τ S).bind fun x S1 => match x with
    | .tup ds => .ok (none, ds) S1
    | .kl ds => .ok (none, ds) S1
    | .loc l => (match seqAt S1 l with | some ds => .ok (some l, ds) S1 | none => .bad)
    | _ => .bad
  | _, _, _ => .bad
noncomputable def evG (C : Pr) : M → D → En → Store → Res En
  | .tvar i, d, τ, S => if i < τ.length then .ok (τ.set i (some d)) S else .bad
  | .ttup ts, d, τ, S => match d with | .tup ds => evGs C ts ds τ S | _ => .bad
  | .tsub a b, d, τ, S => (evE C a τ S).bind fun o S1 => (evE C b τ S1).bind fun i S2 => (setS o i d S2).bind fun _ S3 => .ok τ S3
  | _, _, _, _ => .bad
noncomputable def evGs (C : Pr) : M → List D → En → Store → Res En
  | .nul, ds, τ, S => match ds with | [] => .ok τ S | _ => .bad
  | .cns t ts, ds, τ, S => match ds with | d :: r => (evG C t d τ S).bind fun τ1 S1 => evGs C ts r τ1 S1 | [] => .bad
  | _, _, _, _ => .bad
noncomputable def evS (C : Pr) : M → En → Store → Res Fl
  | .asg t e, τ, S => (evE C e τ S).bind fun d S1 => (evG C t d τ S1).bind fun τ1 S2 => .ok (.nx τ1) S2
  | .ifs c a b, τ, S => (evT C c τ S).bind fun k S1 => if k then evB C a τ S1 else evB C b τ S1
  | .forr t i b, τ, S => (evI C i τ S).bind fun w S1 => forL (fun d τ1 S2 => (evG C t d τ1 S2).bind fun τ2 S3 => evB C b τ2 S3) w.1 w.2 w.2.length 0 τ S1
  | .whl c b, τ, S => whlL (evT C c) (evB C b) C.W τ S
  | .zipf t a b c, τ, S => (evE C a τ S).bind fun x S1 => (evE C b τ S1).bind fun y S2 => match x, y with
    | .loc l, .loc k => (match seqAt S2 l, seqAt S2 k with
      | some xs, some ys => zipL (fun d τ1 S3 => (evG C t d τ1 S3).bind fun τ2 S4 => evB C c τ2 S4) l k (min xs.length ys.length) 0 τ S2
      | _, _ => .bad)
    | _, _ => .bad
  | .ret e, τ, S => (evE C e τ S).bind fun d S1 => .ok (.rt d) S1
  | .retN, _, S => .ok (.rt .non) S
  | .exp e, τ, S => (evE C e τ S).bind fun _ S1 => .ok (.nx τ) S1
  | .pas, τ, S => .ok (.nx τ) S
  | .brk, τ, S => .ok (.bk τ) S
  | .cnt, τ, S => .ok (.ct τ) S
  | _, _, _ => .bad
noncomputable def evB (C : Pr) : M → En → Store → Res Fl
  | .nul, τ, S => .ok (.nx τ) S
  | .cns s r, τ, S => (evS C s τ S).bind fun fl S1 => match fl with
    | .nx τ1 => evB C r τ1 S1
    | .rt d => .ok (.rt d) S1
    | .bk τ1 => .ok (.bk τ1) S1
    | .ct τ1 => .ok (.ct τ1) S1
  | _, _, _ => .bad
end
structure Fn where
  ps : List String
  N : List String
  body : M
noncomputable abbrev Tb := String → Option Fn
noncomputable def callN (T : Tb) (G : String → Option D) (W : Nat) : Nat → String → List D → Store → Res D
  | 0, _, _, _ => .bad
  | n + 1, f, ds, S => match T f with
    | none => .bad
    | some F => if ds.length = F.ps.length then (evB ⟨callN T G W n, G, W⟩ F.body (ds.map some ++ List.replicate (F.N.length - ds.length) none) S).bind fun fl S1 => match fl with
        | .rt d => .ok d S1
        | .nx _ => .ok .non S1
        | _ => .bad
      else .bad
end Mi

namespace Mi
open PySem L2

noncomputable def KDict (K : PySem.W.Frag) (a : Addr) (kvs : List (Str × Int)) : Prop := PyProof.Rows.KTD.tabLook (PyProof.Rows.KTD.datLooks fun b => K.lookup b) (fun b => K.lookup b) a (kvs.map fun p => (p.1, PyProof.Rows.KTD.Dat.flat (.int p.2))) = true
noncomputable def SqF (K : PySem.W.Frag) (H : Hp) (a : Addr) (xs : List V) : Prop :=
  (∃ o, H a = some (.frz o (.lst xs))) ∨
    ∃ (o : PySem.Obj) (its : Array Value) (n : Nat), K.lookup a = some o ∧ o.cls = .type "list" ∧ o.dict = none ∧ o.data = .seq its n ∧ its.size ≤ sizeLine ∧ Vals xs its.toList
theorem SqF.sq {K : PySem.W.Frag} {H : Hp} {a : Addr} {xs : List V} (h : SqF K H a xs) : SqL K H a xs := h.elim (fun z => .inl (.inr z)) .inr
mutual
noncomputable def RelD (K : PySem.W.Frag) (ρ : List Addr) (H : Hp) : D → V → Prop
  | .non, v => v = .non
  | .bl b, v => v = .bl b
  | .int i, v => v = .int i
  | .str x, v => v = .str x
  | .tup ds, v => ∃ a xs, v = .ref a ∧ SqT K H a xs ∧ RelDs K ρ H ds xs
  | .loc l, v => ∃ a, v = .ref a ∧ ρ[l]? = some a
  | .kl ds, v => ∃ a xs, v = .ref a ∧ SqF K H a xs ∧ RelDs K ρ H ds xs
  | .kd kvs, v => ∃ a, v = .ref a ∧ KDict K a kvs
noncomputable def RelDs (K : PySem.W.Frag) (ρ : List Addr) (H : Hp) : List D → List V → Prop
  | [], xs => xs = []
  | d :: ds, xs => ∃ v vs, xs = v :: vs ∧ RelD K ρ H d v ∧ RelDs K ρ H ds vs
end
noncomputable def RelO (K : PySem.W.Frag) (ρ : List Addr) (H : Hp) (a : Addr) : Obj → Prop
  | .lst ds => ∃ xs, H a = some (.lst xs) ∧ RelDs K ρ H ds xs
  | .dct _ => False
  | .ins _ _ => False
structure RelS (K : PySem.W.Frag) (ρ : List Addr) (S : Store) (H : Hp) : Prop where
  len : ρ.length = S.length
  nd : ρ.Nodup
  ob : ∀ (l : Nat) (a : Addr) (o : Obj), ρ[l]? = some a → S[l]? = some o → RelO K ρ H a o
structure Fut (K : PySem.W.Frag) (ρ : List Addr) (H : Hp) (ρ' : List Addr) (H' : Hp) : Prop where
  pre : ∃ t, ρ' = ρ ++ t
  tup : ∀ a xs, SqT K H a xs → SqT K H' a xs
  frz : ∀ a o u, H a = some (.frz o u) → H' a = some (.frz o u)
variable {K : PySem.W.Frag} {ρ ρ' ρ1 : List Addr} {H H' H1 : Hp} {S S' : Store}
theorem Fut.refl : Fut K ρ H ρ H := ⟨⟨[], by simp⟩, fun _ _ h => h, fun _ _ _ h => h⟩
theorem Fut.trans (a : Fut K ρ H ρ1 H1) (b : Fut K ρ1 H1 ρ' H') : Fut K ρ H ρ' H' := by
  obtain ⟨t, rfl⟩ := a.pre
  obtain ⟨u, e⟩ := b.pre
  exact ⟨⟨t ++ u, by rw [e, List.append_assoc]⟩, fun _ _ h => b.tup _ _ (a.tup _ _ h), fun _ _ _ h => b.frz _ _ _ (a.frz _ _ _ h)⟩
theorem Fut.sqF {a : Addr} {xs : List V} (f : Fut K ρ H ρ' H') (h : SqF K H a xs) : SqF K H' a xs := h.elim (fun ⟨o, z⟩ => .inl ⟨o, f.frz _ _ _ z⟩) .inr
theorem Fut.get (f : Fut K ρ H ρ' H') {l : Nat} {a : Addr} (h : ρ[l]? = some a) : ρ'[l]? = some a := by
  obtain ⟨t, rfl⟩ := f.pre
  rw [List.getElem?_append_left (List.getElem?_eq_some_iff.mp h).1]
  exact h
mutual
theorem RelD.fut (f : Fut K ρ H ρ' H') : ∀ {d : D} {v : V}, RelD K ρ H d v → RelD K ρ' H' d v
  | .non, v, h => by simpa only [RelD] using h
  | .bl b, v, h => by simpa only [RelD] using h
  | .int i, v, h => by simpa only [RelD] using h
  | .str x, v, h => by simpa only [RelD] using h
  | .tup ds, v, h => by
    simp only [RelD] at h ⊢
    obtain ⟨a, xs, e, q, r⟩ := h
    exact ⟨a, xs, e, f.tup _ _ q, RelDs.fut f r⟩
  | .loc l, v, h => by
    simp only [RelD] at h ⊢
    obtain ⟨a, e, q⟩ := h
    exact ⟨a, e, f.get q⟩
  | .kl ds, v, h => by
    simp only [RelD] at h ⊢
    obtain ⟨a, xs, e, q, r⟩ := h
    exact ⟨a, xs, e, f.sqF q, RelDs.fut f r⟩
  | .kd kvs, v, h => by simpa only [RelD] using h
theorem RelDs.fut (f : Fut K ρ H ρ' H') : ∀ {ds : List D} {vs : List V}, RelDs K ρ H ds vs → RelDs K ρ' H' ds vs
  | [], vs, h => by simpa only [RelDs] using h
  | d :: ds, vs, h => by
    simp only [RelDs] at h ⊢
    obtain ⟨v, r, e, q, t⟩ := h
    exact ⟨v, r, e, RelD.fut f q, RelDs.fut f t⟩
end
theorem RelDs.cons {d : D} {ds : List D} {v : V} {vs : List V} (a : RelD K ρ H d v) (b : RelDs K ρ H ds vs) : RelDs K ρ H (d :: ds) (v :: vs) := by
  simp only [RelDs]
  exact ⟨v, vs, rfl, a, b⟩
theorem RelDs.nil : RelDs K ρ H [] [] := by simp only [RelDs]
theorem RelDs.inv_cons {d : D} {ds : List D} {xs : List V} (h : RelDs K ρ H (d :: ds) xs) : ∃ v vs, xs = v :: vs ∧ RelD K ρ H d v ∧ RelDs K ρ H ds vs := by
  simpa only [RelDs] using h
theorem RelDs.inv_nil {xs : List V} (h : RelDs K ρ H [] xs) : xs = [] := by simpa only [RelDs] using h
theorem RelDs.length : ∀ {ds : List D} {vs : List V}, RelDs K ρ H ds vs → ds.length = vs.length
  | [], vs, h => by rw [h.inv_nil]; rfl
  | d :: ds, vs, h => by
    obtain ⟨v, r, rfl, _, t⟩ := h.inv_cons
    rw [List.length_cons, List.length_cons, t.length]
theorem RelDs.get : ∀ {ds : List D} {vs : List V} {i : Nat} {d : D}, RelDs K ρ H ds vs → ds[i]? = some d → ∃ v, vs[i]? = some v ∧ RelD K ρ H d v
  | [], vs, i, d, h, e => by simp at e
  | d :: ds, vs, 0, x, h, e => by
    obtain ⟨v, r, rfl, q, t⟩ := h.inv_cons
    simp at e
    subst e
    exact ⟨v, rfl, q⟩
  | d :: ds, vs, i + 1, x, h, e => by
    obtain ⟨v, r, rfl, q, t⟩ := h.inv_cons
    exact RelDs.get (i := i) t (by simpa using e)
theorem RelDs.append : ∀ {ds es : List D} {vs ws : List V}, RelDs K ρ H ds vs → RelDs K ρ H es ws → RelDs K ρ H (ds ++ es) (vs ++ ws)
  | [], es, vs, ws, h, g => by rw [h.inv_nil]; exact g
  | d :: ds, es, vs, ws, h, g => by
    obtain ⟨v, r, rfl, q, t⟩ := h.inv_cons
    exact RelDs.cons q (t.append g)
theorem RelDs.take : ∀ {ds : List D} {vs : List V} (n : Nat), RelDs K ρ H ds vs → RelDs K ρ H (ds.take n) (vs.take n)
  | ds, vs, 0, h => by simp [RelDs.nil]
  | [], vs, n + 1, h => by rw [h.inv_nil]; simp [RelDs.nil]
  | d :: ds, vs, n + 1, h => by
    obtain ⟨v, r, rfl, q, t⟩ := h.inv_cons
    exact RelDs.cons q (t.take n)
theorem RelDs.drop : ∀ {ds : List D} {vs : List V} (n : Nat), RelDs K ρ H ds vs → RelDs K ρ H (ds.drop n) (vs.drop n)
  | ds, vs, 0, h => h
  | [], vs, n + 1, h => by rw [h.inv_nil]; simp [RelDs.nil]
  | d :: ds, vs, n + 1, h => by
    obtain ⟨v, r, rfl, q, t⟩ := h.inv_cons
    exact t.drop n
theorem RelDs.set {d : D} {v : V} (a : RelD K ρ H d v) : ∀ {ds : List D} {vs : List V} (i : Nat), RelDs K ρ H ds vs → RelDs K ρ H (ds.set i d) (vs.set i v)
  | [], vs, i, h => by rw [h.inv_nil]; simp [RelDs.nil]
  | x :: ds, vs, 0, h => by
    obtain ⟨w, r, rfl, q, t⟩ := h.inv_cons
    exact RelDs.cons a t
  | x :: ds, vs, i + 1, h => by
    obtain ⟨w, r, rfl, q, t⟩ := h.inv_cons
    exact RelDs.cons q (RelDs.set a i t)
theorem RelDs.reverse : ∀ {ds : List D} {vs : List V}, RelDs K ρ H ds vs → RelDs K ρ H ds.reverse vs.reverse
  | [], vs, h => by rw [h.inv_nil]; simp [RelDs.nil]
  | d :: ds, vs, h => by
    obtain ⟨v, r, rfl, q, t⟩ := h.inv_cons
    rw [List.reverse_cons, List.reverse_cons]
    exact t.reverse.append (RelDs.cons q RelDs.nil)
theorem RelDs.rep {ds : List D} {vs : List V} (h : RelDs K ρ H ds vs) : ∀ n : Nat, RelDs K ρ H (List.replicate n ds).flatten (List.replicate n vs).flatten
  | 0 => by simp [RelDs.nil]
  | n + 1 => by
    rw [List.replicate_succ, List.replicate_succ, List.flatten_cons, List.flatten_cons]
    exact h.append (RelDs.rep h n)
theorem RelDs.dropLast {ds : List D} {vs : List V} (h : RelDs K ρ H ds vs) : RelDs K ρ H ds.dropLast vs.dropLast := by
  rw [List.dropLast_eq_take, List.dropLast_eq_take, h.length]
  exact h.take _
theorem atI_rel {ds : List D} {vs : List V} {i : Int} {d : D} (h : RelDs K ρ H ds vs) (e : atI ds i = some d) : ∃ v, atI vs i = some v ∧ RelD K ρ H d v := by
  unfold atI at e ⊢
  rw [← h.length]
  cases q : ixN ds.length i with
  | none => rw [q] at e; cases e
  | some j =>
    rw [q] at e
    exact h.get e
theorem RelO.fut {a : Addr} {o : Obj} (f : Fut K ρ H ρ' H') (hk : H' a = H a) (h : RelO K ρ H a o) : RelO K ρ' H' a o := by
  cases o with
  | lst ds => obtain ⟨xs, e, r⟩ := h; exact ⟨xs, hk.trans e, r.fut f⟩
  | dct kvs => exact h
  | ins c fs => exact h
theorem RelO.some {a : Addr} {o : Obj} (h : RelO K ρ H a o) : H a ≠ none := by
  cases o with
  | lst ds => obtain ⟨xs, e, r⟩ := h; rw [e]; simp
  | dct kvs => exact h.elim
  | ins c fs => exact h.elim
theorem RelS.at (r : RelS K ρ S H) {l : Nat} {a : Addr} (h : ρ[l]? = some a) : ∃ o, S[l]? = some o ∧ RelO K ρ H a o := by
  have hl : l < S.length := by rw [← r.len]; exact (List.getElem?_eq_some_iff.mp h).1
  exact ⟨S[l], List.getElem?_eq_getElem hl, r.ob l a _ h (List.getElem?_eq_getElem hl)⟩
theorem RelS.adr (r : RelS K ρ S H) {l : Nat} {o : Obj} (h : S[l]? = some o) : ∃ a, ρ[l]? = some a ∧ RelO K ρ H a o := by
  have hl : l < ρ.length := by rw [r.len]; exact (List.getElem?_eq_some_iff.mp h).1
  exact ⟨ρ[l], List.getElem?_eq_getElem hl, r.ob l _ o (List.getElem?_eq_getElem hl) h⟩
theorem fut_new {p : Addr} {o : HO} (n : H p = none) (t : List Addr) : Fut K ρ H (ρ ++ t) (upd H p o) := by
  refine ⟨⟨t, rfl⟩, fun a xs h => ?_, fun a o u h => by rw [upd_ne (ne_of_none h n)]; exact h⟩
  rcases h with (h | ⟨o, h⟩) | h
  · exact .inl (.inl (by rw [upd_ne (ne_of_none h n)]; exact h))
  · exact .inl (.inr ⟨o, by rw [upd_ne (ne_of_none h n)]; exact h⟩)
  · exact .inr h
theorem fut_new0 {p : Addr} {o : HO} (n : H p = none) : Fut K ρ H ρ (upd H p o) := by
  have q := fut_new (K := K) (ρ := ρ) (o := o) n []
  rwa [List.append_nil] at q
theorem RelS.new (r : RelS K ρ S H) {p : Addr} {o : HO} (n : H p = none) : RelS K ρ S (upd H p o) :=
  ⟨r.len, r.nd, fun l a u h1 h2 => by
    have q := r.ob l a u h1 h2
    exact q.fut (fut_new0 n) (upd_ne fun z => q.some (z ▸ n))⟩
theorem RelS.alloc (r : RelS K ρ S H) {p : Addr} {xs : List V} {ds : List D} (n : H p = none) (h : RelDs K ρ H ds xs) : RelS K (ρ ++ [p]) (S ++ [.lst ds]) (upd H p (.lst xs)) := by
  have hp : p ∉ ρ := fun z => by
    obtain ⟨l, hl⟩ := List.getElem?_of_mem z
    obtain ⟨o, _, q⟩ := r.at hl
    exact q.some n
  refine ⟨by rw [List.length_append, List.length_append, r.len]; rfl, ?_, fun l a o h1 h2 => ?_⟩
  · rw [List.nodup_append]
    exact ⟨r.nd, by simp, fun a ha b hb => by rw [List.mem_singleton.mp hb]; exact fun e => hp (e ▸ ha)⟩
  · by_cases hl : l < ρ.length
    · rw [List.getElem?_append_left hl] at h1
      rw [List.getElem?_append_left (by rw [← r.len]; exact hl)] at h2
      have q := r.ob l a o h1 h2
      exact q.fut (fut_new n [p]) (upd_ne fun z => q.some (z ▸ n))
    · have e : l = ρ.length := by
        have := (List.getElem?_eq_some_iff.mp h1).1
        rw [List.length_append, List.length_singleton] at this
        omega
      subst e
      rw [List.getElem?_append_right (Nat.le_refl _), Nat.sub_self] at h1
      rw [List.getElem?_append_right (by rw [r.len]; exact Nat.le_refl _), r.len, Nat.sub_self] at h2
      simp at h1 h2
      subst h1 h2
      exact ⟨xs, upd_same, h.fut (fut_new n [_])⟩
theorem nodup_get {ρ : List Addr} (hN : ρ.Nodup) {i j : Nat} {x : Addr} (a : ρ[i]? = some x) (b : ρ[j]? = some x) : i = j := by
  obtain ⟨h1, e1⟩ := List.getElem?_eq_some_iff.mp a
  obtain ⟨h2, e2⟩ := List.getElem?_eq_some_iff.mp b
  rcases Nat.lt_trichotomy i j with h | h | h
  · exact absurd (e1.trans e2.symm) (List.pairwise_iff_getElem.mp hN i j h1 h2 h)
  · exact h
  · exact absurd (e2.trans e1.symm) (List.pairwise_iff_getElem.mp hN j i h2 h1 h)
theorem fut_set {p : Addr} {xs : List V} {o : HO} (h : H p = some (.lst xs)) : Fut K ρ H ρ (upd H p o) := by
  refine ⟨⟨[], by simp⟩, fun a ys q => ?_, fun a o u q => by rw [upd_ne (ne_of q h (by intro z; cases z))]; exact q⟩
  rcases q with (q | ⟨o, q⟩) | q
  · exact .inl (.inl (by rw [upd_ne (ne_of q h (by intro z; cases z))]; exact q))
  · exact .inl (.inr ⟨o, by rw [upd_ne (ne_of q h (by intro z; cases z))]; exact q⟩)
  · exact .inr q
theorem RelS.set (r : RelS K ρ S H) {l : Nat} {p : Addr} {xs ys : List V} {ds : List D} (hl : ρ[l]? = some p) (h : H p = some (.lst xs)) (hd : RelDs K ρ H ds ys) : RelS K ρ (S.set l (.lst ds)) (upd H p (.lst ys)) := by
  refine ⟨by rw [List.length_set]; exact r.len, r.nd, fun k a o h1 h2 => ?_⟩
  by_cases e : l = k
  · subst e
    rw [hl] at h1
    cases h1
    have lt : l < S.length := by rw [← r.len]; exact (List.getElem?_eq_some_iff.mp hl).1
    rw [List.getElem?_set_self lt] at h2
    cases h2
    exact ⟨ys, upd_same, hd.fut (fut_set h)⟩
  · rw [List.getElem?_set_ne e] at h2
    have ne : a ≠ p := fun z => by
      subst z
      exact e (nodup_get r.nd hl h1)
    exact (r.ob k a o h1 h2).fut (fut_set h) (upd_ne ne)
structure RelE (K : PySem.W.Frag) (ρ : List Addr) (H : Hp) (τ : En) (σ : St) : Prop where
  len : τ.length = σ.length
  at' : ∀ (i : Nat) (d : D), τ[i]? = some (some d) → ∃ v, σ[i]? = some (some v) ∧ RelD K ρ H d v
theorem RelE.fut {τ : En} {σ : St} (f : Fut K ρ H ρ' H') (r : RelE K ρ H τ σ) : RelE K ρ' H' τ σ :=
  ⟨r.len, fun i d h => let ⟨v, e, q⟩ := r.at' i d h; ⟨v, e, q.fut f⟩⟩
theorem RelE.set {τ : En} {σ : St} {d : D} {v : V} (r : RelE K ρ H τ σ) (q : RelD K ρ H d v) (i : Nat) : RelE K ρ H (τ.set i (some d)) (σ.set i (some v)) := by
  refine ⟨by rw [List.length_set, List.length_set]; exact r.len, fun j e h => ?_⟩
  by_cases z : i = j
  · subst z
    by_cases hl : i < τ.length
    · rw [List.getElem?_set_self hl] at h
      cases h
      exact ⟨v, List.getElem?_set_self (by rw [← r.len]; exact hl), q⟩
    · rw [List.getElem?_eq_none (by rw [List.length_set]; omega)] at h
      cases h
  · rw [List.getElem?_set_ne z] at h
    rw [List.getElem?_set_ne z]
    exact r.at' j e h
theorem RelE.inner {τ : En} {σ : St} (r : RelE K ρ H τ σ) (k : Nat) (keep : List Nat) : RelE K ρ H (inEn k keep τ) (inSt k keep σ) := by
  unfold inEn inSt
  refine ⟨by simp, fun i d h => ?_⟩
  by_cases hi : i < k
  · rw [List.getElem?_append_left (by simpa using hi), List.getElem?_replicate, if_pos hi] at h
    cases h
  · rw [List.getElem?_append_right (by simpa using hi), List.length_replicate, List.getElem?_map] at h
    rw [List.getElem?_append_right (by simpa using hi), List.length_replicate, List.getElem?_map]
    cases ej : keep[i - k]? with
    | none => rw [ej] at h; cases h
    | some j =>
      rw [ej] at h
      have h' : (τ[j]?).join = some d := Option.some.inj h
      have h' : τ[j]? = some (some d) := by
        cases q : τ[j]? with
        | none => rw [q] at h'; cases h'
        | some y => rw [q] at h'; exact congrArg some h'
      obtain ⟨v, e, q⟩ := r.at' j d h'
      refine ⟨v, ?_, q⟩
      show some ((σ[j]?).join) = some (some v)
      rw [e]
      rfl
noncomputable def Less (τ τ' : En) : Prop := τ'.length = τ.length ∧ ∀ (i : Nat) (d : D), τ'[i]? = some (some d) → τ[i]? = some (some d)
theorem RelE.less {τ τ' : En} {σ : St} (r : RelE K ρ H τ σ) (l : Less τ τ') : RelE K ρ H τ' σ := ⟨l.1.trans r.len, fun i d h => r.at' i d (l.2 i d h)⟩
end Mi

namespace Mi
open PySem L2

noncomputable def opOf : Bop → Operator
  | .add => .Add
  | .sub => .Sub
  | .mul => .Mult
  | .fdiv => .FloorDiv
  | .mod => .Mod
  | .pow => .Pow
noncomputable def copOf : Cop → CmpOp
  | .eq => .Eq
  | .ne => .NotEq
  | .lt => .Lt
  | .le => .LtE
  | .gt => .Gt
  | .ge => .GtE
  | .isc => .Is
  | .isnc => .IsNot
  | .inn => .In
  | .nin => .NotIn
noncomputable def Fin (K : PySem.W.Frag) (ρ : List Addr) (H : Hp) (d : D) (S' : Store) (Q : VK) : Prop :=
  ∀ (ρ' : List Addr) (v : V) (H' : Hp), Fut K ρ H ρ' H' → RelS K ρ' S' H' → RelD K ρ' H' d v → Q v H'
variable {K : PySem.W.Frag} {ρ ρ' : List Addr} {H H' : Hp} {S S' : Store} {d : D} {Q : VK}
theorem Fin.now (f : Fin K ρ H d S Q) (r : RelS K ρ S H) {v : V} (q : RelD K ρ H d v) : Q v H := f ρ v H Fut.refl r q
theorem Fin.newT {ds : List D} {xs : List V} (f : Fin K ρ H (.tup ds) S Q) (r : RelS K ρ S H) (q : RelDs K ρ H ds xs) : ∀ p, H p = none → Q (.ref p) (upd H p (.tup xs)) := fun p n =>
  f ρ _ _ (fut_new0 n) (r.new n) (by simp only [RelD]; exact ⟨p, xs, rfl, SqT.of upd_same, q.fut (fut_new0 n)⟩)
theorem Fin.newL {ds : List D} {xs : List V} (f : Fin K ρ H (.loc S.length) (S ++ [.lst ds]) Q) (r : RelS K ρ S H) (q : RelDs K ρ H ds xs) : ∀ p, H p = none → Q (.ref p) (upd H p (.lst xs)) := fun p n =>
  f (ρ ++ [p]) _ _ (fut_new n [p]) (r.alloc n q) (by simp only [RelD]; exact ⟨p, rfl, by rw [← r.len, List.getElem?_append_right (Nat.le_refl _), Nat.sub_self]; rfl⟩)
theorem RelD.int_inv {i : Int} {v : V} (h : RelD K ρ H (.int i) v) : v = .int i := by simpa only [RelD] using h
theorem RelD.bl_inv {i : Bool} {v : V} (h : RelD K ρ H (.bl i) v) : v = .bl i := by simpa only [RelD] using h
theorem RelD.str_inv {i : Str} {v : V} (h : RelD K ρ H (.str i) v) : v = .str i := by simpa only [RelD] using h
theorem RelD.non_inv {v : V} (h : RelD K ρ H .non v) : v = .non := by simpa only [RelD] using h
theorem RelD.tup_inv {ds : List D} {v : V} (h : RelD K ρ H (.tup ds) v) : ∃ a xs, v = .ref a ∧ SqT K H a xs ∧ RelDs K ρ H ds xs := by simpa only [RelD] using h
theorem RelD.kl_inv {ds : List D} {v : V} (h : RelD K ρ H (.kl ds) v) : ∃ a xs, v = .ref a ∧ SqF K H a xs ∧ RelDs K ρ H ds xs := by simpa only [RelD] using h
theorem RelD.loc_inv {l : Nat} {v : V} (h : RelD K ρ H (.loc l) v) : ∃ a, v = .ref a ∧ ρ[l]? = some a := by simpa only [RelD] using h
theorem RelD.int (i : Int) : RelD K ρ H (.int i) (.int i) := by simp only [RelD]
theorem RelD.bl (i : Bool) : RelD K ρ H (.bl i) (.bl i) := by simp only [RelD]
theorem RelD.str (i : Str) : RelD K ρ H (.str i) (.str i) := by simp only [RelD]
theorem RelD.non : RelD K ρ H .non .non := by simp only [RelD]
theorem RelD.kd_inv {kvs : List (Str × Int)} {v : V} (h : RelD K ρ H (.kd kvs) v) : ∃ a, v = .ref a ∧ KDict K a kvs := by simpa only [RelD] using h
open PyProof.Rows in
theorem rows_inj : ∀ {es : List DictEntry} {h : Heap} {a b : List (Str × Int)}, KTD.Rows (KTD.Dat.At h) es (a.map fun p => (p.1, KTD.Dat.flat (.int p.2))) → KTD.Rows (KTD.Dat.At h) es (b.map fun p => (p.1, KTD.Dat.flat (.int p.2))) → a = b
  | [], h, a, b, h1, h2 => by
    cases a with
    | cons p a => cases h1
    | nil =>
      cases b with
      | cons p b => cases h2
      | nil => rfl
  | e :: es, h, a, b, h1, h2 => by
    cases a with
    | nil => cases h1
    | cons p a =>
      cases b with
      | nil => cases h2
      | cons q b =>
        obtain ⟨x, n⟩ := p
        obtain ⟨y, m⟩ := q
        cases h1 with
        | cons k1 v1 r1 =>
          cases h2 with
          | cons k2 v2 r2 =>
            rw [k1] at k2
            cases k2
            obtain ⟨t1, e1⟩ := PyProof.V.Flat.int_inv v1
            obtain ⟨t2, e2⟩ := PyProof.V.Flat.int_inv v2
            rw [e1] at e2
            cases e2
            rw [rows_inj r1 r2]
open PyProof.Rows in
theorem KDict.text {h : Heap} {a : Addr} {kvs : List (Str × Int)} (d : KDict K a kvs) (KX : K.In h) : KTD.TextTab h a (kvs.map fun p => (p.1, KTD.Dat.flat (.int p.2))) := PySem.W.kt_text_in KX d
theorem KDict.inj {h : Heap} {a : Addr} {kvs kvs' : List (Str × Int)} (d : KDict K a kvs) (d' : KDict K a kvs') (KX : K.In h) : kvs = kvs' := by
  obtain ⟨_, o, es, ep, ho, _, hd, hr⟩ := d.text KX
  obtain ⟨_, o', es', ep', ho', _, hd', hr'⟩ := d'.text KX
  rw [ho] at ho'
  cases ho'
  rw [hd] at hd'
  cases hd'
  exact rows_inj hr hr'
theorem KDict.obj {h : Heap} {a : Addr} {kvs : List (Str × Int)} (d : KDict K a kvs) (KX : K.In h) : ∃ o, h.get? a = some o ∧ o.ExactDict := by
  obtain ⟨_, o, es, ep, ho, hx, _⟩ := d.text KX
  exact ⟨o, ho, hx⟩
theorem RelS.lst (r : RelS K ρ S H) {l : Nat} {v : V} {ds : List D} (h : RelD K ρ H (.loc l) v) (e : S[l]? = some (.lst ds)) : ∃ a xs, v = .ref a ∧ ρ[l]? = some a ∧ H a = some (.lst xs) ∧ RelDs K ρ H ds xs := by
  obtain ⟨a, rfl, ha⟩ := h.loc_inv
  obtain ⟨xs, hx, q⟩ := r.ob l a _ ha e
  exact ⟨a, xs, rfl, ha, hx, q⟩
theorem seqAt_lst {l : Nat} {ds : List D} (e : seqAt S l = some ds) : S[l]? = some (.lst ds) := by
  unfold seqAt at e
  split at e
  · cases e; assumption
  · cases e
theorem RelS.seq (r : RelS K ρ S H) {x : D} {v : V} {ds : List D} (h : RelD K ρ H x v) (e : seqOf S x = some ds) : ∃ a xs, v = .ref a ∧ (SqL K H a xs ∨ SqT K H a xs) ∧ RelDs K ρ H ds xs := by
  unfold seqOf at e
  split at e
  · cases e
    obtain ⟨a, xs, rfl, q, t⟩ := h.tup_inv
    exact ⟨a, xs, rfl, .inr q, t⟩
  · obtain ⟨a, xs, rfl, _, q, t⟩ := r.lst h (seqAt_lst e)
    exact ⟨a, xs, rfl, .inl (SqL.of q), t⟩
  · cases e
    obtain ⟨a, xs, rfl, q, t⟩ := h.kl_inv
    exact ⟨a, xs, rfl, .inl q.sq, t⟩
  · cases e
theorem line_eq : Line = sizeLine := by rw [sizeLine_eq]; rfl

section
open PySem.Spec PyProof.Rows PyProof
theorem noFill_tuple_mul : fillsNumberSlot (.type "tuple") "mul" = pure false :=
  PySem.fillsNumberSlot_seq (id := "tuple.__mul__") (r := some (.builtin "tuple.__rmul__")) F.slot_tuple_mul.lookup (by decide +kernel) F.slot_tuple_rmul.lookup (by decide +kernel)
theorem repeat_tuple : seqRepeat? (.type "tuple") = pure (some (.builtin "tuple.__mul__")) := by
  unfold seqRepeat?
  rw [PySem.seqSlot_of (T := "tuple") (name := "__mul__") (id := "tuple.__mul__") F.slot_tuple_mul.lookup (by decide +kernel), PySem.seqSlot_of (T := "tuple") (name := "__rmul__") (id := "tuple.__rmul__") F.slot_tuple_rmul.lookup (by decide +kernel)]
  rfl
section
variable (l : Addr) (items : Array Value) (n : Nat) (dd : Option Addr) (sl : Array (Option Value)) (x : Int) (u : Tok)
theorem rmul_tuple : Meets (Builtin.«int.__rmul__» ⟨[.int x u, .ref l], []⟩) (fun _ R s => s.heap.get? l = some { cls := .type "tuple", dict := dd, data := .seq items n, slots := sl } ∧ R (.ok (.ret Value.notImplemented)) s) :=
  .of_wp fun prog w A R s h => by obtain ⟨hp, g, d, tk, os⟩ := s; obtain ⟨hl, h⟩ := h; wp_walk; exact ⟨_, rfl, h⟩
theorem tmul_same (h1 : (decide (x < -2 ^ 63) || decide (x ≥ 2 ^ 63)) = false) (h2 : (items.isEmpty || x == 1) = true) : Meets (Builtin.«tuple.__mul__» ⟨[.ref l, .int x u], []⟩) (fun _ R s => s.heap.get? l = some { cls := .type "tuple", dict := dd, data := .seq items n, slots := sl } ∧ R (.ok (.ret (.ref l))) s) :=
  .of_wp fun prog w A R s h => by
    obtain ⟨hp, g, d, tk, os⟩ := s; obtain ⟨hl, h⟩ := h
    wp_walk
    refine wpAny_ite_false (by rw [h1]; rfl) ?_
    wp_walk using wpAny_loadPart' hl
    exact ⟨_, rfl, h⟩
theorem tmul_none (h1 : (decide (x < -2 ^ 63) || decide (x ≥ 2 ^ 63)) = false) (h2 : (items.isEmpty || x == 1) = false) (h3 : (decide (x ≤ 0) || items.isEmpty) = true) : Meets (Builtin.«tuple.__mul__» ⟨[.ref l, .int x u], []⟩) (fun _ R s => s.heap.get? l = some { cls := .type "tuple", dict := dd, data := .seq items n, slots := sl } ∧ R (.ok (.ret (.ref s.heap.objs.size))) { s with heap := s.heap.push { cls := .type "tuple", data := .seq #[] } }) :=
  .of_wp fun prog w A R s h => by
    obtain ⟨hp, g, d, tk, os⟩ := s; obtain ⟨hl, h⟩ := h
    wp_walk
    refine wpAny_ite_false (by rw [h1]; rfl) ?_
    wp_walk using wpAny_loadPart' hl
    exact ⟨_, rfl, h⟩
theorem tmul_many (h1 : (decide (x < -2 ^ 63) || decide (x ≥ 2 ^ 63)) = false) (h2 : (items.isEmpty || x == 1) = false) (h3 : (decide (x ≤ 0) || items.isEmpty) = false) (h4 : ¬ (items.size * x > (2 ^ 63 - 1) / 8)) (h5 : Builtin.Tuple.tupleTooMany (items.size * x) = false) (h6 : ((List.replicate x.toNat items).foldl (· ++ ·) #[]).size ≤ sizeLine) : Meets (Builtin.«tuple.__mul__» ⟨[.ref l, .int x u], []⟩) (fun _ R s => s.heap.get? l = some { cls := .type "tuple", dict := dd, data := .seq items n, slots := sl } ∧ R (.ok (.ret (.ref s.heap.objs.size))) { s with heap := s.heap.push { cls := .type "tuple", data := .seq ((List.replicate x.toNat items).foldl (· ++ ·) #[]) } }) :=
  .of_wp fun prog w A R s h => by
    obtain ⟨hp, g, d, tk, os⟩ := s; obtain ⟨hl, h⟩ := h
    wp_walk
    refine wpAny_ite_false (by rw [h1]; rfl) ?_
    wp_walk using wpAny_loadPart' hl
    refine wpAny_ite_false (decide_eq_false h4) ?_
    wp_walk
    exact ⟨_, rfl, h⟩
end
section
open L2
variable {X : Cx}
theorem op_catT0 : OpR X (binaryOp .Add) (fun x y H Q => ∃ a b ys, x = .ref a ∧ y = .ref b ∧ SqT X.K H a [] ∧ SqT X.K H b ys ∧ Q (.ref b) H) := by
  intro pins s σ H x y v u Q I rx ry h
  obtain ⟨a, b, ys, rfl, rfl, ha, hb, q⟩ := h
  cases rx
  cases ry
  obtain ⟨its, r1, p1, _⟩ := I.tuple ha
  obtain ⟨its2, r2, p2, _⟩ := I.tuple hb
  have hn : its = [] := r1.nil_iff.mpr rfl
  subst hn
  obtain ⟨⟨cls, dd, data, sl⟩, ho, hc, n, hd⟩ := id p1
  obtain ⟨⟨cls2, dd2, data2, sl2⟩, ho2, hc2, n2, hd2⟩ := id p2
  simp only at hc hd hc2 hd2
  subst hc hd hc2 hd2
  exact PySem.concat_meets ⟨_, ho, rfl⟩ ⟨_, ho2, rfl⟩ PySem.noFill_tuple_add PySem.seq_tuple_add PySem.F.slot_tuple_add PySem.F.entry_tuple_add (PySem.F.args_tuple_add_2 _ _) (PyProof.Rows.tuple_addW0 a b #[] its2.toArray n n2 dd dd2 sl sl2 rfl) ⟨ho, ho2, ⟨.ref b, H, I, rfl, q⟩⟩
noncomputable def rRepT (K : PySem.W.Frag) : R2 := fun x y H Q => ∃ a k xs, x = .ref a ∧ y = .int k ∧ SqT K H a xs ∧ -(2 ^ 63) ≤ k ∧ k < 2 ^ 63 ∧ xs.length * k.toNat ≤ sizeLine ∧
  (∀ ys, ys = (List.replicate k.toNat xs).flatten → (ys = xs → Q (.ref a) H) ∧ ∀ p, H p = none → Q (.ref p) (upd H p (.tup ys)))
theorem op_repT : OpR X (binaryOp .Mult) (rRepT X.K) := by
  intro pins s σ H x y v u Q I rx ry ⟨a, k, xs, e1, e2, sq, h1, h2, hz, q⟩
  subst e1 e2
  cases rx
  obtain ⟨t, rfl⟩ := ry
  obtain ⟨its, r, pl, _⟩ := I.tuple sq
  obtain ⟨⟨cls, dd, data, sl⟩, ho, hc, n, hd⟩ := id pl
  simp only at hc hd
  subst hc hd
  have hlen : its.length = xs.length := r.length.symm
  have hb : (decide (k < -2 ^ 63) || decide (k ≥ 2 ^ 63)) = false := by simp; omega
  have f0 : ∀ m : Nat, List.foldl (fun x1 x2 => x1 ++ x2) #[] (List.replicate m its.toArray) = (List.replicate m its).flatten.toArray := fun m => by
    have := foldl_rep its m []
    rw [List.nil_append] at this
    exact this
  obtain ⟨q1, q2⟩ := q _ rfl
  refine wpAny_binaryOp_repeat_ref (T := "tuple") (U := "int") (by decide) ⟨_, ho, rfl⟩ (fun s' => typeIs_int s' k t) noFill_tuple_mul F.fills_int_mul F.slot_int_rmul repeat_tuple F.slot_int_index.lookup
    (call_meets F.slot_int_rmul (typeIs_int s k t) F.entry_int_rmul (F.args_int_rmul_2 _ _) (rmul_tuple a its.toArray n dd sl k t) ⟨ho, rfl, ⟨_, ho, rfl⟩, ?_⟩)
  have newT : ∀ (zs : List Value) (ys : List V), Vals ys zs → ys.length ≤ sizeLine → ys = (List.replicate k.toNat xs).flatten → EP X pins σ Q (.ref s.heap.objs.size) { s with heap := s.heap.push { cls := .type "tuple", data := .seq zs.toArray } } := fun zs ys rv hl ey => by
    subst ey
    have hn : H s.heap.objs.size = none := I.hok.fresh (Nat.le_refl _)
    refine ⟨.ref s.heap.objs.size, _, ?_, rfl, q2 _ hn⟩
    refine I.laid (t' := s.toks) (fun b o e => Heap.get?_push_of_some _ e) (Nat.le_refl _) ⟨hl, zs, rv, ?_⟩
    exact ⟨_, Heap.get?_push_size s.heap rfl, rfl, 0, rfl⟩
  cases hs : (its.toArray.isEmpty || k == 1) with
  | true =>
    refine call_meets F.slot_tuple_mul ⟨_, ho, rfl⟩ F.entry_tuple_mul (F.args_tuple_mul_2 _ _) (tmul_same a its.toArray n dd sl k t hb hs) ⟨ho, .ref a, H, I, rfl, q1 ?_⟩
    simp only [Bool.or_eq_true, beq_iff_eq] at hs
    rcases hs with hs | hs
    · have : its = [] := by simpa using hs
      subst this
      have : xs = [] := List.length_eq_zero_iff.mp hlen.symm
      subst this
      simp
    · subst hs
      simp
  | false =>
    cases hs2 : (decide (k ≤ 0) || its.toArray.isEmpty) with
    | true =>
      refine call_meets F.slot_tuple_mul ⟨_, ho, rfl⟩ F.entry_tuple_mul (F.args_tuple_mul_2 _ _) (tmul_none a its.toArray n dd sl k t hb hs hs2) ⟨ho, newT [] [] .nil (by simp) ?_⟩
      simp only [Bool.or_eq_true, decide_eq_true_eq] at hs2
      rcases hs2 with hs2 | hs2
      · rw [show k.toNat = 0 by omega]; rfl
      · simp only [Bool.or_eq_false_iff] at hs
        rw [hs.1] at hs2
        cases hs2
    | false =>
      have hk : 0 < k := by simp only [Bool.or_eq_false_iff, decide_eq_false_iff_not] at hs2; omega
      have hkk : (k.toNat : Int) = k := by omega
      have hsz : (its.toArray.size : Int) * k = ((xs.length * k.toNat : Nat) : Int) := by
        rw [List.size_toArray, hlen]
        push_cast
        rw [hkk]
      have hfl : ((List.replicate k.toNat its).flatten).length = xs.length * k.toNat := by
        rw [len_rep, hlen, Nat.mul_comm]
      have h4 : ¬ ((its.toArray.size : Int) * k > (2 ^ 63 - 1) / 8) := by
        rw [hsz]
        have : (sizeLine : Nat) ≤ 1000000000000 := by rw [sizeLine_eq]; decide
        omega
      have h5 : Builtin.Tuple.tupleTooMany ((its.toArray.size : Int) * k) = false := by
        rw [hsz]
        simp only [Builtin.Tuple.tupleTooMany, decide_eq_false_iff_not]
        omega
      refine call_meets F.slot_tuple_mul ⟨_, ho, rfl⟩ F.entry_tuple_mul (F.args_tuple_mul_2 _ _) (tmul_many a its.toArray n dd sl k t hb hs hs2 h4 h5 (by rw [f0]; simp only [List.size_toArray]; omega)) ⟨ho, ?_⟩
      rw [f0]
      exact newT _ _ (r.rep k.toNat) (by rw [len_rep, Nat.mul_comm]; exact hz) rfl
end
end
noncomputable def rB (K : PySem.W.Frag) (o : Bop) : R2 := fun x y H Q => ∃ ρ S dx dy d S', RelS K ρ S H ∧ RelD K ρ H dx x ∧ RelD K ρ H dy y ∧ bop o dx dy S = .ok d S' ∧ Fin K ρ H d S' Q
theorem bits_of {i : Int} (h : i.natAbs < 2 ^ 4096) : Builtin.Int.intBits i ≤ 2 ^ 20 := by
  unfold Builtin.Int.intBits
  split
  · exact Nat.zero_le _
  · have hp : i.natAbs ≠ 0 := by
      rename_i z
      intro e
      exact z (by simp [Int.natAbs_eq_zero.mp e])
    have : i.natAbs.log2 < 4096 := (Nat.log2_lt hp).mpr h
    have : (2:Nat) ^ 20 = 1048576 := by decide
    omega
theorem log2_of {n : Nat} (h : n < 2 ^ 4096) : n.log2 < 9000 := by
  by_cases e : n = 0
  · subst e; decide +kernel
  · have := (Nat.log2_lt e).mpr h
    omega
section
variable {X : Cx}
theorem op_mulB : OpR X (binaryOp .Mult) (rI (fun i j => (small i || small j || (mid i && mid j)) = true) fun i j => .int (i * j)) := opI fun i j _ _ _ _ _ hc q => PyProof.Rows.mul_int q (by
  simp only [Bool.or_eq_true, Bool.and_eq_true, small, mid, decide_eq_true_eq] at hc
  rcases hc with (h | h) | h
  · exact CMul.ok (.inl h)
  · exact CMul.ok (.inr h)
  · exact IntMulOk.of_bits (bits_of h.1) (bits_of h.2))
theorem op_fdivB : OpR X (binaryOp .FloorDiv) (rI (fun _ j => 0 < j ∧ j.natAbs < 2 ^ 4096) fun i j => .int (i / j)) := opI fun i j _ _ _ _ _ hc q => by
  refine PyProof.Rows.floordiv_int (by omega) ?_ (.inl (PyProof.noPylong_of_log2 (log2_of hc.2)))
  rw [Int.fdiv_eq_ediv_of_nonneg i (by omega)]
  exact q
theorem bop_ok (o : Bop) : OpR X (binaryOp (opOf o)) (rB X.K o) := by
  intro pins s σ H x y v u Q I rx ry ⟨ρ, S, dx, dy, d, S', rs, r1, r2, e, fin⟩
  cases o with
  | add =>
    cases dx <;> cases dy <;> simp only [bop] at e <;> try (cases e; done)
    · cases e
      cases r1.int_inv; cases r2.int_inv
      exact op_add pins s σ H _ _ v u Q I rx ry ⟨_, _, rfl, rfl, fin.now rs (RelD.int _)⟩
    · split at e
      · rename_i hl
        cases e
        cases r1.str_inv; cases r2.str_inv
        exact op_add_str pins s σ H _ _ v u Q I rx ry ⟨_, _, rfl, rfl, by rw [← line_eq]; exact hl, fin.now rs (RelD.str _)⟩
      · cases e
    · split at e
      · rename_i hl
        cases e
        obtain ⟨a, xs, rfl, q1, t1⟩ := r1.tup_inv
        obtain ⟨b, ys, rfl, q2, t2⟩ := r2.tup_inv
        by_cases hds : xs = []
        · subst hds
          have := t1.length
          rw [List.length_nil] at this
          have ea := List.length_eq_zero_iff.mp this
          subst ea
          refine op_catT0 pins s σ H _ _ v u Q I rx ry ⟨a, b, ys, rfl, rfl, q1, q2, fin.now rs ?_⟩
          simp only [RelD, List.nil_append]
          exact ⟨b, ys, rfl, q2, t2⟩
        refine op_catT pins s σ H _ _ v u Q I rx ry ⟨a, b, xs, ys, rfl, rfl, q1, q2, hds, ?_, fun ey => ?_, fun _ => fin.newT rs (t1.append t2)⟩
        · rw [← t1.length, ← t2.length, ← line_eq]; exact hl
        · subst ey
          have := t2.length
          rw [List.length_nil] at this
          have eb := List.length_eq_zero_iff.mp this
          subst eb
          refine fin.now rs ?_
          simp only [RelD, List.append_nil]
          exact ⟨a, xs, rfl, q1, t1⟩
      · cases e
    · split at e
      · rename_i a b ha hb
        split at e
        · rename_i hl
          cases e
          obtain ⟨p, xs, rfl, _, q1, t1⟩ := rs.lst r1 ha
          obtain ⟨p2, ys, rfl, _, q2, t2⟩ := rs.lst r2 hb
          exact op_cat pins s σ H _ _ v u Q I rx ry ⟨p, p2, xs, ys, rfl, rfl, q1, q2, by rw [← t1.length, ← t2.length, ← line_eq]; exact hl, fin.newL rs (t1.append t2)⟩
        · cases e
      · cases e
  | sub =>
    cases dx <;> cases dy <;> simp only [bop] at e <;> try (cases e; done)
    cases e
    cases r1.int_inv; cases r2.int_inv
    exact op_sub pins s σ H _ _ v u Q I rx ry ⟨_, _, rfl, rfl, fin.now rs (RelD.int _)⟩
  | mul =>
    cases dx <;> cases dy <;> simp only [bop] at e <;> try (cases e; done)
    · split at e
      · rename_i hl
        cases e
        cases r1.int_inv; cases r2.int_inv
        exact op_mulB pins s σ H _ _ v u Q I rx ry ⟨_, _, rfl, rfl, hl, fin.now rs (RelD.int _)⟩
      · cases e
    · split at e
      · rename_i hl
        simp only [Bool.and_eq_true, decide_eq_true_eq] at hl
        cases e
        obtain ⟨a, xs, rfl, q1, t1⟩ := r1.tup_inv
        cases r2.int_inv
        refine op_repT pins s σ H _ _ v u Q I rx ry ⟨a, _, xs, rfl, rfl, q1, hl.1.1, hl.1.2, by rw [← t1.length, ← line_eq]; exact hl.2, fun ys ey => ⟨fun e => ?_, ?_⟩⟩
        · have t2 := t1.rep (Int.toNat ‹Int›)
          rw [← ey, e] at t2
          refine fin.now rs ?_
          simp only [RelD]
          exact ⟨a, xs, rfl, q1, t2⟩
        · subst ey
          exact fin.newT rs (t1.rep _)
      · cases e
    · split at e
      · rename_i a ha
        split at e
        · rename_i hl
          simp only [Bool.and_eq_true, decide_eq_true_eq] at hl
          cases e
          obtain ⟨p, xs, rfl, _, q1, t1⟩ := rs.lst r1 ha
          cases r2.int_inv
          refine op_rep pins s σ H _ _ v u Q I rx ry ⟨p, _, xs, rfl, rfl, q1, hl.1.1, hl.1.2, by rw [← t1.length, ← line_eq]; exact hl.2, ?_⟩
          exact fin.newL rs (t1.rep _)
        · cases e
      · cases e
  | fdiv =>
    cases dx <;> cases dy <;> simp only [bop] at e <;> try (cases e; done)
    split at e
    · rename_i hl
      cases e
      cases r1.int_inv; cases r2.int_inv
      exact op_fdivB pins s σ H _ _ v u Q I rx ry ⟨_, _, rfl, rfl, hl, fin.now rs (RelD.int _)⟩
    · cases e
  | mod =>
    cases dx <;> cases dy <;> simp only [bop] at e <;> try (cases e; done)
    split at e
    · rename_i hl
      cases e
      cases r1.int_inv; cases r2.int_inv
      exact op_mod pins s σ H _ _ v u Q I rx ry ⟨_, _, rfl, rfl, hl, fin.now rs (RelD.int _)⟩
    · cases e
  | pow =>
    cases dx <;> cases dy <;> simp only [bop] at e <;> try (cases e; done)
    split at e
    · rename_i hl
      simp only [Bool.and_eq_true, decide_eq_true_eq] at hl
      cases e
      cases r1.int_inv; cases r2.int_inv
      exact op_pow pins s σ H _ _ v u Q I rx ry ⟨_, _, rfl, rfl, ⟨hl.1.1, hl.1.2, hl.2⟩, fin.now rs (RelD.int _)⟩
    · cases e
end

theorem in1_units (A : Around) : A.in1.units = A.units + 1 := rfl
section
variable {X : Cx} {pins : List (Addr × PySem.Obj)} {σ : L2.St} {s : Shared}
theorem rcAt_V {A : Around} {s : Shared} {y x : V} {u v : Value} (ry : RelV y u) (rx : RelV x v) (fy : flatV y = true) (fx : flatV x = true) : SeqAt.RcAt A s u v (eqV y x) := by
  cases y with
  | non =>
    cases ry
    cases x with
    | non => cases rx; exact SeqAt.RcAt.none_none
    | bl b => cases rx; exact SeqAt.RcAt.none_bool b
    | int b => obtain ⟨t, rfl⟩ := rx; exact SeqAt.RcAt.none_int b t
    | str b => obtain ⟨t, rfl⟩ := rx; exact SeqAt.RcAt.none_str b t
    | _ => exact absurd (show false = true from fx) Bool.false_ne_true
  | bl a =>
    cases ry
    cases x with
    | non => cases rx; exact SeqAt.RcAt.bool_none a
    | bl b => cases rx; exact SeqAt.RcAt.bool_bool a b
    | int b => obtain ⟨t, rfl⟩ := rx; exact SeqAt.RcAt.bool_int a b t
    | str b => obtain ⟨t, rfl⟩ := rx; exact SeqAt.RcAt.bool_str a b t
    | _ => exact absurd (show false = true from fx) Bool.false_ne_true
  | int a =>
    obtain ⟨t', rfl⟩ := ry
    cases x with
    | non => cases rx; exact SeqAt.RcAt.int_none a t'
    | bl b => cases rx; exact SeqAt.RcAt.int_bool a t' b
    | int b => obtain ⟨t, rfl⟩ := rx; exact SeqAt.RcAt.int_int a t' b t
    | str b => obtain ⟨t, rfl⟩ := rx; exact SeqAt.RcAt.int_str a t' b t
    | _ => exact absurd (show false = true from fx) Bool.false_ne_true
  | str a =>
    obtain ⟨t', rfl⟩ := ry
    cases x with
    | non => cases rx; exact SeqAt.RcAt.str_none a t'
    | bl b => cases rx; exact SeqAt.RcAt.str_bool a t' b
    | int b => obtain ⟨t, rfl⟩ := rx; exact SeqAt.RcAt.str_int a t' b t
    | str b => obtain ⟨t, rfl⟩ := rx; exact SeqAt.RcAt.str_str a t' b t
    | _ => exact absurd (show false = true from fx) Bool.false_ne_true
  | _ => exact absurd (show false = true from fy) Bool.false_ne_true
theorem scal_rel {x : D} {v w : V} (h : RelD K ρ H x v) (e : scalV x = some w) : v = w ∧ flatV w = true := by
  cases x <;> simp only [scalV] at e <;> try (cases e; done)
  · cases e; exact ⟨h.non_inv, rfl⟩
  · cases e; exact ⟨h.bl_inv, rfl⟩
  · cases e; exact ⟨h.int_inv, rfl⟩
  · cases e; exact ⟨h.str_inv, rfl⟩
theorem eqL_len {f : D → D → Option Bool} : ∀ {as bs : List D} {b : Bool}, eqL f as bs = some b → as.length = bs.length → ∀ (i : Nat) (x y : D), as[i]? = some x → bs[i]? = some y → ∃ c, f x y = some c
  | [], [], b, _, _, i, x, y, h1, _ => by simp at h1
  | [], _ :: _, b, _, hl, i, x, y, h1, _ => by simp at h1
  | _ :: _, [], b, _, hl, i, x, y, _, h2 => by simp at h2
  | a :: as, c :: bs, b, e, hl, i, x, y, h1, h2 => by
    simp only [eqL] at e
    split at e
    · rename_i p q hp hq
      cases i with
      | zero => simp at h1 h2; subst h1 h2; exact ⟨p, hp⟩
      | succ i => exact eqL_len hq (by simpa using hl) i x y (by simpa using h1) (by simpa using h2)
    · cases e
theorem eqL_all {f : D → D → Option Bool} (e : Nat → Bool) : ∀ {as bs : List D} {b : Bool} (k : Nat), eqL f as bs = some b → as.length = bs.length → (∀ (i : Nat) (x y : D), as[i]? = some x → bs[i]? = some y → f x y = some (e (k + i))) → b = ((List.range as.length).map (k + ·)).all e
  | [], [], b, k, h, _, _ => by simp only [eqL] at h; cases h; rfl
  | [], _ :: _, b, k, h, hl, _ => by simp at hl
  | _ :: _, [], b, k, h, hl, _ => by simp at hl
  | a :: as, c :: bs, b, k, h, hl, hf => by
    simp only [eqL] at h
    split at h
    · rename_i p q hp hq
      cases h
      have h0 := hf 0 a c rfl rfl
      rw [hp] at h0
      have h0 : p = e (k + 0) := Option.some.inj h0
      have h1 := eqL_all e (k + 1) hq (by simpa using hl) fun i x y e1 e2 => by
        have := hf (i + 1) x y (by simpa using e1) (by simpa using e2)
        rw [show k + 1 + i = k + (i + 1) from by omega]
        exact this
      rw [h0, h1, List.length_cons, List.range_succ_eq_map, List.map_cons, List.all_cons, List.map_map]
      congr 2
      refine List.map_congr_left fun i _ => ?_
      show k + 1 + i = k + (i + 1)
      omega
    · cases h
theorem eqD_self (I : Inv X pins σ H s) (r : RelS X.K ρ S H) : ∀ (n : Nat) {x y : D} {v : V} {b : Bool}, RelD X.K ρ H x v → RelD X.K ρ H y v → eqD S n x y = some b → b = true := by
  have sc : ∀ {x y : D} {v w z : V} {b : Bool}, RelD X.K ρ H x v → RelD X.K ρ H y v → scalV x = some w → scalV y = some z → some (eqV w z) = some b → b = true := fun {x y v w z b} h1 h2 e1 e2 e => by
    obtain ⟨rfl, f1⟩ := scal_rel h1 e1
    obtain ⟨rfl, f2⟩ := scal_rel h2 e2
    cases e
    cases v <;> simp_all [flatV, eqV]
  intro n
  induction n with
  | zero =>
    intro x y v b h1 h2 e
    simp only [eqD] at e
    split at e
    · rename_i w z e1 e2
      exact sc h1 h2 e1 e2 e
    · cases e
  | succ n ih =>
    intro x y v b h1 h2 e
    have ihL : ∀ {as bs : List D} {vs : List V} {b : Bool}, RelDs X.K ρ H as vs → RelDs X.K ρ H bs vs → eqL (eqD S n) as bs = some b → b = true := by
      intro as
      induction as with
      | nil =>
        intro bs vs b h1 h2 e
        cases bs with
        | nil => simp only [eqL] at e; cases e; rfl
        | cons c bs =>
          rw [h1.inv_nil] at h2
          obtain ⟨_, _, z, _⟩ := h2.inv_cons
          cases z
      | cons a as iha =>
        intro bs vs b h1 h2 e
        obtain ⟨w, ws, rfl, q1, t1⟩ := h1.inv_cons
        cases bs with
        | nil => cases h2.inv_nil
        | cons c bs =>
          obtain ⟨w', ws', z, q2, t2⟩ := h2.inv_cons
          cases z
          simp only [eqL] at e
          split at e
          · rename_i p q hp hq
            cases e
            rw [ih q1 q2 hp, iha t1 t2 hq]
            rfl
          · cases e
    simp only [eqD] at e
    split at e
    · rename_i as bs
      obtain ⟨a, xs, rfl, p1, t1⟩ := h1.tup_inv
      obtain ⟨a', xs', e', p2, t2⟩ := h2.tup_inv
      cases e'
      cases I.tuple_inj p1 p2
      have hl : as.length = bs.length := t1.length.trans t2.length.symm
      rw [if_pos hl] at e
      exact ihL t1 t2 e
    · rename_i l k
      obtain ⟨a, rfl, p1⟩ := h1.loc_inv
      obtain ⟨a', e', p2⟩ := h2.loc_inv
      cases e'
      have hlk : l = k := nodup_get r.nd p1 p2
      subst hlk
      split at e
      · rename_i as bs e1 e2
        rw [e1] at e2
        cases e2
        rw [if_pos rfl] at e
        obtain ⟨b', xs, _, _, _, t⟩ := r.lst h1 (seqAt_lst e1)
        exact ihL t t e
      · cases e
    · split at e
      · rename_i w z e1 e2
        exact sc h1 h2 e1 e2 e
      · cases e
end
end Mi

namespace Mi
open PySem L2
theorem rcNeAt_V {A : Around} {s : Shared} {y x : V} {u v : Value} (ry : RelV y u) (rx : RelV x v) (fy : flatV y = true) (fx : flatV x = true) : SeqAt.RcNeAt A s u v (!eqV y x) := by
  cases y with
  | non =>
    cases ry
    cases x with
    | non => cases rx; exact SeqAt.RcNeAt.none_none
    | bl b => cases rx; exact SeqAt.RcNeAt.none_bool b
    | int b => obtain ⟨t, rfl⟩ := rx; exact SeqAt.RcNeAt.none_int b t
    | str b => obtain ⟨t, rfl⟩ := rx; exact SeqAt.RcNeAt.none_str b t
    | _ => exact absurd (show false = true from fx) Bool.false_ne_true
  | bl a =>
    cases ry
    cases x with
    | non => cases rx; exact SeqAt.RcNeAt.bool_none a
    | bl b => cases rx; exact SeqAt.RcNeAt.bool_bool a b
    | int b => obtain ⟨t, rfl⟩ := rx; exact SeqAt.RcNeAt.bool_int a b t
    | str b => obtain ⟨t, rfl⟩ := rx; exact SeqAt.RcNeAt.bool_str a b t
    | _ => exact absurd (show false = true from fx) Bool.false_ne_true
  | int a =>
    obtain ⟨t', rfl⟩ := ry
    cases x with
    | non => cases rx; exact SeqAt.RcNeAt.int_none a t'
    | bl b => cases rx; exact SeqAt.RcNeAt.int_bool a t' b
    | int b => obtain ⟨t, rfl⟩ := rx; exact SeqAt.RcNeAt.int_int a t' b t
    | str b => obtain ⟨t, rfl⟩ := rx; exact SeqAt.RcNeAt.int_str a t' b t
    | _ => exact absurd (show false = true from fx) Bool.false_ne_true
  | str a =>
    obtain ⟨t', rfl⟩ := ry
    cases x with
    | non => cases rx; exact SeqAt.RcNeAt.str_none a t'
    | bl b => cases rx; exact SeqAt.RcNeAt.str_bool a t' b
    | int b => obtain ⟨t, rfl⟩ := rx; exact SeqAt.RcNeAt.str_int a t' b t
    | str b => obtain ⟨t, rfl⟩ := rx; exact SeqAt.RcNeAt.str_str a t' b t
    | _ => exact absurd (show false = true from fx) Bool.false_ne_true
  | _ => exact absurd (show false = true from fy) Bool.false_ne_true
section
variable {X : Cx} {pins : List (Addr × PySem.Obj)} {σ : L2.St} {s : Shared} {ρ : List Addr} {H : Hp} {S : Store}
structure EqAll (A : Around) (s : Shared) (u w : Value) (b : Bool) : Prop where
  eq : SeqAt.EqAt A s u w b
  rc : SeqAt.RcAt A s u w b
  ne : SeqAt.RcNeAt A s u w (!b)
theorem eqV_all {A : Around} {x y : D} {vx vy p q : V} {u w : Value} {b : Bool} (h1 : RelD X.K ρ H x vx) (h2 : RelD X.K ρ H y vy) (r1 : RelV vx u) (r2 : RelV vy w) (e1 : scalV x = some p) (e2 : scalV y = some q) (e : some (eqV p q) = some b) : EqAll A s u w b := by
  obtain ⟨rfl, f1⟩ := scal_rel h1 e1
  obtain ⟨rfl, f2⟩ := scal_rel h2 e2
  cases e
  exact ⟨eqAt_V r1 r2 f1 f2, rcAt_V r1 r2 f1 f2, rcNeAt_V r1 r2 f1 f2⟩
theorem pair_of {as bs : List D} {xs ys : List V} {us ws : List Value} (t1 : RelDs X.K ρ H as xs) (t2 : RelDs X.K ρ H bs ys) (v1 : Vals xs us) (v2 : Vals ys ws) {j : Nat} (h1 : j < us.toArray.size) (h2 : j < ws.toArray.size) :
    ∃ a b v z, as[j]? = some a ∧ bs[j]? = some b ∧ RelD X.K ρ H a v ∧ RelD X.K ρ H b z ∧ RelV v us.toArray[j] ∧ RelV z ws.toArray[j] := by
  have l1 : j < as.length := by rw [t1.length, v1.length]; simpa using h1
  have l2 : j < bs.length := by rw [t2.length, v2.length]; simpa using h2
  obtain ⟨v, e1, q1⟩ := t1.get (List.getElem?_eq_getElem l1)
  obtain ⟨z, e2, q2⟩ := t2.get (List.getElem?_eq_getElem l2)
  obtain ⟨u', e3, q3⟩ := v1.get e1
  obtain ⟨w', e4, q4⟩ := v2.get e2
  refine ⟨_, _, v, z, List.getElem?_eq_getElem l1, List.getElem?_eq_getElem l2, q1, q2, ?_, ?_⟩
  · have : us.toArray[j] = u' := by
      have := List.getElem?_eq_some_iff.mp e3
      obtain ⟨_, e⟩ := this
      simpa using e
    rw [this]; exact q3
  · have : ws.toArray[j] = w' := by
      have := List.getElem?_eq_some_iff.mp e4
      obtain ⟨_, e⟩ := this
      simpa using e
    rw [this]; exact q4
theorem eqD_at (I : Inv X pins σ H s) (r : RelS X.K ρ S H) : ∀ (n : Nat) {A : Around} {x y : D} {vx vy : V} {u w : Value} {b : Bool}, A.units + n < cLine → RelD X.K ρ H x vx → RelD X.K ρ H y vy → RelV vx u → RelV vy w → eqD S n x y = some b → EqAll A s u w b := by
  intro n
  induction n with
  | zero =>
    intro A x y vx vy u w b hu h1 h2 r1 r2 e
    simp only [eqD] at e
    split at e
    · rename_i p q e1 e2
      exact eqV_all h1 h2 r1 r2 e1 e2 e
    · cases e
  | succ n ih =>
    intro A x y vx vy u w b hu h1 h2 r1 r2 e
    have e0 := e
    have hu0 : A.units < cLine := by omega
    have hu1 : A.in1.units + n < cLine := by rw [in1_units]; omega
    simp only [eqD] at e
    split at e
    · rename_i as bs
      obtain ⟨a, xs, rfl, p1, t1⟩ := h1.tup_inv
      obtain ⟨c, ys, rfl, p2, t2⟩ := h2.tup_inv
      cases r1
      cases r2
      obtain ⟨us, v1, i1, z1⟩ := I.tuple p1
      obtain ⟨ws, v2, i2, z2⟩ := I.tuple p2
      have s1 : us.toArray.size = as.length := by rw [List.size_toArray, ← v1.length, t1.length]
      have s2 : ws.toArray.size = bs.length := by rw [List.size_toArray, ← v2.length, t2.length]
      let ev : Nat → Bool := fun j => match as[j]?, bs[j]? with | some p, some q => (eqD S n p q).getD false | _, _ => false
      have he : ∀ (hs : ∀ (j : Nat) (p q : D), as[j]? = some p → bs[j]? = some q → ∃ c, eqD S n p q = some c) (j : Nat) (g1 : j < us.toArray.size) (g2 : j < ws.toArray.size), SeqAt.EqAt A.in1 s us.toArray[j] ws.toArray[j] (ev j) := fun hs j g1 g2 => by
        obtain ⟨p, q, v, z, a1, a2, q1, q2, q3, q4⟩ := pair_of t1 t2 v1 v2 g1 g2
        obtain ⟨c, hc⟩ := hs j p q a1 a2
        have : ev j = c := by simp only [ev, a1, a2, hc]; rfl
        rw [this]
        exact (ih hu1 q1 q2 q3 q4 hc).eq
      have fin : ∀ (hs : ∀ (j : Nat) (p q : D), as[j]? = some p → bs[j]? = some q → ∃ c, eqD S n p q = some c), ((List.range (min us.toArray.size ws.toArray.size)).all ev && us.toArray.size == ws.toArray.size) = b → EqAll A s (.ref a) (.ref c) b := fun hs hb => by
        have rc := SeqAt.RcAt.tuples (show s.heap.IsTuple a us.toArray from i1) (show s.heap.IsTuple c ws.toArray from i2) hu0 (he hs)
        have ne := SeqAt.RcNeAt.tuples (show s.heap.IsTuple a us.toArray from i1) (show s.heap.IsTuple c ws.toArray from i2) hu0 (he hs)
        rw [hb] at rc ne
        refine ⟨?_, rc, ne⟩
        by_cases hac : a = c
        · subst hac
          have := eqD_self I r (n + 1) h1 h2 e0
          subst this
          exact SeqAt.EqAt.same _
        · exact SeqAt.EqAt.of_refs hac rc
      split at e
      · rename_i hl
        refine fin (fun j p q a1 a2 => eqL_len e hl j p q a1 a2) ?_
        rw [s1, s2, hl, Nat.min_self, beq_self_eq_true, Bool.and_true]
        rw [eqL_all ev 0 e hl fun j p q a1 a2 => ?_]
        · rw [hl]
          congr 1
          exact (List.map_id' _).symm.trans (List.map_congr_left fun j _ => (Nat.zero_add j).symm)
        · obtain ⟨c', hc'⟩ := eqL_len e hl j p q a1 a2
          rw [hc', Nat.zero_add]
          simp only [ev, a1, a2, hc']
          rfl
      · rename_i hl
        split at e
        · rename_i hsome
          cases e
          obtain ⟨b', hb'⟩ := Option.isSome_iff_exists.mp hsome
          refine fin (fun j p q a1 a2 => ?_) ?_
          · have l1 := (List.getElem?_eq_some_iff.mp a1).1
            have l2 := (List.getElem?_eq_some_iff.mp a2).1
            refine eqL_len hb' (by rw [List.length_take, List.length_take, Nat.min_comm]) j p q ?_ ?_
            · rw [List.getElem?_take_of_lt l2]; exact a1
            · rw [List.getElem?_take_of_lt l1]; exact a2
          · have : (us.toArray.size == ws.toArray.size) = false := by rw [s1, s2]; simpa using hl
            rw [this, Bool.and_false]
        · cases e
    · rename_i l k
      split at e
      · rename_i as bs e1 e2
        obtain ⟨a, xs, rfl, _, p1, t1⟩ := r.lst h1 (seqAt_lst e1)
        obtain ⟨c, ys, rfl, _, p2, t2⟩ := r.lst h2 (seqAt_lst e2)
        cases r1
        cases r2
        obtain ⟨us, v1, i1, z1⟩ := I.list (SqL.of p1)
        obtain ⟨ws, v2, i2, z2⟩ := I.list (SqL.of p2)
        have s1 : us.toArray.size = as.length := by rw [List.size_toArray, ← v1.length, t1.length]
        have s2 : ws.toArray.size = bs.length := by rw [List.size_toArray, ← v2.length, t2.length]
        have fin : ∀ (rc : SeqAt.RcAt A s (.ref a) (.ref c) b) (ne : SeqAt.RcNeAt A s (.ref a) (.ref c) (!b)), EqAll A s (.ref a) (.ref c) b := fun rc ne => by
          refine ⟨?_, rc, ne⟩
          by_cases hac : a = c
          · subst hac
            have := eqD_self I r (n + 1) h1 h2 e0
            subst this
            exact SeqAt.EqAt.same _
          · exact SeqAt.EqAt.of_refs hac rc
        split at e
        · rename_i hl
          let ev : Nat → Bool := fun j => match as[j]?, bs[j]? with | some p, some q => (eqD S n p q).getD false | _, _ => false
          have he : ∀ (j : Nat) (g1 : j < us.toArray.size) (g2 : j < ws.toArray.size), SeqAt.EqAt A.in1 s us.toArray[j] ws.toArray[j] (ev j) := fun j g1 g2 => by
            obtain ⟨p, q, v, z, a1, a2, q1, q2, q3, q4⟩ := pair_of t1 t2 v1 v2 g1 g2
            obtain ⟨c, hc⟩ := eqL_len e hl j p q a1 a2
            have : ev j = c := by simp only [ev, a1, a2, hc]; rfl
            rw [this]
            exact (ih hu1 q1 q2 q3 q4 hc).eq
          have hb : (List.range us.toArray.size).all ev = b := by
            rw [s1]
            rw [eqL_all ev 0 e hl fun j p q a1 a2 => ?_]
            · congr 1
              exact (List.map_id' _).symm.trans (List.map_congr_left fun j _ => (Nat.zero_add j).symm)
            · obtain ⟨c', hc'⟩ := eqL_len e hl j p q a1 a2
              rw [hc', Nat.zero_add]
              simp only [ev, a1, a2, hc']
              rfl
          have rc := SeqAt.RcAt.lists i1.isList i2.isList (by rw [s1, s2, hl]) hu0 he
          have ne := SeqAt.RcNeAt.lists i1.isList i2.isList (by rw [s1, s2, hl]) hu0 he
          rw [hb] at rc ne
          exact fin rc ne
        · rename_i hl
          cases e
          have hsz : (us.toArray.size != ws.toArray.size) = true := by rw [s1, s2]; simpa using hl
          exact fin (SeqAt.RcAt.lists_lengths i1.isList i2.isList hsz hu0) (SeqAt.RcNeAt.lists_lengths i1.isList i2.isList hsz hu0)
      · cases e
    · split at e
      · rename_i p q e1 e2
        exact eqV_all h1 h2 r1 r2 e1 e2 e
      · cases e
end
end Mi

namespace Mi
open PySem L2
section
variable {X : Cx} {ρ : List Addr} {H : Hp} {S : Store} {pins : List (Addr × PySem.Obj)} {σ : L2.St} {s : Shared}
theorem list_tuple_no (I : Inv X pins σ H s) {a : Addr} {xs ys : List V} (h1 : SqL X.K H a xs) (h2 : SqT X.K H a ys) : False := by
  obtain ⟨its, _, ⟨o, n, e, c, _⟩, _⟩ := I.list h1
  obtain ⟨its2, _, ⟨o2, e2, c2, _⟩, _⟩ := I.tuple h2
  rw [e] at e2
  cases e2
  rw [c] at c2
  injection c2 with z
  exact absurd z (by decide)
theorem lst_frz_no (I : Inv X pins σ H s) {a : Addr} {xs ys : List V} (h1 : H a = some (.lst xs)) (h2 : SqF X.K H a ys) : False := by
  rcases h2 with ⟨o, e⟩ | ⟨o, its, n, hk, _⟩
  · rw [h1] at e; cases e
  · have e := (I.bs a o (I.ok.mod.kin a o hk)).2
    rw [h1] at e
    cases e
theorem kd_list_no (I : Inv X pins σ H s) {a : Addr} {xs : List V} {kvs : List (Str × Int)} (h1 : SqL X.K H a xs) (h2 : KDict X.K a kvs) : False := by
  obtain ⟨its, _, ⟨o, n, e, c, _⟩, _⟩ := I.list h1
  obtain ⟨o2, e2, x⟩ := h2.obj I.kIn
  rw [e] at e2
  cases e2
  have c2 := x.1
  rw [c] at c2
  injection c2 with z
  exact absurd z (by decide)
theorem kd_tuple_no (I : Inv X pins σ H s) {a : Addr} {xs : List V} {kvs : List (Str × Int)} (h1 : SqT X.K H a xs) (h2 : KDict X.K a kvs) : False := by
  obtain ⟨its, _, ⟨o, e, c, _⟩, _⟩ := I.tuple h1
  obtain ⟨o2, e2, x⟩ := h2.obj I.kIn
  rw [e] at e2
  cases e2
  have c2 := x.1
  rw [c] at c2
  injection c2 with z
  exact absurd z (by decide)
mutual
theorem RelD.inj (I : Inv X pins σ H s) (r : RelS X.K ρ S H) : ∀ {d d' : D} {v : V}, RelD X.K ρ H d v → RelD X.K ρ H d' v → d = d'
  | .non, d', v, h, h' => by
    cases h.non_inv
    cases d' <;> simp only [RelD] at h' <;> first | rfl | (cases h'; done) | (obtain ⟨_, _, e, _⟩ := h'; cases e) | (obtain ⟨_, e, _⟩ := h'; cases e)
  | .bl b, d', v, h, h' => by
    cases h.bl_inv
    cases d' <;> simp only [RelD] at h' <;> first | (cases h'; rfl) | (cases h'; done) | (obtain ⟨_, _, e, _⟩ := h'; cases e) | (obtain ⟨_, e, _⟩ := h'; cases e)
  | .int b, d', v, h, h' => by
    cases h.int_inv
    cases d' <;> simp only [RelD] at h' <;> first | (cases h'; rfl) | (cases h'; done) | (obtain ⟨_, _, e, _⟩ := h'; cases e) | (obtain ⟨_, e, _⟩ := h'; cases e)
  | .str b, d', v, h, h' => by
    cases h.str_inv
    cases d' <;> simp only [RelD] at h' <;> first | (cases h'; rfl) | (cases h'; done) | (obtain ⟨_, _, e, _⟩ := h'; cases e) | (obtain ⟨_, e, _⟩ := h'; cases e)
  | .tup ds, d', v, h, h' => by
    obtain ⟨a, xs, rfl, q, t⟩ := h.tup_inv
    cases d' with
    | tup es =>
      obtain ⟨a', xs', e, q', t'⟩ := h'.tup_inv
      cases e
      cases I.tuple_inj q q'
      rw [RelDs.inj I r t t']
    | loc l =>
      obtain ⟨a', e, hl⟩ := h'.loc_inv
      cases e
      obtain ⟨o, _, ho⟩ := r.at hl
      cases o with
      | lst es => obtain ⟨ys, hy, _⟩ := ho; exact (list_tuple_no I (SqL.of hy) q).elim
      | dct _ => exact ho.elim
      | ins _ _ => exact ho.elim
    | kl es =>
      obtain ⟨a', xs', e, q', t'⟩ := h'.kl_inv
      cases e
      exact (list_tuple_no I q'.sq q).elim
    | kd kvs =>
      obtain ⟨a', e, q'⟩ := h'.kd_inv
      cases e
      exact (kd_tuple_no I q q').elim
    | _ => simp only [RelD] at h'; cases h'
  | .loc l, d', v, h, h' => by
    obtain ⟨a, rfl, hl⟩ := h.loc_inv
    obtain ⟨o, _, ho⟩ := r.at hl
    have hy : ∃ ys, H a = some (.lst ys) := by
      cases o with
      | lst es => obtain ⟨ys, hy, _⟩ := ho; exact ⟨ys, hy⟩
      | dct _ => exact ho.elim
      | ins _ _ => exact ho.elim
    obtain ⟨ys, hy⟩ := hy
    cases d' with
    | loc k =>
      obtain ⟨a', e, hk⟩ := h'.loc_inv
      cases e
      rw [nodup_get r.nd hl hk]
    | tup es =>
      obtain ⟨a', xs', e, q', t'⟩ := h'.tup_inv
      cases e
      exact (list_tuple_no I (SqL.of hy) q').elim
    | kl es =>
      obtain ⟨a', xs', e, q', t'⟩ := h'.kl_inv
      cases e
      exact (lst_frz_no I hy q').elim
    | kd kvs =>
      obtain ⟨a', e, q'⟩ := h'.kd_inv
      cases e
      exact (kd_list_no I (SqL.of hy) q').elim
    | _ => simp only [RelD] at h'; cases h'
  | .kl ds, d', v, h, h' => by
    obtain ⟨a, xs, rfl, q, t⟩ := h.kl_inv
    cases d' with
    | kl es =>
      obtain ⟨a', xs', e, q', t'⟩ := h'.kl_inv
      cases e
      cases I.list_inj q.sq q'.sq
      rw [RelDs.inj I r t t']
    | loc l =>
      obtain ⟨a', e, hl⟩ := h'.loc_inv
      cases e
      obtain ⟨o, _, ho⟩ := r.at hl
      cases o with
      | lst es => obtain ⟨ys, hy, _⟩ := ho; exact (lst_frz_no I hy q).elim
      | dct _ => exact ho.elim
      | ins _ _ => exact ho.elim
    | tup es =>
      obtain ⟨a', xs', e, q', t'⟩ := h'.tup_inv
      cases e
      exact (list_tuple_no I q.sq q').elim
    | kd kvs =>
      obtain ⟨a', e, q'⟩ := h'.kd_inv
      cases e
      exact (kd_list_no I q.sq q').elim
    | _ => simp only [RelD] at h'; cases h'
  | .kd kvs, d', v, h, h' => by
    obtain ⟨a, rfl, q⟩ := h.kd_inv
    cases d' with
    | kd kvs' =>
      obtain ⟨a', e, q'⟩ := h'.kd_inv
      cases e
      rw [q.inj q' I.kIn]
    | tup es =>
      obtain ⟨a', xs', e, q', t'⟩ := h'.tup_inv
      cases e
      exact (kd_tuple_no I q' q).elim
    | loc l =>
      obtain ⟨a', e, hl⟩ := h'.loc_inv
      cases e
      obtain ⟨o, _, ho⟩ := r.at hl
      cases o with
      | lst es => obtain ⟨ys, hy, _⟩ := ho; exact (kd_list_no I (SqL.of hy) q).elim
      | dct _ => exact ho.elim
      | ins _ _ => exact ho.elim
    | kl es =>
      obtain ⟨a', xs', e, q', t'⟩ := h'.kl_inv
      cases e
      exact (kd_list_no I q'.sq q).elim
    | _ => simp only [RelD] at h'; cases h'
theorem RelDs.inj (I : Inv X pins σ H s) (r : RelS X.K ρ S H) : ∀ {ds ds' : List D} {vs : List V}, RelDs X.K ρ H ds vs → RelDs X.K ρ H ds' vs → ds = ds'
  | [], ds', vs, h, h' => by
    rw [h.inv_nil] at h'
    cases ds' with
    | nil => rfl
    | cons d es => obtain ⟨_, _, e, _⟩ := h'.inv_cons; cases e
  | d :: ds, ds', vs, h, h' => by
    obtain ⟨v, ws, rfl, q, t⟩ := h.inv_cons
    cases ds' with
    | nil => cases h'.inv_nil
    | cons d' es =>
      obtain ⟨v', ws', e, q', t'⟩ := h'.inv_cons
      cases e
      rw [RelD.inj I r q q', RelDs.inj I r t t']
end
noncomputable def rC (K : PySem.W.Frag) (o : Cop) : R2 := fun x y H Q => ∃ ρ S dx dy k, RelS K ρ S H ∧ RelD K ρ H dx x ∧ RelD K ρ H dy y ∧ cop o dx dy S = some k ∧ Q (.bl k) H
theorem anyEq_at (I : Inv X pins σ H s) (r : RelS X.K ρ S H) {A : Around} {x : D} {vx : V} {w : Value} (hu : A.units + Deep < cLine) (hx : RelD X.K ρ H x vx) (rx : RelV vx w)
    {ds : List D} {xs : List V} {us : List Value} {b : Bool} (t : RelDs X.K ρ H ds xs) (v : Vals xs us) (e : anyEq S Deep x ds = some b) : ∃ e : Value → Bool, (∀ u ∈ us, SeqAt.EqAt A s u w (e u)) ∧ us.any e = b := by
  classical
  let ev : Value → Bool := fun u => decide (∃ d v, RelD X.K ρ H d v ∧ RelV v u ∧ eqD S Deep d x = some true)
  have one : ∀ {d : D} {v : V} {u : Value} {b : Bool}, RelD X.K ρ H d v → RelV v u → eqD S Deep d x = some b → ev u = b := fun {d v u b} h r1 e => by
    cases b with
    | true => exact decide_eq_true ⟨d, v, h, r1, e⟩
    | false =>
      refine decide_eq_false ?_
      rintro ⟨d', v', h', r2, e'⟩
      cases r1.inj r2
      rw [RelD.inj I r h h', e'] at e
      cases e
  refine ⟨ev, ?_⟩
  induction ds generalizing xs us b with
  | nil =>
    rw [t.inv_nil] at v
    cases v
    simp only [anyEq] at e
    cases e
    exact ⟨fun u hu => by simp at hu, rfl⟩
  | cons d ds ih =>
    obtain ⟨z, zs, rfl, q, t'⟩ := t.inv_cons
    cases v with
    | cons r1 v' =>
      rename_i u us
      simp only [anyEq] at e
      split at e
      · rename_i p p' e1 e2
        cases e
        obtain ⟨h1, h2⟩ := ih t' v' e2
        refine ⟨fun u' hu' => ?_, ?_⟩
        · rcases List.mem_cons.mp hu' with rfl | hm
          · rw [one q r1 e1]
            exact (eqD_at I r Deep hu q hx r1 rx e1).eq
          · exact h1 u' hm
        · rw [List.any_cons, one q r1 e1, h2]
      · cases e
theorem cop_ok (o : Cop) (hu : X.A.units + 64 < cLine) : OpR X (compareOp (copOf o)) (rC X.K o) := by
  intro pins s σ H x y v u Q I rx ry ⟨ρ, S, dx, dy, k, rs, r1, r2, e, q⟩
  have hu2 : X.A.units + Deep < cLine := by show X.A.units + 12 < cLine; omega
  have hu3 : X.A.in1.units + Deep < cLine := by rw [in1_units]; show X.A.units + 1 + 12 < cLine; omega
  cases o with
  | eq => exact (eqD_at I rs Deep hu2 r1 r2 rx ry e).rc X.prog X.w X.xe _ ⟨.bl k, H, I, rfl, q⟩
  | ne =>
    simp only [cop, Option.map_eq_some_iff] at e
    obtain ⟨b, e, rfl⟩ := e
    exact (eqD_at I rs Deep hu2 r1 r2 rx ry e).ne X.prog X.w X.xe _ ⟨.bl (!b), H, I, rfl, q⟩
  | lt =>
    cases dx <;> cases dy <;> simp only [cop] at e <;> try (cases e; done)
    cases e
    cases r1.int_inv; cases r2.int_inv
    exact op_lt pins s σ H _ _ v u Q I rx ry ⟨_, _, rfl, rfl, q⟩
  | le =>
    cases dx <;> cases dy <;> simp only [cop] at e <;> try (cases e; done)
    cases e
    cases r1.int_inv; cases r2.int_inv
    exact op_le pins s σ H _ _ v u Q I rx ry ⟨_, _, rfl, rfl, q⟩
  | gt =>
    cases dx <;> cases dy <;> simp only [cop] at e <;> try (cases e; done)
    cases e
    cases r1.int_inv; cases r2.int_inv
    exact op_gt pins s σ H _ _ v u Q I rx ry ⟨_, _, rfl, rfl, q⟩
  | ge =>
    cases dx <;> cases dy <;> simp only [cop] at e <;> try (cases e; done)
    cases e
    cases r1.int_inv; cases r2.int_inv
    exact op_ge pins s σ H _ _ v u Q I rx ry ⟨_, _, rfl, rfl, q⟩
  | isc =>
    cases dy <;> simp only [cop] at e <;> try (cases e; done)
    · cases r2.non_inv
      refine op_isN pins s σ H _ _ v u Q I rx ry ⟨rfl, ?_⟩
      cases dx <;> cases e <;> simp only [RelD] at r1
      · subst r1; exact q
      · subst r1; exact q
      · subst r1; exact q
      · subst r1; exact q
      · obtain ⟨_, _, rfl, _⟩ := r1; exact q
      · obtain ⟨_, rfl, _⟩ := r1; exact q
      · obtain ⟨_, _, rfl, _⟩ := r1; exact q
      · obtain ⟨_, rfl, _⟩ := r1; exact q
    · cases r2.bl_inv
      cases ry
      cases dx <;> simp only at e <;> try (cases e; done)
      · cases e; cases r1.non_inv; cases rx
        exact wpAny_is_plain rfl ⟨.bl _, H, I, rfl, q⟩
      · cases e; cases r1.bl_inv; cases rx
        refine wpAny_is_plain rfl ⟨.bl _, H, I, ?_, q⟩
        rename_i b a
        cases a <;> cases b <;> rfl
      · cases e; cases r1.int_inv; obtain ⟨t, rfl⟩ := rx
        exact wpAny_is_plain rfl ⟨.bl _, H, I, rfl, q⟩
      · cases e; obtain ⟨_, _, rfl, _⟩ := r1.tup_inv; cases rx
        exact wpAny_is_plain rfl ⟨.bl _, H, I, rfl, q⟩
      · cases e; obtain ⟨_, rfl, _⟩ := r1.loc_inv; cases rx
        exact wpAny_is_plain rfl ⟨.bl _, H, I, rfl, q⟩
  | isnc =>
    cases dy <;> simp only [cop] at e <;> try (cases e; done)
    · cases r2.non_inv
      refine op_notN pins s σ H _ _ v u Q I rx ry ⟨rfl, ?_⟩
      cases dx <;> cases e <;> simp only [RelD] at r1
      · subst r1; exact q
      · subst r1; exact q
      · subst r1; exact q
      · subst r1; exact q
      · obtain ⟨_, _, rfl, _⟩ := r1; exact q
      · obtain ⟨_, rfl, _⟩ := r1; exact q
      · obtain ⟨_, _, rfl, _⟩ := r1; exact q
      · obtain ⟨_, rfl, _⟩ := r1; exact q
    · cases r2.bl_inv
      cases ry
      cases dx <;> simp only at e <;> try (cases e; done)
      · cases e; cases r1.non_inv; cases rx
        exact wpAny_isNot_plain rfl ⟨.bl _, H, I, rfl, q⟩
      · cases e; cases r1.bl_inv; cases rx
        refine wpAny_isNot_plain rfl ⟨.bl _, H, I, ?_, q⟩
        rename_i b a
        cases a <;> cases b <;> rfl
      · cases e; cases r1.int_inv; obtain ⟨t, rfl⟩ := rx
        exact wpAny_isNot_plain rfl ⟨.bl _, H, I, rfl, q⟩
      · cases e; obtain ⟨_, _, rfl, _⟩ := r1.tup_inv; cases rx
        exact wpAny_isNot_plain rfl ⟨.bl _, H, I, rfl, q⟩
      · cases e; obtain ⟨_, rfl, _⟩ := r1.loc_inv; cases rx
        exact wpAny_isNot_plain rfl ⟨.bl _, H, I, rfl, q⟩
  | inn =>
    simp only [cop] at e
    split at e
    · rename_i ds hs
      obtain ⟨a, xs, rfl, sq, t⟩ := rs.seq r2 hs
      cases ry
      rcases sq with sq | sq
      · obtain ⟨us, vv, pl, _⟩ := I.list sq
        obtain ⟨ev, h1, h2⟩ := anyEq_at I rs hu3 r1 rx t vv e
        exact SeqAt.in_listAt ev pl.isList (fun y hy => h1 y (by simpa using hy)) ⟨.bl k, H, I, by rw [List.any_toArray, h2]; rfl, q⟩
      · obtain ⟨us, vv, pl, _⟩ := I.tuple sq
        obtain ⟨ev, h1, h2⟩ := anyEq_at I rs hu3 r1 rx t vv e
        exact SeqAt.in_tupleAt ev (show s.heap.IsTuple a us.toArray from pl) (fun y hy => h1 y (by simpa using hy)) ⟨.bl k, H, I, by rw [List.any_toArray, h2]; rfl, q⟩
    · cases e
  | nin =>
    simp only [cop] at e
    split at e
    · rename_i ds hs
      simp only [Option.map_eq_some_iff] at e
      obtain ⟨b, e, rfl⟩ := e
      obtain ⟨a, xs, rfl, sq, t⟩ := rs.seq r2 hs
      cases ry
      rcases sq with sq | sq
      · obtain ⟨us, vv, pl, _⟩ := I.list sq
        obtain ⟨ev, h1, h2⟩ := anyEq_at I rs hu3 r1 rx t vv e
        exact SeqAt.notIn_listAt ev pl.isList (fun y hy => h1 y (by simpa using hy)) ⟨.bl (!b), H, I, by rw [List.any_toArray, h2]; rfl, q⟩
      · obtain ⟨us, vv, pl, _⟩ := I.tuple sq
        obtain ⟨ev, h1, h2⟩ := anyEq_at I rs hu3 r1 rx t vv e
        exact SeqAt.notIn_tupleAt ev (show s.heap.IsTuple a us.toArray from pl) (fun y hy => h1 y (by simpa using hy)) ⟨.bl (!b), H, I, by rw [List.any_toArray, h2]; rfl, q⟩
    · cases e
theorem isEmpty_rel {ds : List D} {xs : List V} {K : PySem.W.Frag} (t : RelDs K ρ H ds xs) : (!ds.isEmpty) = !xs.isEmpty := by
  cases ds with
  | nil => rw [t.inv_nil]; rfl
  | cons d ds => obtain ⟨_, _, rfl, _⟩ := t.inv_cons; rfl
theorem tru_rel {K : PySem.W.Frag} (r : RelS K ρ S H) {d : D} {x : V} {k : Bool} (h : RelD K ρ H d x) (e : tru S d = some k) : TruV K x H k := by
  cases d with
  | non => cases h.non_inv; cases e; rfl
  | bl b => cases h.bl_inv; cases e; rfl
  | int i => cases h.int_inv; cases e; rfl
  | str z =>
    cases h.str_inv
    simp only [tru] at e
    split at e
    · rename_i hl; cases e; exact ⟨by rw [← line_eq]; exact hl, rfl⟩
    · cases e
  | tup ds =>
    obtain ⟨a, xs, rfl, q, t⟩ := h.tup_inv
    cases e
    exact .inr (.inl ⟨xs, q, isEmpty_rel t⟩)
  | loc l =>
    simp only [tru] at e
    split at e
    · rename_i ds hs
      cases e
      obtain ⟨a, xs, rfl, _, q, t⟩ := r.lst h (seqAt_lst hs)
      exact .inl ⟨xs, SqL.of q, isEmpty_rel t⟩
    · cases e
  | kl ds =>
    obtain ⟨a, xs, rfl, q, t⟩ := h.kl_inv
    cases e
    exact .inl ⟨xs, q.sq, isEmpty_rel t⟩
  | kd kvs => cases e
noncomputable def rX (K : PySem.W.Frag) : R2 := fun x y H Q => ∃ ρ S dx dy d, RelS K ρ S H ∧ RelD K ρ H dx x ∧ RelD K ρ H dy y ∧ idxD dx dy S = some d ∧ Fin K ρ H d S Q
theorem idx_ok : IxR X (rX X.K) := by
  intro value slice pins s σ H x y v u Q I rx ry ⟨ρ, S, dx, dy, d, rs, r1, r2, e, fin⟩ hs
  cases dy <;> simp only [idxD] at e <;> try (cases e; done)
  cases r2.int_inv
  split at e
  · rename_i ds hds
    obtain ⟨a, xs, rfl, sq, t⟩ := rs.seq r1 hds
    obtain ⟨w, ew, rw'⟩ := atI_rel t e
    rcases sq with sq | sq
    · exact ix_list value slice pins s σ H _ _ v u Q I rx ry ⟨a, xs, _, w, rfl, rfl, sq, ew, fin.now rs rw'⟩ hs
    · exact ix_tup value slice pins s σ H _ _ v u Q I rx ry ⟨a, xs, _, w, rfl, rfl, sq, ew, fin.now rs rw'⟩ hs
  · split at e
    · rename_i z _
      split at e
      · rename_i hl
        simp only [Option.map_eq_some_iff] at e
        obtain ⟨c, e, rfl⟩ := e
        cases r1.str_inv
        exact ix_str value slice pins s σ H _ _ v u Q I rx ry ⟨z, _, c, rfl, rfl, by rw [← line_eq]; exact hl, e, fin.now rs (RelD.str _)⟩ hs
      · cases e
    · cases e
noncomputable def rSl (K : PySem.W.Frag) : V → Option Int → Option Int → Hp → VK → Prop := fun x lo hi H Q => ∃ ρ S dx d S', RelS K ρ S H ∧ RelD K ρ H dx x ∧ sliD dx lo hi S = .ok d S' ∧ Fin K ρ H d S' Q
theorem cut_rel {K : PySem.W.Frag} {ds : List D} {xs : List V} (t : RelDs K ρ H ds xs) (lo hi : Option Int) : RelDs K ρ H (cutD ds lo hi) (cutV xs lo hi) := by
  unfold cutD cutV
  rw [t.length]
  exact (t.drop _).take _
theorem sli_ok : SlR X (rSl X.K) := by
  intro pins s σ H x v vl vu lo hi sl Q I rx hs pl pu ⟨ρ, S, dx, d, S', rs, r1, e, fin⟩
  cases dx <;> simp only [sliD] at e <;> try (cases e; done)
  · split at e
    · cases e
    · rename_i hw
      cases e
      obtain ⟨a, xs, rfl, q, t⟩ := r1.tup_inv
      exact sl_tup pins s σ H _ v vl vu lo hi sl Q I rx hs pl pu ⟨a, xs, rfl, q, by rw [← t.length]; exact hw, fin.newT rs (cut_rel t lo hi)⟩
  · split at e
    · rename_i ds hds
      cases e
      obtain ⟨a, xs, rfl, _, q, t⟩ := rs.lst r1 (seqAt_lst hds)
      exact sl_list pins s σ H _ v vl vu lo hi sl Q I rx hs pl pu ⟨a, xs, rfl, SqL.of q, fin.newL rs (cut_rel t lo hi)⟩
    · cases e
  · cases e
    obtain ⟨a, xs, rfl, q, t⟩ := r1.kl_inv
    exact sl_list pins s σ H _ v vl vu lo hi sl Q I rx hs pl pu ⟨a, xs, rfl, q.sq, fin.newL rs (cut_rel t lo hi)⟩
noncomputable def rSt (K : PySem.W.Frag) : TSet := fun o i v H Q => ∃ ρ S dO di dv S', RelS K ρ S H ∧ RelD K ρ H dO o ∧ RelD K ρ H di i ∧ RelD K ρ H dv v ∧ setS dO di dv S = .ok () S' ∧ ∀ H', Fut K ρ H ρ H' → RelS K ρ S' H' → Q H'
theorem set_ok : PSet X (rSt X.K) := by
  intro pins s σ H o i v ov iv u Q I ro ri rv ⟨ρ, S, dO, di, dv, S', rs, r1, r2, r3, e, fin⟩
  cases dO <;> cases di <;> simp only [setS] at e <;> try (cases e; done)
  split at e
  · rename_i xs hx
    split at e
    · rename_i j hj
      cases e
      obtain ⟨a, ys, rfl, hl, q, t⟩ := rs.lst r1 hx
      cases r2.int_inv
      refine set_list pins s σ H _ _ v ov iv u Q I ro ri rv ⟨a, ys, _, j, rfl, rfl, q, by rw [← t.length]; exact hj, fin _ (fut_set q) (rs.set hl q (RelDs.set r3 j t))⟩
    · cases e
  · cases e
end
end Mi

namespace Mi
open PySem L2
section
open PySem.Spec PyProof.Rows PyProof
theorem wpAny_range0 {M : Model} {A : Around} {E : Value → Shared → Prop} {s : Shared} {β : Type} {b : Nat} (f : Nat → β → Sem (ForInStep β)) (I : Nat → β → Shared → Prop) (Q : β → Shared → Prop)
    (turn : ∀ i c s, i < b → I i c s → wpAny M A (f i c) (fun r s' => match r with | .yield c' => I (i + 1) c' s' | .done c' => Q c' s') E s) (fin : ∀ c s, I b c s → Q c s) (c : β) (h : I 0 c s) : wpAny M A (forIn ([:b] : Std.Legacy.Range) c f) Q E s := by
  rw [Std.Legacy.Range.forIn_eq_forIn_range']
  have hsz : ([:b] : Std.Legacy.Range).size = b := by simp [Std.Legacy.Range.size]
  show wpAny M A (forIn (List.range' 0 ([:b] : Std.Legacy.Range).size 1) c f) Q E s
  rw [hsz]
  refine wpAny_forIn_list f (fun l c s => ∃ i, i ≤ b ∧ l = List.range' i (b - i) 1 ∧ I i c s) Q ?_ ?_ _ c ⟨0, Nat.zero_le _, rfl, h⟩
  · rintro x rest c s ⟨i, hib, hl, hI⟩
    have hlt : i < b := by
      rcases Nat.lt_or_ge i b with h' | h'
      · exact h'
      · rw [show b - i = 0 by omega] at hl; simp at hl
    obtain ⟨n, hn⟩ : ∃ n, b - i = n + 1 := ⟨b - i - 1, by omega⟩
    rw [hn, List.range'_succ] at hl
    obtain ⟨rfl, rfl⟩ := List.cons.inj hl
    refine wpAny_mono (turn x c s hlt hI) (fun r st' h' => ?_) fun _ _ e => e
    cases r with
    | done c' => exact h'
    | yield c' => exact ⟨x + 1, by omega, by congr 1; omega, h'⟩
  · rintro c s ⟨i, hib, hl, hI⟩
    have : i = b := by
      rcases Nat.lt_or_ge i b with h' | h'
      · obtain ⟨n, hn⟩ : ∃ n, b - i = n + 1 := ⟨b - i - 1, by omega⟩
        rw [hn, List.range'_succ] at hl; simp at hl
      · omega
    subst this; exact fin _ _ hI
theorem tuple_indexM (l : Addr) (items : Array Value) (n : Nat) (dd : Option Addr) (sl : Array (Option Value)) (x : Value) (e : Value → Bool) (j : Nat) (hj : j < items.size) (hit : e items[j] = true) (hno : ∀ m (hm : m < items.size), m < j → e items[m] = false) :
    Meets (Builtin.«tuple.index» ⟨[.ref l, x], []⟩)
      (fun A R s => s.heap.get? l = some { cls := .type "tuple", dict := dd, data := .seq items n, slots := sl } ∧ (∀ y, y ∈ items → SeqAt.EqAt A.in1 s y x (e y)) ∧ R (.ok (.ret (.int j s.toks))) { s with toks := s.toks + 1 }) :=
  .of_wp fun prog w A R s h => by
    obtain ⟨hp, g, d, tk, os⟩ := s; obtain ⟨hl, he, h⟩ := h
    wp_walk using wpAny_loadPart' hl, wpAny_range0 _ (fun i b s' => b.1 = none ∧ s' = ⟨hp, g, d, tk, os⟩ ∧ i ≤ j) _
    case turn =>
      rintro i b s' hi ⟨hb, rfl, hij⟩
      have hi' : i < items.size := by simpa using hi
      rw [Array.getElem?_eq_getElem hi']
      refine wpAny_bind (he _ (Array.getElem_mem hi') prog w _ _ ?_)
      by_cases hlt : i < j
      · rw [hno i hi' hlt]
        wp_walk
        exact ⟨rfl, rfl, hlt⟩
      · have : i = j := by omega
        subst this
        rw [hit]
        wp_walk
        exact ⟨_, rfl, h⟩
    case fin =>
      rintro ⟨b1, b2⟩ s' ⟨hb, rfl, hij⟩
      simp only [Nat.min_self] at hij
      omega
    case h =>
      exact ⟨rfl, rfl, Nat.zero_le _⟩
theorem tuple_indexAt {prog : Program} {w : World} {A : Around} {E : Value → Shared → Prop} {s : Shared} {a : Addr} {items : Array Value} {x : Value} {e : Value → Bool} {j : Nat} {Q : Value → Shared → Prop} (ht : s.heap.IsTuple a items) (hj : j < items.size)
    (hit : e items[j] = true) (hno : ∀ m (hm : m < items.size), m < j → e items[m] = false) (he : ∀ y ∈ items, SeqAt.EqAt A.in1 s y x (e y)) (h : Q (.int j s.toks) { s with toks := s.toks + 1 }) : wpAny (model prog w) A (call (.builtin "tuple.index") [.ref a, x]) Q E s := by
  obtain ⟨⟨cls, dd, data, sl⟩, ho, hc, n, hd⟩ := id ht
  simp only at hc hd
  subst hc hd
  exact call_meets PySem.F.slot_tuple_index ⟨_, ho, rfl⟩ PySem.F.entry_tuple_index (PySem.F.args_tuple_index_2 _ _) (tuple_indexM a items n dd sl x e j hj hit hno) ⟨ho, he, h⟩
end
section
variable {X : Cx} {ρ : List Addr} {H : Hp} {S : Store}
noncomputable def tyNames : List String := ["NoneType", "bool", "int", "str", "tuple", "list", "dict"]
noncomputable def clNames : List String := ["bool", "int", "str", "tuple", "list", "dict"]
theorem kit_ok (K : PySem.W.Frag) : ∀ t ∈ tyNames, ∀ c ∈ clNames, PySem.W.kitOne K (.type t) (.type c) = some (isiD t c) := by
  intro t ht c hc
  simp only [tyNames, clNames, List.mem_cons, List.not_mem_nil, or_false] at ht hc
  rcases ht with rfl | rfl | rfl | rfl | rfl | rfl | rfl <;> rcases hc with rfl | rfl | rfl | rfl | rfl | rfl <;> kernel_rfl
noncomputable def rIs (K : PySem.W.Frag) (c : String) : List V → Hp → VK → Prop := fun xs H Q => ∃ ρ S d x t, RelS K ρ S H ∧ xs = [x, .ty c] ∧ RelD K ρ H d x ∧ tyD S d = some t ∧ Q (.bl (isiD t c)) H
theorem isi_ok {c : String} (hc : c ∈ clNames) : CallR X (.builtin "isinstance") (rIs X.K c) := by
  intro pins s σ H xs us Q I r ⟨ρ, S, d, x, t, rs, e, rd, ht, q⟩
  subst e
  obtain ⟨u, w, rfl, ru, rw'⟩ := vals2 r
  cases (show w = Value.type c from rw')
  have fin : ∀ tk, EP X pins σ Q (.bool (isiD t c)) { s with toks := tk } := fun tk => ⟨.bl _, H, I.tok _, rfl, q⟩
  cases d with
  | non => cases ht; cases rd.non_inv; cases ru; exact PySem.W.kia_one PySem.W.kitx_none I.kIn True.intro (kit_ok X.K _ (by decide) c hc) (fun z => nomatch z) fin
  | bl b => cases ht; cases rd.bl_inv; cases ru; exact PySem.W.kia_one PySem.W.kitx_bool I.kIn True.intro (kit_ok X.K _ (by decide) c hc) (fun z => nomatch z) fin
  | int b => cases ht; cases rd.int_inv; obtain ⟨tk, rfl⟩ := ru; exact PySem.W.kia_one PySem.W.kitx_int I.kIn True.intro (kit_ok X.K _ (by decide) c hc) (fun z => nomatch z) fin
  | str b => cases ht; cases rd.str_inv; obtain ⟨tk, rfl⟩ := ru; exact PySem.W.kia_one PySem.W.kitx_str I.kIn True.intro (kit_ok X.K _ (by decide) c hc) (fun z => nomatch z) fin
  | tup ds =>
    cases ht
    obtain ⟨a, ys, rfl, sq, _⟩ := rd.tup_inv
    cases ru
    obtain ⟨_, _, ⟨o, h1, h2, _⟩, _⟩ := I.tuple sq
    exact PySem.W.kia_one PySem.W.kitx_tuple I.kIn ⟨o, h1, h2⟩ (kit_ok X.K _ (by decide) c hc) (fun z => nomatch z) fin
  | loc l =>
    simp only [tyD] at ht
    split at ht
    · rename_i ds hs
      cases ht
      obtain ⟨a, ys, rfl, _, sq, _⟩ := rs.lst rd hs
      cases ru
      obtain ⟨_, _, ⟨o, n, h1, h2, _⟩, _⟩ := I.list (SqL.of (K := X.K) sq)
      exact PySem.W.kia_one PySem.W.kitx_list I.kIn ⟨o, h1, h2⟩ (kit_ok X.K _ (by decide) c hc) (fun z => nomatch z) fin
    · rename_i kvs hs
      obtain ⟨a, _, ho⟩ := rs.adr hs
      exact ho.elim
    · cases ht
  | kl ds => cases ht
  | kd ds => cases ht
noncomputable def primNm : Prim → String
  | .len => "len" | .abs => "abs" | .min2 => "min" | .max2 => "max" | .int1 => "int" | .str1 => "str" | .list1 => "list" | .tuple1 => "tuple" | .divmod => "divmod" | .all1 => "all" | .sum1 => "sum"
noncomputable def primTy : Prim → Bool
  | .int1 => true | .str1 => true | .list1 => true | .tuple1 => true
  | _ => false
noncomputable def primVal (p : Prim) : Value := if primTy p then .type (primNm p) else .builtin (primNm p)
theorem boot_prim (p : Prim) : bootBuiltins (Str.ofString (primNm p)) = some (primVal p) := by cases p <;> kernel_rfl
theorem name_prim (p : Prim) : Str.ofString (primNm p) ≠ "__name__" := by cases p <;> decide +kernel
theorem debug_prim (p : Prim) : (Str.ofString (primNm p) == ("__debug__" : Str)) = false := by cases p <;> decide +kernel
noncomputable def rP (K : PySem.W.Frag) (p : Prim) : List V → Hp → VK → Prop := fun xs H Q => ∃ ρ S ds d S', RelS K ρ S H ∧ RelDs K ρ H ds xs ∧ primD p ds S = .ok d S' ∧ Fin K ρ H d S' Q
theorem RelDs.one {K : PySem.W.Frag} {d : D} {xs : List V} (h : RelDs K ρ H [d] xs) : ∃ v, xs = [v] ∧ RelD K ρ H d v := by
  obtain ⟨v, vs, rfl, q, t⟩ := h.inv_cons
  cases t.inv_nil
  exact ⟨v, rfl, q⟩
theorem RelDs.two {K : PySem.W.Frag} {d e : D} {xs : List V} (h : RelDs K ρ H [d, e] xs) : ∃ v w, xs = [v, w] ∧ RelD K ρ H d v ∧ RelD K ρ H e w := by
  obtain ⟨v, vs, rfl, q, t⟩ := h.inv_cons
  obtain ⟨w, rfl, q'⟩ := t.one
  exact ⟨v, w, rfl, q, q'⟩
theorem allB_list : ∀ {ds : List D} {b : Bool}, allB ds = some b → ∃ bs : List Bool, ds = bs.map D.bl ∧ b = bs.all id
  | [], b, h => ⟨[], rfl, by simp only [allB] at h; cases h; rfl⟩
  | .bl c :: r, b, h => by
    simp only [allB, Option.map_eq_some_iff] at h
    obtain ⟨k, h, rfl⟩ := h
    obtain ⟨bs, rfl, rfl⟩ := allB_list h
    exact ⟨c :: bs, rfl, by simp⟩
  | .non :: _, b, h => by simp [allB] at h
  | .int _ :: _, b, h => by simp [allB] at h
  | .str _ :: _, b, h => by simp [allB] at h
  | .tup _ :: _, b, h => by simp [allB] at h
  | .loc _ :: _, b, h => by simp [allB] at h
  | .kl _ :: _, b, h => by simp [allB] at h
  | .kd _ :: _, b, h => by simp [allB] at h
theorem sumI_list : ∀ {ds : List D} {b : Int}, sumI ds = some b → ∃ bs : List Int, ds = bs.map D.int ∧ b = bs.sum
  | [], b, h => ⟨[], rfl, by simp only [sumI] at h; cases h; rfl⟩
  | .int c :: r, b, h => by
    simp only [sumI, Option.map_eq_some_iff] at h
    obtain ⟨k, h, rfl⟩ := h
    obtain ⟨bs, rfl, rfl⟩ := sumI_list h
    exact ⟨c :: bs, rfl, by simp⟩
  | .non :: _, b, h => by simp [sumI] at h
  | .bl _ :: _, b, h => by simp [sumI] at h
  | .str _ :: _, b, h => by simp [sumI] at h
  | .tup _ :: _, b, h => by simp [sumI] at h
  | .loc _ :: _, b, h => by simp [sumI] at h
  | .kl _ :: _, b, h => by simp [sumI] at h
  | .kd _ :: _, b, h => by simp [sumI] at h
theorem ints_at {K : PySem.W.Frag} {bs : List Int} {xs : List V} {us : List Value} (t : RelDs K ρ H (bs.map D.int) xs) (v : Vals xs us) {i : Nat} {u : Value} (h : us[i]? = some u) : ∃ tk, u = .int (bs.getD i 0) tk := by
  have hl : i < bs.length := by
    have := (List.getElem?_eq_some_iff.mp h).1
    have e1 := t.length
    have e2 := v.length
    rw [List.length_map] at e1
    omega
  obtain ⟨w, ew, rw'⟩ := t.get (show (bs.map D.int)[i]? = some (.int bs[i]) by rw [List.getElem?_map, List.getElem?_eq_getElem hl]; rfl)
  obtain ⟨u', eu, ru⟩ := v.get ew
  rw [h] at eu
  cases eu
  cases rw'.int_inv
  obtain ⟨tk, rfl⟩ := ru
  exact ⟨tk, by rw [List.getD_eq_getElem?_getD, List.getElem?_eq_getElem hl]; rfl⟩
theorem bools_at {K : PySem.W.Frag} {bs : List Bool} {xs : List V} {us : List Value} (t : RelDs K ρ H (bs.map D.bl) xs) (v : Vals xs us) {i : Nat} {u : Value} (h : us[i]? = some u) : u = .bool (bs.getD i true) := by
  have hl : i < bs.length := by
    have := (List.getElem?_eq_some_iff.mp h).1
    have e1 := t.length
    have e2 := v.length
    rw [List.length_map] at e1
    omega
  obtain ⟨w, ew, rw'⟩ := t.get (show (bs.map D.bl)[i]? = some (.bl bs[i]) by rw [List.getElem?_map, List.getElem?_eq_getElem hl]; rfl)
  obtain ⟨u', eu, ru⟩ := v.get ew
  rw [h] at eu
  cases eu
  cases rw'.bl_inv
  cases ru
  rw [List.getD_eq_getElem?_getD, List.getElem?_eq_getElem hl]
  rfl
theorem range_all (bs : List Bool) : (List.range bs.length).all (fun i => bs.getD i true) = bs.all id := by
  induction bs with
  | nil => rfl
  | cons b r ih =>
    rw [List.length_cons, List.range_succ_eq_map, List.all_cons, List.all_cons, List.all_map, ← ih]
    congr 1
theorem call_all_seq (hc : X.calm = true) : CallR X (.builtin "all") (fun xs H Q => ∃ ρ S d ds b, RelS X.K ρ S H ∧ ∃ x, xs = [x] ∧ RelD X.K ρ H d x ∧ seqOf S d = some ds ∧ allB ds = some b ∧ Q (.bl b) H) := by
  intro pins s σ H xs us Q I r ⟨ρ, S, d, ds, b, rs, x, e, rd, hs, hb, q⟩
  subst e
  obtain ⟨u, rfl, ru⟩ := vals1 r
  obtain ⟨bs, rfl, rfl⟩ := allB_list hb
  obtain ⟨a, ys, rfl, sq, t⟩ := rs.seq rd hs
  cases ru
  have hh : X.A.in1.handled = none := I.ok.hd hc
  rcases sq with sq | sq
  · obtain ⟨its, vv, pl, _⟩ := I.list sq
    have hne : a ≠ s.heap.objs.size := Nat.ne_of_lt pl.lt
    have hsz : its.toArray.size = bs.length := by rw [List.size_toArray, ← vv.length, ← t.length, List.length_map]
    refine call_all_walk (wpAny_pyIter_list pl.isList ?_)
    refine ⟨_, _, _, _, _, _, fun i => bs.getD i true, rfl, Walks.list (A := X.A.in1) hh s.heap.objs.size a hne its.toArray, ⟨⟨_, Heap.get?_push_size _ rfl, rfl, rfl⟩, (pl.keeps fun b o e => Heap.get?_push_of_some _ e).isList⟩, ?_, fun h' tk hk => ?_⟩
    · intro i v s' Q' E' hP hQ
      have hP : its.toArray[i]? = some v := hP
      have ev : v = .bool (bs.getD i true) := bools_at t vv (by simpa using hP)
      subst ev
      exact wpAny_truthy_bool hQ
    · rw [hsz, range_all]
      refine ⟨.bl _, H, I.kept (t' := tk) fun b o e => hk b o ?_ (Heap.get?_push_of_some _ e), rfl, q⟩
      simp only [List.mem_singleton]
      exact Nat.ne_of_lt (Heap.lt_size e)
  · obtain ⟨its, vv, pl, _⟩ := I.tuple sq
    have pl' : s.heap.IsTuple a its.toArray := pl
    have hne : a ≠ s.heap.objs.size := Nat.ne_of_lt (by obtain ⟨o, e, _⟩ := pl; exact Heap.lt_size e)
    have hsz : its.toArray.size = bs.length := by rw [List.size_toArray, ← vv.length, ← t.length, List.length_map]
    refine call_all_walk (wpAny_pyIter_tuple pl' ?_)
    refine ⟨_, _, _, _, _, _, fun i => bs.getD i true, rfl, Walks.tuple (A := X.A.in1) hh s.heap.objs.size a hne its.toArray, ⟨⟨_, Heap.get?_push_size _ rfl, rfl, rfl⟩, (let ⟨o, e, c⟩ := pl'; ⟨o, Heap.get?_push_of_some _ e, c⟩)⟩, ?_, fun h' tk hk => ?_⟩
    · intro i v s' Q' E' hP hQ
      have hP : its.toArray[i]? = some v := hP
      have ev : v = .bool (bs.getD i true) := bools_at t vv (by simpa using hP)
      subst ev
      exact wpAny_truthy_bool hQ
    · rw [hsz, range_all]
      refine ⟨.bl _, H, I.kept (t' := tk) fun b o e => hk b o ?_ (Heap.get?_push_of_some _ e), rfl, q⟩
      simp only [List.mem_singleton]
      exact Nat.ne_of_lt (Heap.lt_size e)
theorem preSum_all (bs : List Int) : preSum (fun i => bs.getD i 0) bs.length = bs.sum := by
  rw [PyProof.Rows.preSum_getD, List.take_length]
theorem call_sum_seq (hc : X.calm = true) : CallR X (.builtin "sum") (fun xs H Q => ∃ ρ S d ds b, RelS X.K ρ S H ∧ ∃ x, xs = [x] ∧ RelD X.K ρ H d x ∧ seqOf S d = some ds ∧ sumI ds = some b ∧ Q (.int b) H) := by
  intro pins s σ H xs us Q I r ⟨ρ, S, d, ds, b, rs, x, e, rd, hs, hb, q⟩
  subst e
  obtain ⟨u, rfl, ru⟩ := vals1 r
  obtain ⟨bs, rfl, rfl⟩ := sumI_list hb
  obtain ⟨a, ys, rfl, sq, t⟩ := rs.seq rd hs
  cases ru
  have hh : X.A.in1.handled = none := I.ok.hd hc
  have done : ∀ (I0 : Addr) (s' : Shared) (t' : Tok), I0 = s.heap.objs.size → ∀ o : PySem.Obj, Moved [I0] (fun a b => b = a) { s with heap := s.heap.push o } s' → EP X pins σ Q (.int bs.sum t') s' := fun I0 s' t' e0 o hm => by
    subst e0
    obtain ⟨h', g', d', tk, os'⟩ := s'
    have e1 : g' = s.gens := hm.gens
    have e2 : d' = s.drawn := hm.drawn
    have e3 : os' = s.os := hm.os
    subst e1 e2 e3
    refine ⟨.int bs.sum, H, I.kept (t' := tk) fun b o e => hm.heap b o ?_ (Heap.get?_push_of_some _ e), ⟨t', rfl⟩, q⟩
    simp only [List.mem_singleton]
    exact Nat.ne_of_lt (Heap.lt_size e)
  rcases sq with sq | sq
  · obtain ⟨its, vv, pl, _⟩ := I.list sq
    have hne : a ≠ s.heap.objs.size := Nat.ne_of_lt pl.lt
    have hsz : its.toArray.size = bs.length := by rw [List.size_toArray, ← vv.length, ← t.length, List.length_map]
    refine call_sum_walkAnyS (wpAny_pyIter_list pl.isList ?_)
    refine ⟨_, _, _, _, _, _, _, fun i => bs.getD i 0, rfl, (Walks.list (A := X.A.in1) hh s.heap.objs.size a hne its.toArray).toS, ⟨⟨_, Heap.get?_push_size _ rfl, rfl, rfl⟩, (pl.keeps fun b o e => Heap.get?_push_of_some _ e).isList⟩, ?_, ?_, fun s' t' hm => ?_⟩
    · intro b hb
      show b < (s.heap.push _).objs.size
      rw [Heap.size_push]
      simp only [List.mem_cons, List.not_mem_nil, or_false] at hb
      rcases hb with rfl | rfl
      · exact Nat.lt_succ_self _
      · exact Nat.lt_succ_of_lt pl.lt
    · intro i v hP
      have hP : its.toArray[i]? = some v := hP
      exact ints_at t vv (by simpa using hP)
    · rw [hsz, preSum_all]
      exact done _ s' t' rfl _ hm
  · obtain ⟨its, vv, pl, _⟩ := I.tuple sq
    have pl' : s.heap.IsTuple a its.toArray := pl
    have lt : a < s.heap.objs.size := by obtain ⟨o, e, _⟩ := pl; exact Heap.lt_size e
    have hne : a ≠ s.heap.objs.size := Nat.ne_of_lt lt
    have hsz : its.toArray.size = bs.length := by rw [List.size_toArray, ← vv.length, ← t.length, List.length_map]
    refine call_sum_walkAnyS (wpAny_pyIter_tuple pl' ?_)
    refine ⟨_, _, _, _, _, _, _, fun i => bs.getD i 0, rfl, (Walks.tuple (A := X.A.in1) hh s.heap.objs.size a hne its.toArray).toS, ⟨⟨_, Heap.get?_push_size _ rfl, rfl, rfl⟩, (let ⟨o, e, c⟩ := pl'; ⟨o, Heap.get?_push_of_some _ e, c⟩)⟩, ?_, ?_, fun s' t' hm => ?_⟩
    · intro b hb
      show b < (s.heap.push _).objs.size
      rw [Heap.size_push]
      simp only [List.mem_cons, List.not_mem_nil, or_false] at hb
      rcases hb with rfl | rfl
      · exact Nat.lt_succ_self _
      · exact Nat.lt_succ_of_lt lt
    · intro i v hP
      have hP : its.toArray[i]? = some v := hP
      exact ints_at t vv (by simpa using hP)
    · rw [hsz, preSum_all]
      exact done _ s' t' rfl _ hm
theorem call_divmodB : CallR X (.builtin "divmod") (fun xs H Q => ∃ i j, xs = [.int i, .int j] ∧ (0 < j ∧ j.natAbs < 2 ^ 4096) ∧ ∀ p, H p = none → Q (.ref p) (upd H p (.tup [.int (i / j), .int (i % j)]))) := by
  intro pins s σ H xs us Q I r h
  obtain ⟨i, j, rfl, ⟨h1, h2⟩, q⟩ := h
  obtain ⟨u, w', rfl, ⟨t, rfl⟩, ⟨t', rfl⟩⟩ := vals2 r
  refine PyProof.Rows.divmod_int (by omega) ?_ (.inl (PyProof.noPylong_of_log2 (log2_of h2)))
  rw [Int.fdiv_eq_ediv_of_nonneg i (by omega), Int.fmod_eq_emod_of_nonneg i (by omega)]
  have hn : H s.heap.objs.size = none := I.hok.fresh (Nat.le_refl _)
  refine ⟨.ref s.heap.objs.size, _, ?_, rfl, q _ hn⟩
  refine I.laid (fun b o e => Heap.get?_push_of_some _ e) (Nat.le_refl _) ⟨by simp only [List.length_cons, List.length_nil]; rw [sizeLine_eq]; decide, [.int (i / j) s.toks, .int (i % j) (s.toks + 1)], .cons ⟨_, rfl⟩ (.cons ⟨_, rfl⟩ .nil), ?_⟩
  exact ⟨_, Heap.get?_push_size s.heap rfl, rfl, 0, rfl⟩
theorem log2_str {n : Nat} (h : n < 2 ^ 1900) : n.log2 < 1920 := by
  by_cases z : n = 0
  · subst z; decide +kernel
  · have := (Nat.log2_lt z).mpr h
    omega
theorem bad_ne {α : Type} {d : α} {S : Store} : ¬ (Res.bad : Res α) = .ok d S := nofun
theorem prim_ok (p : Prim) (hc : X.calm = true) : CallR X (primVal p) (rP X.K p) := by
  intro pins s σ H xs us Q I r ⟨ρ, S, ds, d, S', rs, rd, e, fin⟩
  cases p with
  | len =>
    rcases ds with _ | ⟨x, _ | ⟨y, ds⟩⟩ <;> try (first | exact absurd e bad_ne | (cases x <;> exact absurd e bad_ne) | (cases x <;> first | exact absurd e bad_ne | (cases y <;> exact absurd e bad_ne)))
    all_goals simp only [primD] at e
    obtain ⟨v, rfl, rv⟩ := rd.one
    split at e
    · rename_i es hs
      cases e
      obtain ⟨a, ys, rfl, sq, t⟩ := rs.seq rv hs
      refine call_len_seq pins s σ H _ us Q I r ⟨a, ys, rfl, sq, ?_⟩
      rw [← t.length]
      exact fin.now rs (RelD.int _)
    · split at e
      · split at e
        · rename_i hl
          cases e
          cases rv.str_inv
          exact call_len_str pins s σ H _ us Q I r ⟨_, rfl, by rw [← line_eq]; exact hl, fin.now rs (RelD.int _)⟩
        · cases e
      · cases e
  | abs =>
    rcases ds with _ | ⟨x, _ | ⟨y, ds⟩⟩ <;> try (first | exact absurd e bad_ne | (cases x <;> exact absurd e bad_ne) | (cases x <;> first | exact absurd e bad_ne | (cases y <;> exact absurd e bad_ne)))
    cases x <;> try (exact absurd e bad_ne)
    all_goals simp only [primD] at e
    cases e
    obtain ⟨v, rfl, rv⟩ := rd.one
    cases rv.int_inv
    exact call_abs pins s σ H _ us Q I r ⟨_, rfl, fin.now rs (RelD.int _)⟩
  | max2 =>
    rcases ds with _ | ⟨x, _ | ⟨y, _ | ⟨z, ds⟩⟩⟩ <;> try (first | exact absurd e bad_ne | (cases x <;> exact absurd e bad_ne) | (cases x <;> first | exact absurd e bad_ne | (cases y <;> exact absurd e bad_ne)))
    cases x <;> cases y <;> try (exact absurd e bad_ne)
    all_goals simp only [primD] at e
    cases e
    obtain ⟨v, w, rfl, rv, rw'⟩ := rd.two
    cases rv.int_inv; cases rw'.int_inv
    exact call_max2 hc pins s σ H _ us Q I r ⟨_, _, rfl, fin.now rs (RelD.int _)⟩
  | min2 =>
    rcases ds with _ | ⟨x, _ | ⟨y, _ | ⟨z, ds⟩⟩⟩ <;> try (first | exact absurd e bad_ne | (cases x <;> exact absurd e bad_ne) | (cases x <;> first | exact absurd e bad_ne | (cases y <;> exact absurd e bad_ne)))
    cases x <;> cases y <;> try (exact absurd e bad_ne)
    all_goals simp only [primD] at e
    cases e
    obtain ⟨v, w, rfl, rv, rw'⟩ := rd.two
    cases rv.int_inv; cases rw'.int_inv
    exact call_min2 hc pins s σ H _ us Q I r ⟨_, _, rfl, fin.now rs (RelD.int _)⟩
  | int1 =>
    rcases ds with _ | ⟨x, _ | ⟨y, ds⟩⟩ <;> try (first | exact absurd e bad_ne | (cases x <;> exact absurd e bad_ne) | (cases x <;> first | exact absurd e bad_ne | (cases y <;> exact absurd e bad_ne)))
    obtain ⟨v, rfl, rv⟩ := rd.one
    cases x <;> try (exact absurd e bad_ne)
    all_goals simp only [primD] at e
    · cases e
      cases rv.bl_inv
      exact call_int1 pins s σ H _ us Q I r (.inr ⟨_, rfl, fin.now rs (RelD.int _)⟩)
    · cases e
      cases rv.int_inv
      exact call_int1 pins s σ H _ us Q I r (.inl ⟨_, rfl, fin.now rs (RelD.int _)⟩)
  | str1 =>
    rcases ds with _ | ⟨x, _ | ⟨y, ds⟩⟩ <;> try (first | exact absurd e bad_ne | (cases x <;> exact absurd e bad_ne) | (cases x <;> first | exact absurd e bad_ne | (cases y <;> exact absurd e bad_ne)))
    obtain ⟨v, rfl, rv⟩ := rd.one
    cases x <;> try (exact absurd e bad_ne)
    all_goals simp only [primD] at e
    split at e
    · rename_i hl
      cases e
      cases rv.int_inv
      exact call_str_int pins s σ H _ us Q I r ⟨_, rfl, log2_str hl, fin.now rs (RelD.str _)⟩
    · cases e
  | list1 =>
    rcases ds with _ | ⟨x, _ | ⟨y, ds⟩⟩ <;> try (first | exact absurd e bad_ne | (cases x <;> exact absurd e bad_ne) | (cases x <;> first | exact absurd e bad_ne | (cases y <;> exact absurd e bad_ne)))
    all_goals simp only [primD] at e
    obtain ⟨v, rfl, rv⟩ := rd.one
    split at e
    · rename_i es hs
      cases e
      obtain ⟨a, ys, rfl, sq, t⟩ := rs.seq rv hs
      exact call_list_of pins s σ H _ us Q I r ⟨a, ys, rfl, sq, fin.newL rs t⟩
    · cases e
  | tuple1 =>
    rcases ds with _ | ⟨x, _ | ⟨y, ds⟩⟩ <;> try (first | exact absurd e bad_ne | (cases x <;> exact absurd e bad_ne) | (cases x <;> first | exact absurd e bad_ne | (cases y <;> exact absurd e bad_ne)))
    all_goals simp only [primD] at e
    obtain ⟨v, rfl, rv⟩ := rd.one
    split at e
    · rename_i es hs
      cases e
      obtain ⟨a, ys, rfl, sq, t⟩ := rs.seq rv hs
      refine call_tuple_of pins s σ H _ us Q I r ⟨a, ys, rfl, ?_⟩
      rcases sq with sq | sq
      · exact .inl ⟨sq, fin.newT rs t⟩
      · exact .inr ⟨sq, fin.now rs (by simp only [RelD]; exact ⟨a, ys, rfl, sq, t⟩)⟩
    · cases e
  | divmod =>
    rcases ds with _ | ⟨x, _ | ⟨y, _ | ⟨z, ds⟩⟩⟩ <;> try (first | exact absurd e bad_ne | (cases x <;> exact absurd e bad_ne) | (cases x <;> first | exact absurd e bad_ne | (cases y <;> exact absurd e bad_ne)))
    cases x <;> cases y <;> try (exact absurd e bad_ne)
    all_goals simp only [primD] at e
    split at e
    · rename_i hl
      cases e
      obtain ⟨v, w, rfl, rv, rw'⟩ := rd.two
      cases rv.int_inv; cases rw'.int_inv
      exact call_divmodB pins s σ H _ us Q I r ⟨_, _, rfl, hl, fin.newT rs (RelDs.cons (RelD.int _) (RelDs.cons (RelD.int _) RelDs.nil))⟩
    · cases e
  | all1 =>
    rcases ds with _ | ⟨x, _ | ⟨y, ds⟩⟩ <;> try (first | exact absurd e bad_ne | (cases x <;> exact absurd e bad_ne) | (cases x <;> first | exact absurd e bad_ne | (cases y <;> exact absurd e bad_ne)))
    all_goals simp only [primD] at e
    obtain ⟨v, rfl, rv⟩ := rd.one
    split at e
    · rename_i es hs
      split at e
      · rename_i b hb
        cases e
        exact call_all_seq hc pins s σ H _ us Q I r ⟨ρ, S, x, es, b, rs, v, rfl, rv, hs, hb, fin.now rs (RelD.bl _)⟩
      · cases e
    · cases e
  | sum1 =>
    rcases ds with _ | ⟨x, _ | ⟨y, ds⟩⟩ <;> try (first | exact absurd e bad_ne | (cases x <;> exact absurd e bad_ne) | (cases x <;> first | exact absurd e bad_ne | (cases y <;> exact absurd e bad_ne)))
    all_goals simp only [primD] at e
    obtain ⟨v, rfl, rv⟩ := rd.one
    split at e
    · rename_i es hs
      split at e
      · rename_i b hb
        cases e
        exact call_sum_seq hc pins s σ H _ us Q I r ⟨ρ, S, x, es, b, rs, v, rfl, rv, hs, hb, fin.now rs (RelD.int _)⟩
      · cases e
    · cases e
noncomputable def methNm : Meth → String
  | .append => "append" | .pop0 => "pop" | .reverse => "reverse" | .index => "index" | .get2 => "get" | .indexT => "index"
noncomputable def methId : Meth → String
  | .append => "list.append" | .pop0 => "list.pop" | .reverse => "list.reverse" | .index => "list.index" | .get2 => "dict.get" | .indexT => "tuple.index"
noncomputable def rM (K : PySem.W.Frag) (p : Meth) : V → List V → Hp → VK → Prop := fun x xs H Q => ∃ ρ S o ds d S', RelS K ρ S H ∧ RelD K ρ H o x ∧ RelDs K ρ H ds xs ∧ methD p o ds S = .ok d S' ∧ Fin K ρ H d S' Q
theorem idxEq_at {pins : List (Addr × PySem.Obj)} {σ : L2.St} {s : Shared} (I : Inv X pins σ H s) (r : RelS X.K ρ S H) {x : D} {vx : V} {w : Value} (hx : RelD X.K ρ H x vx) (rx : RelV vx w) {ds : List D} {xs : List V} {us : List Value} {j : Nat}
    (t : RelDs X.K ρ H ds xs) (v : Vals xs us) (e : idxEq S x ds = some j) : ∃ e : Value → Bool, ∃ hj : j < us.length, e us[j] = true ∧ (∀ m (hm : m < us.length), m < j → e us[m] = false) ∧ ∀ A : Around, A.units < cLine → ∀ u ∈ us, SeqAt.EqAt A s u w (e u) := by
  unfold idxEq at e
  split at e
  · rename_i hall
    rw [List.all_eq_true] at hall
    classical
    let ev : Value → Bool := fun u => decide (∃ d z, RelD X.K ρ H d z ∧ RelV z u ∧ eqD S 0 d x = some true)
    have one : ∀ {d : D} {v : V} {u : Value} {b : Bool}, RelD X.K ρ H d v → RelV v u → eqD S 0 d x = some b → ev u = b := fun {d v u b} h r1 e => by
      cases b with
      | true => exact decide_eq_true ⟨d, v, h, r1, e⟩
      | false =>
        refine decide_eq_false ?_
        rintro ⟨d', v', h', r2, e'⟩
        cases r1.inj r2
        rw [RelD.inj I r h h', e'] at e
        cases e
    have at' : ∀ (m : Nat) (hm : m < us.length), ∃ d z, ds[m]? = some d ∧ RelD X.K ρ H d z ∧ RelV z us[m] := fun m hm => by
      have l1 : m < ds.length := by rw [t.length, v.length]; exact hm
      obtain ⟨z, e1, q1⟩ := t.get (List.getElem?_eq_getElem l1)
      obtain ⟨u', e2, q2⟩ := v.get e1
      obtain ⟨_, e3⟩ := List.getElem?_eq_some_iff.mp e2
      exact ⟨_, z, List.getElem?_eq_getElem l1, q1, by rw [e3]; exact q2⟩
    obtain ⟨hj, h1, h2⟩ := List.findIdx?_eq_some_iff_getElem.mp e
    have hj' : j < us.length := by rw [← v.length, ← t.length]; exact hj
    refine ⟨ev, hj', ?_, fun m hm hlt => ?_, fun A hA u hu => ?_⟩
    · obtain ⟨d, z, e1, q1, q2⟩ := at' j hj'
      rw [List.getElem?_eq_getElem hj] at e1
      cases e1
      exact one q1 q2 (by simpa using h1)
    · obtain ⟨d, z, e1, q1, q2⟩ := at' m hm
      have hm' : m < ds.length := by omega
      have := h2 m hlt
      rw [List.getElem?_eq_getElem hm'] at e1
      cases e1
      obtain ⟨b, hb⟩ := Option.isSome_iff_exists.mp (hall _ (List.getElem_mem hm'))
      rw [one q1 q2 hb]
      rw [hb] at this
      cases b
      · rfl
      · simp at this
    · obtain ⟨m, hm, rfl⟩ := List.getElem_of_mem hu
      obtain ⟨d, z, e1, q1, q2⟩ := at' m hm
      obtain ⟨b, hb⟩ := Option.isSome_iff_exists.mp (hall _ (List.mem_of_getElem? e1))
      rw [one q1 q2 hb]
      exact (eqD_at I r 0 (by simpa using hA) q1 hx q2 rx hb).eq
  · cases e
theorem meth_ok (p : Meth) (hu : X.A.units + 64 < cLine) : MtR X (methId p) (rM X.K p) := by
  intro pins s σ H x xs v us Q I rx rvs ⟨ρ, S, o, ds, d, S', rs, ro, rd, e, fin⟩
  cases p with
  | append =>
    cases o <;> rcases ds with _ | ⟨y, _ | ⟨z, ds⟩⟩ <;> try (exact absurd e bad_ne)
    all_goals simp only [methD] at e
    split at e
    · rename_i ys hy
      split at e
      · rename_i hl
        cases e
        obtain ⟨a, zs, rfl, ha, q, t⟩ := rs.lst ro hy
        obtain ⟨w, rfl, rw'⟩ := rd.one
        exact mt_append pins s σ H _ _ v us Q I rx rvs ⟨a, zs, w, rfl, rfl, q, by rw [← t.length, ← line_eq]; exact hl, fin ρ _ _ (fut_set q) (rs.set ha q (t.append (RelDs.cons rw' RelDs.nil))) RelD.non⟩
      · cases e
    · cases e
  | pop0 =>
    cases o <;> rcases ds with _ | ⟨y, ds⟩ <;> try (exact absurd e bad_ne)
    all_goals simp only [methD] at e
    split at e
    · rename_i ys hy
      split at e
      · rename_i z hz
        cases e
        obtain ⟨a, zs, rfl, ha, q, t⟩ := rs.lst ro hy
        cases rd.inv_nil
        obtain ⟨w, ew, rw'⟩ := t.get hz
        refine mt_pop pins s σ H _ _ v us Q I rx rvs ⟨a, zs, w, rfl, rfl, q, by rw [← t.length]; exact ew, fin ρ _ _ (fut_set q) (rs.set ha q t.dropLast) (rw'.fut (fut_set q))⟩
      · cases e
    · cases e
  | reverse =>
    cases o <;> rcases ds with _ | ⟨y, ds⟩ <;> try (exact absurd e bad_ne)
    all_goals simp only [methD] at e
    split at e
    · rename_i ys hy
      cases e
      obtain ⟨a, zs, rfl, ha, q, t⟩ := rs.lst ro hy
      cases rd.inv_nil
      exact mt_reverse pins s σ H _ _ v us Q I rx rvs ⟨a, zs, rfl, rfl, q, fin ρ _ _ (fut_set q) (rs.set ha q t.reverse) RelD.non⟩
    · cases e
  | index =>
    cases o <;> rcases ds with _ | ⟨y, _ | ⟨z, ds⟩⟩ <;> try (exact absurd e bad_ne)
    all_goals simp only [methD] at e
    split at e
    · rename_i ys hy
      split at e
      · rename_i hl
        split at e
        · rename_i j hj
          cases e
          obtain ⟨a, zs, rfl, ha, q, t⟩ := rs.lst ro hy
          obtain ⟨vy, rfl, rw'⟩ := rd.one
          obtain ⟨u, rfl, ru⟩ := vals1 rvs
          cases rx
          obtain ⟨its, vv, pl, _⟩ := I.list (SqL.of q)
          obtain ⟨ev, hk, e1, e2, e3⟩ := idxEq_at I rs rw' ru t vv hj
          obtain ⟨⟨cls, dd, data, sl⟩, ho, hc, n, hd⟩ := id pl.isList
          simp only at hc hd
          subst hc hd
          have hsm : (j : Int) < 2 ^ 63 - 1 := by
            have h1 := vv.length
            have h2 := t.length
            unfold Line at hl
            omega
          exact call_meets PySem.F.slot_list_index ⟨_, ho, rfl⟩ PySem.F.entry_list_index (PySem.F.args_list_index_2 _ _) (SeqAt.list_indexAt a its.toArray n dd sl u ev j (by simpa using hk) hsm (by simpa using e1) (fun m hm hlt => by simpa using e2 m (by simpa using hm) hlt)) ⟨ho, fun y hy => e3 _ (by rw [in1_units]; omega) y (by simpa using hy), ⟨.int j, H, I.tok _, ⟨_, rfl⟩, fin.now rs (RelD.int _)⟩⟩
        · cases e
      · cases e
    · cases e
  | indexT =>
    cases o <;> rcases ds with _ | ⟨y, _ | ⟨z, ds⟩⟩ <;> try (exact absurd e bad_ne)
    all_goals simp only [methD] at e
    split at e
    · split at e
      · rename_i j hj
        cases e
        obtain ⟨a, zs, rfl, q, t⟩ := ro.tup_inv
        obtain ⟨vy, rfl, rw'⟩ := rd.one
        obtain ⟨u, rfl, ru⟩ := vals1 rvs
        cases rx
        obtain ⟨its, vv, pl, _⟩ := I.tuple q
        obtain ⟨ev, hk, e1, e2, e3⟩ := idxEq_at I rs rw' ru t vv hj
        exact tuple_indexAt (show s.heap.IsTuple a its.toArray from pl) (by simpa using hk) (by simpa using e1) (fun m hm hlt => by simpa using e2 m (by simpa using hm) hlt) (fun y hy => e3 _ (by rw [in1_units]; omega) y (by simpa using hy)) ⟨.int j, H, I.tok _, ⟨_, rfl⟩, fin.now rs (RelD.int _)⟩
      · cases e
    · cases e
  | get2 =>
    cases o <;> rcases ds with _ | ⟨x0, _ | ⟨y, _ | ⟨z, ds⟩⟩⟩ <;> try (first | exact absurd e bad_ne | (cases x0 <;> exact absurd e bad_ne))
    cases x0 <;> try (exact absurd e bad_ne)
    simp only [methD] at e
    cases e
    rename_i kvs k
    obtain ⟨a, rfl, kd⟩ := ro.kd_inv
    obtain ⟨v1, v2, rfl, r1, r2⟩ := rd.two
    obtain ⟨u1, u2, rfl, q1, q2⟩ := vals2 rvs
    cases rx
    cases r1.str_inv
    obtain ⟨tk, rfl⟩ := q1
    have T := kd.text I.kIn
    refine PyProof.Rows.KTD.get2_text (h₀ := s.heap) (D := kvs.map fun p => (p.1, PyProof.Rows.KTD.Dat.flat (.int p.2))) ⟨T, fun _ _ z => z⟩ ?_
    clear T kd
    have main : ∀ (kvs : List (Str × Int)) , (∀ n tk', kvs.lookup k = some n → EP X pins σ Q (.int n tk') { s with toks := s.toks + 1 }) → (kvs.lookup k = none → EP X pins σ Q u2 { s with toks := s.toks + 1 }) →
        PyProof.Rows.KTD.Each s.heap k (fun v => EP X pins σ Q v { s with toks := s.toks + 1 }) (EP X pins σ Q u2 { s with toks := s.toks + 1 }) (kvs.map fun p => (p.1, PyProof.Rows.KTD.Dat.flat (.int p.2))) := by
      intro kvs
      induction kvs with
      | nil => intro _ h2; exact PyProof.Rows.KTD.each_nil (h2 rfl)
      | cons p r ih =>
        obtain ⟨y, n⟩ := p
        intro h1 h2
        by_cases hy : k = y
        · subst hy
          exact PyProof.Rows.KTD.each_hit rfl (PyProof.Rows.KTD.opened_int fun t => h1 n t (by simp))
        · have hb : (k == y) = false := by simpa using hy
          exact PyProof.Rows.KTD.each_miss hy (ih (fun n tk' e => h1 n tk' (by simp only [List.lookup_cons, hb]; exact e)) fun e => h2 (by simp only [List.lookup_cons, hb]; exact e))
    refine main kvs (fun n tk' en => ?_) (fun en => ?_)
    · rw [en] at fin
      exact ⟨.int n, H, I.tok _, ⟨_, rfl⟩, fin.now rs (RelD.int _)⟩
    · rw [en] at fin
      exact ⟨_, H, I.tok _, q2, fin.now rs r2⟩
end
end Mi

namespace Mi
open PySem L2

structure Ck where
  N : List Str
  names : List (Str × NameKind)
  fn : Bool
  B : List String
  F : List String
noncomputable def dbg (x : Str) : Bool := !(x == ("__debug__" : Str)) && !(x == ("__classdict__" : Str))
noncomputable def Ck.vis (c : Ck) (x : Str) : Bool := c.names.lookup x == some .local || c.names.lookup x == some .cell || c.names.lookup x == some .free
noncomputable def Ck.own (c : Ck) (x : Str) : Bool := if c.fn then c.names.lookup x == some .local || c.names.lookup x == some .cell else c.names.lookup x == some .local
noncomputable def Ck.gl (c : Ck) (x : Str) : Bool := c.names.lookup x == some .globalImplicit
noncomputable def relab (inner outer : List (Str × NameKind)) : List (Str × NameKind) := inner.map fun (n, k) => if (k == .free && outer.lookup n == some .cell) then (n, .cell) else (n, k)
noncomputable def Ck.inner (c : Ck) (N : List String) (scope : Scope) : Ck := { c with N := N.map Str.ofString, names := relab scope.names c.names, fn := false }
noncomputable def Ck.comp (c : Ck) (N : List String) (k : Nat) (keep : List Nat) (scope : Scope) : Bool :=
  scope.kind == .function && scope.names.all (fun y => y.2 != .cell) && scope.names.all (fun y => y.2 != .local || scope.names.lookup y.1 == some .local)
    && scope.names.all (fun y => y.2 != .free || c.names.lookup y.1 == some .cell || c.names.lookup y.1 == some .free)
    && N.length == k + keep.length && decide ((N.map Str.ofString).Nodup)
    && (List.range keep.length).all (fun j => match keep[j]?, (N.map Str.ofString)[k + j]? with
      | some i, some x => c.N[i]? == some x && scope.names.lookup x == some .free
      | _, _ => false)
noncomputable def isCall0 : Expr → Bool
  | .Call _ [] [] _ => true
  | _ => false
noncomputable def isComp : Expr → Bool
  | .ListComp .. => true | .SetComp .. => true | .DictComp .. => true
  | _ => false
noncomputable def tgOwn (k : Nat) : M → Bool
  | .tvar i => decide (i < k)
  | .ttup ts => tgOwn k ts
  | .nul => true
  | .cns a b => tgOwn k a && tgOwn k b
  | _ => false
noncomputable def okRecv : Meth → M → Bool
  | .indexT, .glb _ => true
  | .indexT, _ => false
  | _, _ => true
noncomputable def constIs : Cop → Expr → Bool
  | .isc, .Constant .none _ _ => true
  | .isc, .Constant (.bool _) _ _ => true
  | .isc, _ => false
  | .isnc, .Constant .none _ _ => true
  | .isnc, .Constant (.bool _) _ _ => true
  | .isnc, _ => false
  | _, .Set .. => false
  | _, _ => true
mutual
noncomputable def chkE : M → Ck → Expr → Bool
  | .cst .non, _, .Constant .none _ _ => true
  | .cst (.bl b), _, .Constant (.bool b') _ _ => b == b'
  | .cst (.int i), _, .Constant (.int j) _ _ => i == j
  | .cst (.str x), _, .Constant (.str y) _ _ => x == y
  | .var i, c, .Name x _ => c.N[i]? == some x && c.vis x && dbg x
  | .glb g, c, .Name x _ => Str.ofString g == x && c.gl x && dbg x
  | .bin o a b, c, .BinOp e p f _ => opOf o == p && chkE a c e && chkE b c f
  | .neg a, c, .UnaryOp .USub e _ => chkE a c e
  | .nott a, c, .UnaryOp .Not e _ => chkE a c e
  | .bo true as, c, .BoolOp .And es _ => chkA as c es
  | .bo false as, c, .BoolOp .Or es _ => chkA as c es
  | .cmp o a b, c, .Compare e [p] [f] _ => copOf o == p && chkE a c e && chkE b c f && constIs o f
  | .cmp2 o o' a b d, c, .Compare e [p, p'] [f, g] _ => copOf o == p && copOf o' == p' && chkE a c e && chkE b c f && chkE d c g && constIs o f && constIs o' g
  | .ife t a b, c, .IfExp x e f _ => chkE t c x && chkE a c e && chkE b c f
  | .tup as, c, .Tuple es _ _ => chkA as c es
  | .lst as, c, .List es _ => chkA as c es
  | .idx a b, c, .Subscript e f _ => chkE a c e && chkE b c f
  | .sli a lo hi, c, .Subscript e (.Slice l h none _) _ => chkE a c e && chkO lo c l && chkO hi c h
  | .call f as, c, .Call (.Name x _) es [] _ => Str.ofString f == x && c.gl x && dbg x && c.F.contains f && chkA as c es
  | .prim p as, c, .Call (.Name x _) (e :: es) [] _ => Str.ofString (primNm p) == x && c.gl x && c.B.contains (primNm p) && chkA as c (e :: es)
  | .isi a t, c, .Call (.Name x _) [e, .Name y _] [] _ => Str.ofString "isinstance" == x && Str.ofString t == y && c.gl x && c.gl y && c.B.contains "isinstance" && c.B.contains t && clNames.contains t && chkE a c e
  | .meth p o as, c, .Call (.Attribute e x ap) es [] cp => Str.ofString (methNm p) == x && !isCall0 e && ap.endLine == cp.line && decide (es.length < 20) && chkE o c e && chkA as c es && okRecv p o
  | .comp N k keep tg it cd el, c, .ListComp elt [⟨t, i, fs, asy⟩] scope _ => asy == 0 && c.comp N k keep scope && tgOwn k tg && chkG tg (c.inner N scope) t && chkI it c i && chkC cd (c.inner N scope) fs && chkE el (c.inner N scope) elt
  | _, _, _ => false
noncomputable def chkA : M → Ck → List Expr → Bool
  | .nul, _, [] => true
  | .cns a b, c, e :: es => chkE a c e && chkA b c es
  | _, _, _ => false
noncomputable def chkO : M → Ck → Option Expr → Bool
  | .nul, _, none => true
  | .cns a .nul, c, some e => chkE a c e
  | _, _, _ => false
noncomputable def chkC : M → Ck → List Expr → Bool
  | .nul, _, [] => true
  | .cns a .nul, c, [e] => chkE a c e
  | _, _, _ => false
noncomputable def chkI : M → Ck → Expr → Bool
  | .rng a, c, .Call (.Name x _) [e] [] _ => Str.ofString "range" == x && c.gl x && c.B.contains "range" && chkE a c e
  | .rng2 a b, c, .Call (.Name x _) [e, f] [] _ => Str.ofString "range" == x && c.gl x && c.B.contains "range" && chkE a c e && chkE b c f
  | .cns a .nul, c, e => chkE a c e
  | _, _, _ => false
noncomputable def chkG : M → Ck → Expr → Bool
  | .tvar i, c, .Name x _ => c.N[i]? == some x && c.own x
  | .ttup ts, c, .Tuple es _ _ => chkGs ts c es
  | .tsub a b, c, .Subscript e f _ => chkE a c e && chkE b c f
  | _, _, _ => false
noncomputable def chkGs : M → Ck → List Expr → Bool
  | .nul, _, [] => true
  | .cns a b, c, e :: es => chkG a c e && chkGs b c es
  | _, _, _ => false
noncomputable def chkS : M → Ck → Stmt → Bool
  | .asg t e, c, .Assign [tg] v _ => chkG t c tg && chkE e c v && (match tg, v with | .Tuple .., .Tuple .. => false | .Name .., _ => true | _, v => !isComp v)
  | .ifs t a b, c, .If x y z _ => chkE t c x && chkB a c y && chkB b c z
  | .forr t i b, c, .For tg it body [] _ => chkG t c tg && chkI i c it && chkB b c body
  | .whl t b, c, .While x body [] _ => chkE t c x && chkB b c body
  | .ret e, c, .Return (some v) _ => chkE e c v
  | .retN, _, .Return none _ => true
  | .exp e, c, .Expr v _ => chkE e c v && !isComp v
  | .pas, _, .Pass _ => true
  | .brk, _, .Break _ => true
  | .cnt, _, .Continue _ => true
  | .zipf t a b d, c, .For (.Tuple els kk tp) (.Call (.Name x _) [e, f] [] _) body [] _ => Str.ofString "zip" == x && c.gl x && c.B.contains "zip" && chkG t c (.Tuple els kk tp) && chkE a c e && chkE b c f && chkB d c body
  | _, _, _ => false
noncomputable def chkB : M → Ck → List Stmt → Bool
  | .nul, _, [] => true
  | .cns a b, c, s :: ss => chkS a c s && chkB b c ss
  | _, _, _ => false
end
theorem cE_0 : chkE (.cst .non) (u1') (.Constant .none u2' u3') = (true) := rfl
theorem cE_1 : chkE (.cst (.bl b)) (u1') (.Constant (.bool b') u2' u3') = (b == b') := rfl
theorem cE_2 : chkE (.cst (.int i)) (u1') (.Constant (.int j) u2' u3') = (i == j) := rfl
theorem cE_3 : chkE (.cst (.str x)) (u1') (.Constant (.str y) u2' u3') = (x == y) := rfl
theorem cE_4 : chkE (.var i) (c) (.Name x u1') = (c.N[i]? == some x && c.vis x && dbg x) := rfl
theorem cE_5 : chkE (.glb g) (c) (.Name x u1') = (Str.ofString g == x && c.gl x && dbg x) := rfl
theorem cE_6 : chkE (.bin o a b) (c) (.BinOp e p f u1') = (opOf o == p && chkE a c e && chkE b c f) := rfl
theorem cE_7 : chkE (.neg a) (c) (.UnaryOp .USub e u1') = (chkE a c e) := rfl
theorem cE_8 : chkE (.nott a) (c) (.UnaryOp .Not e u1') = (chkE a c e) := rfl
theorem cE_9 : chkE (.bo true as) (c) (.BoolOp .And es u1') = (chkA as c es) := rfl
theorem cE_10 : chkE (.bo false as) (c) (.BoolOp .Or es u1') = (chkA as c es) := rfl
theorem cE_11 : chkE (.cmp o a b) (c) (.Compare e [p] [f] u1') = (copOf o == p && chkE a c e && chkE b c f && constIs o f) := rfl
theorem cE_12 : chkE (.cmp2 o o' a b d) (c) (.Compare e [p, p'] [f, g] u1') = (copOf o == p && copOf o' == p' && chkE a c e && chkE b c f && chkE d c g && constIs o f && constIs o' g) := rfl
theorem cE_13 : chkE (.ife t a b) (c) (.IfExp x e f u1') = (chkE t c x && chkE a c e && chkE b c f) := rfl
theorem cE_14 : chkE (.tup as) (c) (.Tuple es u1' u2') = (chkA as c es) := rfl
theorem cE_15 : chkE (.lst as) (c) (.List es u1') = (chkA as c es) := rfl
theorem cE_16 : chkE (.idx a b) (c) (.Subscript e f u1') = (chkE a c e && chkE b c f) := rfl
theorem cE_17 : chkE (.sli a lo hi) (c) (.Subscript e (.Slice l h none u1') u2') = (chkE a c e && chkO lo c l && chkO hi c h) := rfl
theorem cE_18 : chkE (.call f as) (c) (.Call (.Name x u1') es [] u2') = (Str.ofString f == x && c.gl x && dbg x && c.F.contains f && chkA as c es) := rfl
theorem cE_19 : chkE (.prim p as) (c) (.Call (.Name x u1') (e :: es) [] u2') = (Str.ofString (primNm p) == x && c.gl x && c.B.contains (primNm p) && chkA as c (e :: es)) := rfl
theorem cE_20 : chkE (.isi a t) (c) (.Call (.Name x u1') [e, .Name y u2'] [] u3') = (Str.ofString "isinstance" == x && Str.ofString t == y && c.gl x && c.gl y && c.B.contains "isinstance" && c.B.contains t && clNames.contains t && chkE a c e) := rfl
theorem cE_21 : chkE (.meth p o as) (c) (.Call (.Attribute e x ap) es [] cp) = (Str.ofString (methNm p) == x && !isCall0 e && ap.endLine == cp.line && decide (es.length < 20) && chkE o c e && chkA as c es && okRecv p o) := rfl
theorem cE_22 : chkE (.comp N k keep tg it cd el) (c) (.ListComp elt [⟨t, i, fs, asy⟩] scope u1') = (asy == 0 && c.comp N k keep scope && tgOwn k tg && chkG tg (c.inner N scope) t && chkI it c i && chkC cd (c.inner N scope) fs && chkE el (c.inner N scope) elt) := rfl
theorem cI_0 : chkI (.rng a) (c) (.Call (.Name x u1') [e] [] u2') = (Str.ofString "range" == x && c.gl x && c.B.contains "range" && chkE a c e) := rfl
theorem cI_1 : chkI (.rng2 a b) (c) (.Call (.Name x u1') [e, f] [] u2') = (Str.ofString "range" == x && c.gl x && c.B.contains "range" && chkE a c e && chkE b c f) := rfl
theorem cI_2 : chkI (.cns a .nul) (c) (e) = (chkE a c e) := rfl
theorem cG_0 : chkG (.tvar i) (c) (.Name x u1') = (c.N[i]? == some x && c.own x) := rfl
theorem cG_1 : chkG (.ttup ts) (c) (.Tuple es u1' u2') = (chkGs ts c es) := rfl
theorem cG_2 : chkG (.tsub a b) (c) (.Subscript e f u1') = (chkE a c e && chkE b c f) := rfl
theorem cS_0 : chkS (.asg t e) (c) (.Assign [tg] v u1') = (chkG t c tg && chkE e c v && (match tg, v with | .Tuple .., .Tuple .. => false | .Name .., _ => true | _, v => !isComp v)) := rfl
theorem cS_1 : chkS (.ifs t a b) (c) (.If x y z u1') = (chkE t c x && chkB a c y && chkB b c z) := rfl
theorem cS_2 : chkS (.forr t i b) (c) (.For tg it body [] u1') = (chkG t c tg && chkI i c it && chkB b c body) := rfl
theorem cS_3 : chkS (.whl t b) (c) (.While x body [] u1') = (chkE t c x && chkB b c body) := rfl
theorem cS_4 : chkS (.ret e) (c) (.Return (some v) u1') = (chkE e c v) := rfl
theorem cS_5 : chkS (.retN) (u1') (.Return none u2') = (true) := rfl
theorem cS_6 : chkS (.exp e) (c) (.Expr v u1') = (chkE e c v && !isComp v) := rfl
theorem cS_7 : chkS (.pas) (u1') (.Pass u2') = (true) := rfl
theorem cS_8 : chkS (.brk) (u1') (.Break u2') = (true) := rfl
theorem cS_9 : chkS (.cnt) (u1') (.Continue u2') = (true) := rfl
theorem cS_10 : chkS (.zipf t a b d) (c) (.For (.Tuple els kk tp) (.Call (.Name x u1') [e, f] [] u2') body [] u3') = (Str.ofString "zip" == x && c.gl x && c.B.contains "zip" && chkG t c (.Tuple els kk tp) && chkE a c e && chkE b c f && chkB d c body) := rfl

section
variable (K : PySem.W.Frag) (C : Pr)
noncomputable def tE (m : M) : TE := fun σ H Q => ∃ ρ S τ d S', RelS K ρ S H ∧ RelE K ρ H τ σ ∧ evE C m τ S = .ok d S' ∧ Fin K ρ H d S' Q
noncomputable def FinB (ρ : List Addr) (H : Hp) (S' : Store) (Q : Hp → Prop) : Prop := ∀ ρ' H', Fut K ρ H ρ' H' → RelS K ρ' S' H' → Q H'
noncomputable def tT (m : M) : TT := fun σ H Q => ∃ ρ S τ b S', RelS K ρ S H ∧ RelE K ρ H τ σ ∧ evT C m τ S = .ok b S' ∧ FinB K ρ H S' (Q b)
noncomputable def tC (m : M) : TT := fun σ H Q => ∃ ρ S τ b S', RelS K ρ S H ∧ RelE K ρ H τ σ ∧ evC C m τ S = .ok b S' ∧ FinB K ρ H S' (Q b)
noncomputable def tBV (w : Bool) (m : M) : TE := fun σ H Q => ∃ ρ S τ d S', RelS K ρ S H ∧ RelE K ρ H τ σ ∧ evBV C w m τ S = .ok d S' ∧ Fin K ρ H d S' Q
noncomputable def tBT (w : Bool) (m : M) : TT := fun σ H Q => ∃ ρ S τ b S', RelS K ρ S H ∧ RelE K ρ H τ σ ∧ evBT C w m τ S = .ok b S' ∧ FinB K ρ H S' (Q b)
noncomputable def tA (m : M) : TA := fun σ H Q => ∃ ρ S τ ds S', RelS K ρ S H ∧ RelE K ρ H τ σ ∧ evA C m τ S = .ok ds S' ∧ ∀ ρ' vs H', Fut K ρ H ρ' H' → RelS K ρ' S' H' → RelDs K ρ' H' ds vs → Q vs H'
noncomputable def tO (m : M) : TO := fun σ H Q => ∃ ρ S τ o S', RelS K ρ S H ∧ RelE K ρ H τ σ ∧ evO C m τ S = .ok o S' ∧ FinB K ρ H S' (Q o)
structure ItOk (ρ0 : List Addr) (H0 : Hp) (J : It) (g : Option Nat) (ds : List D) : Prop where
  go : ∀ ρ H S i d, Fut K ρ0 H0 ρ H → RelS K ρ S H → sameAt S g ds.length = true → nth S g ds i = some d → J.go i H ∧ ∀ x H', J.yld i H x H' → H' = H ∧ RelD K ρ H d x
  stop : ∀ ρ H S, Fut K ρ0 H0 ρ H → RelS K ρ S H → sameAt S g ds.length = true → J.stop ds.length H
noncomputable def tI (m : M) : TI := fun σ H R => ∃ ρ S τ g ds S', RelS K ρ S H ∧ RelE K ρ H τ σ ∧ evI C m τ S = .ok (g, ds) S' ∧ ∀ ρ' H' J, Fut K ρ H ρ' H' → RelS K ρ' S' H' → ItOk K ρ' H' J g ds → R J H'
noncomputable def FinG (ρ : List Addr) (H : Hp) (τ' : En) (S' : Store) (Q : L2.St → Hp → Prop) : Prop := ∀ ρ' σ' H', Fut K ρ H ρ' H' → RelS K ρ' S' H' → RelE K ρ' H' τ' σ' → Q σ' H'
noncomputable def tG (m : M) : TG := fun v σ H Q => ∃ ρ S τ d τ' S', RelS K ρ S H ∧ RelE K ρ H τ σ ∧ RelD K ρ H d v ∧ evG C m d τ S = .ok τ' S' ∧ FinG K ρ H τ' S' Q
noncomputable def tGs (m : M) : TGs := fun vs σ H Q => ∃ ρ S τ ds τ' S', RelS K ρ S H ∧ RelE K ρ H τ σ ∧ RelDs K ρ H ds vs ∧ evGs C m ds τ S = .ok τ' S' ∧ FinG K ρ H τ' S' Q
noncomputable def FlOk (ρ : List Addr) (H : Hp) (fl : Fl) (S' : Store) (D : Ends) : Prop := match fl with
  | .nx τ' => FinG K ρ H τ' S' D.nx
  | .bk τ' => FinG K ρ H τ' S' D.bk
  | .ct τ' => FinG K ρ H τ' S' D.ct
  | .rt d => Fin K ρ H d S' D.rt
noncomputable def tS (m : M) : TS := fun D σ H => ∃ ρ S τ fl S', RelS K ρ S H ∧ RelE K ρ H τ σ ∧ evS C m τ S = .ok fl S' ∧ FlOk K ρ H fl S' D
noncomputable def tB' (m : M) : TS := fun D σ H => ∃ ρ S τ fl S', RelS K ρ S H ∧ RelE K ρ H τ σ ∧ evB C m τ S = .ok fl S' ∧ FlOk K ρ H fl S' D
noncomputable def spM (f : String) : Sp := fun vs H Q _ => ∃ ρ S ds d S', RelS K ρ S H ∧ RelDs K ρ H ds vs ∧ C.call f ds S = .ok d S' ∧ Fin K ρ H d S' Q
end
structure Tp (P : Program) (w : World) (K : PySem.W.Frag) (mg : Str → Option Value) (base : Heap) (A : Around) (C : Pr) (B F : List String) : Prop where
  fns : ∀ f ∈ F, ∃ k a fd ps, Room k A ∧ mg (Str.ofString f) = some (.ref a) ∧ FnOk P w K mg base CX0 k a fd ps (spM K C f) ∧ Binds K fd ps [] ∧ PySem.W.keepIn K (.ref a) = true
  blt : ∀ x ∈ B, mg (Str.ofString x) = none
  gl : ∀ x d, C.glob x = some d → ∃ v u, mg (Str.ofString x) = some u ∧ RelV v u ∧ (∀ ρ H, RelD K ρ H d v) ∧ ∀ ds, d = .tup ds → ∃ a o, v = .ref a ∧ K.lookup a = some o ∧ o.cls = .type "tuple" ∧ o.dict = none
  un : A.units + 64 < cLine
structure Gd (X : Cx) (C : Pr) (c : Ck) : Prop where
  N : X.N = c.N
  nd : X.N.Nodup
  names : X.env.scope.names = c.names
  sk : X.env.scope.kind = .function
  fn : ∀ x, X.fn x = c.fn
  calm : X.calm = true
  xe : X.xe = fun _ _ => False
  top : Tp X.prog X.w X.K X.mg X.base X.A C c.B c.F
section
variable {X : Cx} {C : Pr} {c : Ck}
theorem PE.imp {e : Expr} {t t' : TE} (h : PE X e t) (hi : ∀ σ H Q, t' σ H Q → t σ H Q) : PE X e t' := fun pins s σ H Q I q => h pins s σ H Q I (hi _ _ _ q)
theorem PT.imp {e : Expr} {t t' : TT} (h : PT X e t) (hi : ∀ σ H Q, t' σ H Q → t σ H Q) : PT X e t' := fun pins s σ H Q I q => h pins s σ H Q I (hi _ _ _ q)
theorem PA.imp {e : List Expr} {t t' : TA} (h : PA X e t) (hi : ∀ σ H Q, t' σ H Q → t σ H Q) : PA X e t' := fun pos pins s σ H Q I q => h pos pins s σ H Q I (hi _ _ _ q)
theorem PI.imp {tg e : Expr} {t t' : TI} (h : PI X tg e t) (hi : ∀ σ H Q, t' σ H Q → t σ H Q) : PI X tg e t' := fun pins s σ H Q I q => h pins s σ H Q I (hi _ _ _ q)
theorem PO.imp {e : Option Expr} {t t' : TO} (h : PO X e t) (hi : ∀ σ H Q, t' σ H Q → t σ H Q) : PO X e t' := fun pins s σ H Q I q => h pins s σ H Q I (hi _ _ _ q)
theorem PG.imp {e : Expr} {t t' : TG} (h : PG X e t) (hi : ∀ v σ H Q, t' v σ H Q → t v σ H Q) : PG X e t' := fun pins s σ H v u Q I r q => h pins s σ H v u Q I r (hi _ _ _ _ q)
theorem PGs.imp {e : List Expr} {t t' : TGs} (h : PGs X e t) (hi : ∀ v σ H Q, t' v σ H Q → t v σ H Q) : PGs X e t' := fun pins s σ H v u Q I r q => h pins s σ H v u Q I r (hi _ _ _ _ q)
theorem PS.imp {e : Stmt} {t t' : TS} (h : PS X e t) (hi : ∀ D σ H, t' D σ H → t D σ H) : PS X e t' := fun pins s σ H D I q => h pins s σ H D I (hi _ _ _ q)
theorem PSs.imp {e : List Stmt} {t t' : TS} (h : PSs X e t) (hi : ∀ D σ H, t' D σ H → t D σ H) : PSs X e t' := fun pins s σ H D I q => h pins s σ H D I (hi _ _ _ q)
theorem PTs.imp {e : List Expr} {t t' : TT} (h : PTs X e t) (hi : ∀ σ H Q, t' σ H Q → t σ H Q) : PTs X e t' := fun pins s σ H Q I q => h pins s σ H Q I (hi _ _ _ q)
theorem dbg1 {x : Str} (h : dbg x = true) : (x == ("__debug__" : Str)) = false := by unfold dbg at h; simp only [Bool.and_eq_true, Bool.not_eq_true'] at h; exact h.1
theorem dbg2 {x : Str} (h : dbg x = true) : (x == ("__classdict__" : Str)) = false := by unfold dbg at h; simp only [Bool.and_eq_true, Bool.not_eq_true'] at h; exact h.2
theorem Gd.vis (g : Gd X C c) {x : Str} (h : c.vis x = true) : Vis X.env.scope x := by
  unfold Ck.vis at h
  simp only [Bool.or_eq_true, beq_iff_eq] at h
  unfold Vis
  rw [g.names]
  rcases h with (h | h) | h
  · exact .inl h
  · exact .inr (.inl h)
  · exact .inr (.inr h)
theorem Gd.own (g : Gd X C c) {x : Str} (h : c.own x = true) : L2.Loc X.env.scope x ∧ (X.fn x = true ∨ X.env.scope.names.lookup x = some .local) := by
  unfold Ck.own at h
  unfold L2.Loc
  rw [g.names, g.fn]
  split at h
  · rename_i hf
    simp only [Bool.or_eq_true, beq_iff_eq] at h
    exact ⟨h, .inl hf⟩
  · simp only [beq_iff_eq] at h
    exact ⟨.inl h, .inr h⟩
theorem Gd.glo (g : Gd X C c) {x : Str} (h : c.gl x = true) : Gl X x := by
  unfold Ck.gl at h
  simp only [beq_iff_eq] at h
  unfold Gl Env.kindOf
  rw [g.names]
  exact h
theorem noStar : ∀ {m : M} {c : Ck} {e : Expr}, chkE m c e = true → ∀ x p, e ≠ .Starred x p := by
  intro m c e h x p z
  subst z
  cases m <;> first | (exact absurd h Bool.false_ne_true) | (rename_i d; cases d <;> exact absurd h Bool.false_ne_true) | (rename_i w _; cases w <;> exact absurd h Bool.false_ne_true)
theorem star_cons {e : Expr} {es : List Expr} {env : Env} (h : ∀ x p, e ≠ .Starred x p) : starEach (e :: es) env = (false, eval e env) :: starEach es env := by
  cases e <;> first | rfl | exact absurd rfl (h _ _)
theorem assign_cons {e : Expr} {es : List Expr} {env : Env} (h : ∀ x p, e ≠ .Starred x p) : assignEach (e :: es) env = (false, assign e env) :: assignEach es env := by
  cases e <;> first | rfl | exact absurd rfl (h _ _)
theorem noStars : ∀ {m : M} {c : Ck} {es : List Expr} {env : Env}, chkA m c es = true → (starEach es env).any (·.1) = false := by
  intro m
  induction m with
  | nul => intro c es env h; cases es <;> simp [chkA] at h; rfl
  | cns a b _ ihb =>
    intro c es env h
    cases es with
    | nil => simp [chkA] at h
    | cons e es =>
      simp only [chkA, Bool.and_eq_true] at h
      rw [star_cons (noStar h.1), List.any_cons, ihb h.2]
      rfl
  | _ => intro c es env h; cases es <;> simp [chkA] at h
theorem backTo_any (pos : Pos) (l : List (Bool × Sem Value)) : (backTo pos l).any (·.1) = l.any (·.1) := by
  unfold backTo
  rw [List.any_map]
  rfl
theorem backTo_all (pos : Pos) (l : List (Bool × Sem Value)) (h : l.any (·.1) = false) : (backTo pos l).all (fun x => !x.1) = true := by
  unfold backTo
  rw [List.all_map]
  rw [List.any_eq_false] at h
  rw [List.all_eq_true]
  intro x hx
  have := h x hx
  simpa using this
theorem plainIx : ∀ {m : M} {c : Ck} {e : Expr}, chkE m c e = true → PlainIx e := by
  intro m c e h o i
  cases e <;> first | rfl | (exfalso; cases m <;> first | (exact absurd h Bool.false_ne_true) | (rename_i d; cases d <;> exact absurd h Bool.false_ne_true) | (rename_i w _; cases w <;> exact absurd h Bool.false_ne_true))
theorem mem_contains {l : List String} {x : String} (h : l.contains x = true) : x ∈ l := by simpa using h
theorem marks {o : Cop} {e : Expr} (h : constIs o e = true) (p : CmpOp) : behindInMarks p e = false := by
  cases e <;> first | rfl | (cases o <;> simp [constIs] at h)
end
end Mi

namespace Mi
open PySem L2
structure Snd (C : Pr) (m : M) : Prop where
  e : ∀ (X : Cx) (c : Ck) (x : Expr), Gd X C c → chkE m c x = true → PE X x (tE X.K C m)
  t : ∀ (X : Cx) (c : Ck) (x : Expr), Gd X C c → chkE m c x = true → PT X x (tT X.K C m)
  a : ∀ (X : Cx) (c : Ck) (x : List Expr), Gd X C c → chkA m c x = true → PA X x (tA X.K C m)
  bv : ∀ (X : Cx) (c : Ck) (w : Bool) (x : List Expr) (pos : Pos), Gd X C c → chkA m c x = true → PE X (.BoolOp (if w then .And else .Or) x pos) (tBV X.K C w m)
  bt : ∀ (X : Cx) (c : Ck) (w : Bool) (x : List Expr) (pos : Pos), Gd X C c → chkA m c x = true → PW X (.BoolOp (if w then .And else .Or) x pos) (tBT X.K C w m)
  o : ∀ (X : Cx) (c : Ck) (x : Option Expr), Gd X C c → chkO m c x = true → PO X x (tO X.K C m)
  cd : ∀ (X : Cx) (c : Ck) (x : List Expr), Gd X C c → chkC m c x = true → PTs X x (tC X.K C m)
  i : ∀ (X : Cx) (c : Ck) (tg x : Expr), Gd X C c → chkI m c x = true → PI X tg x (tI X.K C m) ∧ ∀ v, foldedSetIterable x X.env v = pure v
  g : ∀ (X : Cx) (c : Ck) (x : Expr), Gd X C c → chkG m c x = true → PG X x (tG X.K C m)
  gs : ∀ (X : Cx) (c : Ck) (x : List Expr), Gd X C c → chkGs m c x = true → PGs X x (tGs X.K C m)
  s : ∀ (X : Cx) (c : Ck) (x : Stmt), Gd X C c → chkS m c x = true → PS X x (tS X.K C m)
  b : ∀ (X : Cx) (c : Ck) (x : List Stmt), Gd X C c → chkB m c x = true → PSs X x (tB' X.K C m)
section
variable {C : Pr} {X : Cx} {c : Ck}
theorem pe_no {e : Expr} {t : TE} (h : ∀ σ H Q, ¬ t σ H Q) : PE X e t := fun pins s σ H Q _ q => absurd q (h _ _ _)
theorem pt_no {e : Expr} {t : TT} (h : ∀ σ H Q, ¬ t σ H Q) : PT X e t := fun pins s σ H Q _ q => absurd q (h _ _ _)
theorem tE_no {m : M} {K : PySem.W.Frag} (h : ∀ τ S, evE C m τ S = .bad) : ∀ σ H Q, ¬ tE K C m σ H Q := by
  rintro σ H Q ⟨ρ, S, τ, d, S', _, _, e, _⟩
  rw [h] at e
  cases e
theorem tT_no {m : M} {K : PySem.W.Frag} (h : ∀ τ S, evT C m τ S = .bad) : ∀ σ H Q, ¬ tT K C m σ H Q := by
  rintro σ H Q ⟨ρ, S, τ, d, S', _, _, e, _⟩
  rw [h] at e
  cases e
theorem foldset {e : Expr} {env : Env} (h : ∀ a b p, e ≠ .Set a b p) (v : Value) : foldedSetIterable e env v = pure v := by
  cases e <;> first | rfl | exact absurd rfl (h _ _ _)
theorem noSet : ∀ {m : M} {c : Ck} {e : Expr}, chkE m c e = true → ∀ a b p, e ≠ .Set a b p := by
  intro m c e h x q p z
  subst z
  cases m <;> first | (exact absurd h Bool.false_ne_true) | (rename_i d; cases d <;> exact absurd h Bool.false_ne_true) | (rename_i w _; cases w <;> exact absurd h Bool.false_ne_true)
theorem pt_of {m : M} {x : Expr} (h : PE X x (tE X.K C m)) (he : ∀ whole, isTrue x X.env whole = (do let v ← whole; standAt x.pos; holding [v] (truthy v)))
    (hv : ∀ τ S b S', evT C m τ S = .ok b S' → ∃ d, evE C m τ S = .ok d S' ∧ tru S' d = some b) : PT X x (tT X.K C m) := by
  refine PT.imp (pt_truth h he) fun σ H Q ⟨ρ, S, τ, b, S', rs, re, e, fin⟩ => ?_
  obtain ⟨d, e1, e2⟩ := hv τ S b S' e
  exact ⟨ρ, S, τ, d, S', rs, re, e1, fun ρ' v H' f r q => ⟨b, tru_rel r q e2, fin ρ' H' f r⟩⟩
theorem snd_bin {o : Bop} {a b : M} (ha : Snd C a) (hb : Snd C b) : ∀ (X : Cx) (c : Ck) (x : Expr), Gd X C c → chkE (.bin o a b) c x = true → PE X x (tE X.K C (.bin o a b)) := by
  intro X c x g h
  cases x <;> try (exact absurd h Bool.false_ne_true)
  simp only [cE_0, cE_1, cE_2, cE_3, cE_4, cE_5, cE_6, cE_7, cE_8, cE_9, cE_10, cE_11, cE_12, cE_13, cE_14, cE_15, cE_16, cE_17, cE_18, cE_19, cE_20, cE_21, cE_22, Bool.and_eq_true, beq_iff_eq] at h
  obtain ⟨⟨rfl, h1⟩, h2⟩ := h
  refine PE.imp (pe_op (bop_ok o) (ha.e X c _ g h1) (hb.e X c _ g h2)) fun σ H Q ⟨ρ, S, τ, d, S', rs, re, e, fin⟩ => ?_
  simp only [evE] at e
  obtain ⟨x1, S1, e1, e⟩ := Res.bind_eq_ok e
  obtain ⟨x2, S2, e2, e⟩ := Res.bind_eq_ok e
  refine ⟨ρ, S, τ, x1, S1, rs, re, e1, fun ρ1 v1 H1 f1 r1 q1 => ⟨ρ1, S1, τ, x2, S2, r1, re.fut f1, e2, fun ρ2 v2 H2 f2 r2 q2 => ?_⟩⟩
  exact ⟨ρ2, S2, x1, x2, d, S', r2, q1.fut f2, q2, e, fun ρ3 v3 H3 f3 r3 q3 => fin ρ3 v3 H3 (f1.trans (f2.trans f3)) r3 q3⟩
theorem snd_neg {a : M} (ha : Snd C a) : ∀ (X : Cx) (c : Ck) (x : Expr), Gd X C c → chkE (.neg a) c x = true → PE X x (tE X.K C (.neg a)) := by
  intro X c x g h
  cases x <;> try (exact absurd h Bool.false_ne_true)
  rename_i op e pos
  cases op <;> try (exact absurd h Bool.false_ne_true)
  simp only [cE_0, cE_1, cE_2, cE_3, cE_4, cE_5, cE_6, cE_7, cE_8, cE_9, cE_10, cE_11, cE_12, cE_13, cE_14, cE_15, cE_16, cE_17, cE_18, cE_19, cE_20, cE_21, cE_22] at h
  refine PE.imp (pe_un un_neg (ha.e X c _ g h)) fun σ H Q ⟨ρ, S, τ, d, S', rs, re, e, fin⟩ => ?_
  simp only [evE] at e
  obtain ⟨x1, S1, e1, e⟩ := Res.bind_eq_ok e
  refine ⟨ρ, S, τ, x1, S1, rs, re, e1, fun ρ1 v1 H1 f1 r1 q1 => ?_⟩
  cases x1 <;> simp only at e <;> try (cases e; done)
  cases e
  exact ⟨_, q1.int_inv, fin ρ1 _ H1 f1 r1 (RelD.int _)⟩
theorem pe_notT {a : Expr} {ta : TE} {pos : Pos} (ha : PE X a ta) : PE X (.UnaryOp .Not a pos) (fun σ H Q => ta σ H fun x H1 => ∃ k, TruV X.K x H1 k ∧ Q (.bl (!k)) H1) := by
  intro pins s σ H Q I h
  refine PyProof.Rows.UnaryOp_ (thn (ha pins s σ H _ I h) fun v s1 ⟨x, H1, I1, r1, q1⟩ => ?_)
  obtain ⟨k, hk, q⟩ := q1
  refine PyProof.Rows.not_of (thn (tru_ok pins s1 σ H1 x v (fun b H2 => Q (.bl (!b)) H2) I1 r1 ⟨k, hk, q⟩) fun b s2 ⟨H2, I2, q2⟩ => ?_)
  exact ⟨.bl (!b), H2, I2, rfl, q2⟩
theorem snd_not {a : M} (ha : Snd C a) : ∀ (X : Cx) (c : Ck) (x : Expr), Gd X C c → chkE (.nott a) c x = true → PE X x (tE X.K C (.nott a)) ∧ PT X x (tT X.K C (.nott a)) := by
  intro X c x g h
  cases x <;> try (exact absurd h Bool.false_ne_true)
  rename_i op e pos
  cases op <;> try (exact absurd h Bool.false_ne_true)
  simp only [cE_0, cE_1, cE_2, cE_3, cE_4, cE_5, cE_6, cE_7, cE_8, cE_9, cE_10, cE_11, cE_12, cE_13, cE_14, cE_15, cE_16, cE_17, cE_18, cE_19, cE_20, cE_21, cE_22] at h
  constructor
  · refine PE.imp (pe_notT (ha.e X c _ g h)) fun σ H Q ⟨ρ, S, τ, d, S', rs, re, e, fin⟩ => ?_
    simp only [evE] at e
    obtain ⟨x1, S1, e1, e⟩ := Res.bind_eq_ok e
    refine ⟨ρ, S, τ, x1, S1, rs, re, e1, fun ρ1 v1 H1 f1 r1 q1 => ?_⟩
    split at e
    · rename_i b hb
      cases e
      exact ⟨b, tru_rel r1 q1 hb, fin ρ1 _ H1 f1 r1 (RelD.bl _)⟩
    · cases e
  · refine PT.imp (pt_not (ha.t X c _ g h)) fun σ H Q ⟨ρ, S, τ, d, S', rs, re, e, fin⟩ => ?_
    simp only [evT] at e
    obtain ⟨x1, S1, e1, e⟩ := Res.bind_eq_ok e
    cases e
    exact ⟨ρ, S, τ, x1, _, rs, re, e1, fin⟩
theorem snd_cmp {o : Cop} {a b : M} (ha : Snd C a) (hb : Snd C b) : ∀ (X : Cx) (c : Ck) (x : Expr), Gd X C c → chkE (.cmp o a b) c x = true → PE X x (tE X.K C (.cmp o a b)) ∧ PT X x (tT X.K C (.cmp o a b)) := by
  intro X c x g h
  cases x <;> try (exact absurd h Bool.false_ne_true)
  rename_i l ops cs pos
  rcases ops with _ | ⟨p, _ | ⟨p2, ops⟩⟩ <;> rcases cs with _ | ⟨f, _ | ⟨f2, cs⟩⟩ <;> try (exact absurd h Bool.false_ne_true)
  simp only [cE_0, cE_1, cE_2, cE_3, cE_4, cE_5, cE_6, cE_7, cE_8, cE_9, cE_10, cE_11, cE_12, cE_13, cE_14, cE_15, cE_16, cE_17, cE_18, cE_19, cE_20, cE_21, cE_22] at h
  simp only [Bool.and_eq_true, beq_iff_eq] at h
  obtain ⟨⟨⟨rfl, h1⟩, h2⟩, h3⟩ := h
  have key : ∀ {ρ S τ k S' H σ} {Q : VK}, RelS X.K ρ S H → RelE X.K ρ H τ σ → (evE C a τ S).bind (fun x S1 => (evE C b τ S1).bind fun y S2 => match cop o x y S2 with | some k => (.ok (.bl k) S2 : Res D) | none => .bad) = .ok (.bl k) S' →
      FinB X.K ρ H S' (fun H' => Q (.bl k) H') → tOp (rC X.K o) (tE X.K C a) (tE X.K C b) σ H Q := fun {ρ S τ k S' H σ Q} rs re e fin => by
    obtain ⟨x1, S1, e1, e⟩ := Res.bind_eq_ok e
    obtain ⟨x2, S2, e2, e⟩ := Res.bind_eq_ok e
    refine ⟨ρ, S, τ, x1, S1, rs, re, e1, fun ρ1 v1 H1 f1 r1 q1 => ⟨ρ1, S1, τ, x2, S2, r1, re.fut f1, e2, fun ρ2 v2 H2 f2 r2 q2 => ?_⟩⟩
    split at e
    · rename_i k' hk
      cases e
      exact ⟨ρ2, _, x1, x2, _, r2, q1.fut f2, q2, hk, fin ρ2 H2 (f1.trans f2) r2⟩
    · cases e
  constructor
  · refine PE.imp (pe_cmpR (cop_ok o g.top.un) (ha.e X c _ g h1) (hb.e X c _ g h2) (marks h3 _)) fun σ H Q ⟨ρ, S, τ, d, S', rs, re, e, fin⟩ => ?_
    simp only [evE] at e
    have hd : ∃ k, d = .bl k := by
      obtain ⟨x1, S1, e1, e⟩ := Res.bind_eq_ok e
      obtain ⟨x2, S2, e2, e⟩ := Res.bind_eq_ok e
      split at e
      · cases e; exact ⟨_, rfl⟩
      · cases e
    obtain ⟨k, rfl⟩ := hd
    exact key rs re e fun ρ' H' f r => fin ρ' _ H' f r (RelD.bl _)
  · refine PT.imp (pt_cmpR (cop_ok o g.top.un) (ha.e X c _ g h1) (hb.e X c _ g h2) (marks h3 _)) fun σ H Q ⟨ρ, S, τ, k, S', rs, re, e, fin⟩ => ?_
    simp only [evT] at e
    have e' : (evE C a τ S).bind (fun x S1 => (evE C b τ S1).bind fun y S2 => match cop o x y S2 with | some k => (.ok (.bl k) S2 : Res D) | none => .bad) = .ok (.bl k) S' := by
      obtain ⟨x1, S1, e1, e⟩ := Res.bind_eq_ok e
      obtain ⟨x2, S2, e2, e⟩ := Res.bind_eq_ok e
      rw [e1, Res.bind_ok, e2, Res.bind_ok]
      split at e
      · rename_i hk; cases e; first | rfl | rw [hk]
      · cases e
    exact key rs re e' fun ρ' H' f r => ⟨k, rfl, fin ρ' H' f r⟩
theorem snd_cmp2 {o o' : Cop} {a b d : M} (ha : Snd C a) (hb : Snd C b) (hd : Snd C d) : ∀ (X : Cx) (c : Ck) (x : Expr), Gd X C c → chkE (.cmp2 o o' a b d) c x = true → PE X x (tE X.K C (.cmp2 o o' a b d)) ∧ PT X x (tT X.K C (.cmp2 o o' a b d)) := by
  intro X c x g h
  cases x <;> try (exact absurd h Bool.false_ne_true)
  rename_i l ops cs pos
  rcases ops with _ | ⟨p, _ | ⟨p2, _ | ⟨p3, ops⟩⟩⟩ <;> rcases cs with _ | ⟨f, _ | ⟨f2, _ | ⟨f3, cs⟩⟩⟩ <;> try (exact absurd h Bool.false_ne_true)
  simp only [cE_0, cE_1, cE_2, cE_3, cE_4, cE_5, cE_6, cE_7, cE_8, cE_9, cE_10, cE_11, cE_12, cE_13, cE_14, cE_15, cE_16, cE_17, cE_18, cE_19, cE_20, cE_21, cE_22] at h
  simp only [Bool.and_eq_true, beq_iff_eq] at h
  obtain ⟨⟨⟨⟨⟨⟨rfl, rfl⟩, h1⟩, h2⟩, h3⟩, h4⟩, h5⟩ := h
  have hm : lastMarks [copOf o, copOf o'] [f, f2] = false := by
    show behindInMarks (copOf o') f2 = false
    exact marks h5 _
  have key : ∀ {ρ S τ k S' H σ} {Q : VK}, RelS X.K ρ S H → RelE X.K ρ H τ σ → evE C (.cmp2 o o' a b d) τ S = .ok (.bl k) S' →
      FinB X.K ρ H S' (fun H' => Q (.bl k) H') → tChain (rC X.K o) (rC X.K o') (tE X.K C a) (tE X.K C b) (tE X.K C d) σ H Q := fun {ρ S τ k S' H σ Q} rs re e fin => by
    simp only [evE] at e
    obtain ⟨x1, S1, e1, e⟩ := Res.bind_eq_ok e
    obtain ⟨x2, S2, e2, e⟩ := Res.bind_eq_ok e
    refine ⟨ρ, S, τ, x1, S1, rs, re, e1, fun ρ1 v1 H1 f1 r1 q1 => ⟨ρ1, S1, τ, x2, S2, r1, re.fut f1, e2, fun ρ2 v2 H2 f2 r2 q2 => ?_⟩⟩
    split at e
    · rename_i hk
      obtain ⟨x3, S3, e3, e⟩ := Res.bind_eq_ok e
      refine ⟨ρ2, S2, x1, x2, true, r2, q1.fut f2, q2, hk, true, rfl, ?_⟩
      rw [if_pos rfl]
      refine ⟨ρ2, S2, τ, x3, S3, r2, re.fut (f1.trans f2), e3, fun ρ3 v3 H3 f3 r3 q3 => ?_⟩
      split at e
      · rename_i k' hk'
        cases e
        exact ⟨ρ3, _, x2, x3, _, r3, q2.fut f3, q3, hk', fin ρ3 H3 (f1.trans (f2.trans f3)) r3⟩
      · cases e
    · rename_i hk
      cases e
      refine ⟨ρ2, _, x1, x2, false, r2, q1.fut f2, q2, hk, false, rfl, ?_⟩
      rw [if_neg Bool.false_ne_true]
      exact fin ρ2 H2 (f1.trans f2) r2
    · cases e
  constructor
  · refine PE.imp (pe_chain (cop_ok o g.top.un) (cop_ok o' g.top.un) (ha.e X c _ g h1) (hb.e X c _ g h2) (hd.e X c _ g h3) hm) fun σ H Q ⟨ρ, S, τ, d', S', rs, re, e, fin⟩ => ?_
    have hd : ∃ k, d' = .bl k := by
      simp only [evE] at e
      obtain ⟨x1, S1, e1, e⟩ := Res.bind_eq_ok e
      obtain ⟨x2, S2, e2, e⟩ := Res.bind_eq_ok e
      split at e
      · obtain ⟨x3, S3, e3, e⟩ := Res.bind_eq_ok e
        split at e
        · cases e; exact ⟨_, rfl⟩
        · cases e
      · cases e; exact ⟨_, rfl⟩
      · cases e
    obtain ⟨k, rfl⟩ := hd
    exact key rs re e fun ρ' H' f r => fin ρ' _ H' f r (RelD.bl _)
  · refine PT.imp (pt_chain (cop_ok o g.top.un) (cop_ok o' g.top.un) (ha.e X c _ g h1) (hb.e X c _ g h2) (hd.e X c _ g h3) hm) fun σ H Q ⟨ρ, S, τ, k, S', rs, re, e, fin⟩ => ?_
    have e' : evE C (.cmp2 o o' a b d) τ S = .ok (.bl k) S' := by
      simp only [evE]
      simp only [evT] at e
      obtain ⟨x1, S1, e1, e⟩ := Res.bind_eq_ok e
      obtain ⟨x2, S2, e2, e⟩ := Res.bind_eq_ok e
      rw [e1, Res.bind_ok, e2, Res.bind_ok]
      split at e
      · rename_i hk
        try rw [hk]
        obtain ⟨x3, S3, e3, e⟩ := Res.bind_eq_ok e
        rw [e3, Res.bind_ok]
        split at e
        · rename_i hk'; cases e; first | rfl | rw [hk']
        · cases e
      · rename_i hk; cases e; first | rfl | rw [hk]
      · cases e
    exact key rs re e' fun ρ' H' f r => ⟨k, rfl, fin ρ' H' f r⟩
end
end Mi

namespace Mi
open PySem L2
section
variable {C : Pr}
theorem snd_ife {t a b : M} (ht : Snd C t) (ha : Snd C a) (hb : Snd C b) : ∀ (X : Cx) (c : Ck) (x : Expr), Gd X C c → chkE (.ife t a b) c x = true → PE X x (tE X.K C (.ife t a b)) := by
  intro X c x g h
  cases x <;> try (exact absurd h Bool.false_ne_true)
  simp only [cE_0, cE_1, cE_2, cE_3, cE_4, cE_5, cE_6, cE_7, cE_8, cE_9, cE_10, cE_11, cE_12, cE_13, cE_14, cE_15, cE_16, cE_17, cE_18, cE_19, cE_20, cE_21, cE_22, Bool.and_eq_true] at h
  refine PE.imp (pe_ifExp (ht.t X c _ g h.1.1) (ha.e X c _ g h.1.2) (hb.e X c _ g h.2)) fun σ H Q ⟨ρ, S, τ, d, S', rs, re, e, fin⟩ => ?_
  simp only [evE] at e
  obtain ⟨k, S1, e1, e⟩ := Res.bind_eq_ok e
  refine ⟨ρ, S, τ, k, S1, rs, re, e1, fun ρ1 H1 f1 r1 => ?_⟩
  cases k with
  | true => rw [if_pos rfl]; exact ⟨ρ1, S1, τ, d, S', r1, re.fut f1, e, fun ρ2 v2 H2 f2 => fin ρ2 v2 H2 (f1.trans f2)⟩
  | false => rw [if_neg Bool.false_ne_true]; exact ⟨ρ1, S1, τ, d, S', r1, re.fut f1, e, fun ρ2 v2 H2 f2 => fin ρ2 v2 H2 (f1.trans f2)⟩
theorem snd_tup {as : M} (ha : Snd C as) : ∀ (X : Cx) (c : Ck) (x : Expr), Gd X C c → chkE (.tup as) c x = true → PE X x (tE X.K C (.tup as)) := by
  intro X c x g h
  cases x <;> try (exact absurd h Bool.false_ne_true)
  simp only [cE_0, cE_1, cE_2, cE_3, cE_4, cE_5, cE_6, cE_7, cE_8, cE_9, cE_10, cE_11, cE_12, cE_13, cE_14, cE_15, cE_16, cE_17, cE_18, cE_19, cE_20, cE_21, cE_22] at h
  refine PE.imp (pe_tup (ha.a X c _ g h)) fun σ H Q ⟨ρ, S, τ, d, S', rs, re, e, fin⟩ => ?_
  simp only [evE] at e
  obtain ⟨ds, S1, e1, e⟩ := Res.bind_eq_ok e
  refine ⟨ρ, S, τ, ds, S1, rs, re, e1, fun ρ1 vs H1 f1 r1 q1 => ?_⟩
  split at e
  · rename_i hl
    cases e
    exact ⟨by rw [← q1.length, ← line_eq]; exact hl, Fin.newT (ρ := ρ1) (fun ρ2 v2 H2 f2 => fin ρ2 v2 H2 (f1.trans f2)) r1 q1⟩
  · cases e
theorem snd_lst {as : M} (ha : Snd C as) : ∀ (X : Cx) (c : Ck) (x : Expr), Gd X C c → chkE (.lst as) c x = true → PE X x (tE X.K C (.lst as)) := by
  intro X c x g h
  cases x <;> try (exact absurd h Bool.false_ne_true)
  simp only [cE_0, cE_1, cE_2, cE_3, cE_4, cE_5, cE_6, cE_7, cE_8, cE_9, cE_10, cE_11, cE_12, cE_13, cE_14, cE_15, cE_16, cE_17, cE_18, cE_19, cE_20, cE_21, cE_22] at h
  refine PE.imp (pe_lst (ha.a X c _ g h)) fun σ H Q ⟨ρ, S, τ, d, S', rs, re, e, fin⟩ => ?_
  simp only [evE] at e
  obtain ⟨ds, S1, e1, e⟩ := Res.bind_eq_ok e
  refine ⟨ρ, S, τ, ds, S1, rs, re, e1, fun ρ1 vs H1 f1 r1 q1 => ?_⟩
  split at e
  · rename_i hl
    cases e
    exact ⟨by rw [← q1.length, ← line_eq]; exact hl, Fin.newL (ρ := ρ1) (fun ρ2 v2 H2 f2 => fin ρ2 v2 H2 (f1.trans f2)) r1 q1⟩
  · cases e
theorem snd_idx {a b : M} (ha : Snd C a) (hb : Snd C b) : ∀ (X : Cx) (c : Ck) (x : Expr), Gd X C c → chkE (.idx a b) c x = true → PE X x (tE X.K C (.idx a b)) ∧ PT X x (tT X.K C (.idx a b)) := by
  intro X c x g h
  cases x <;> try (exact absurd h Bool.false_ne_true)
  rename_i vx sx px
  simp only [cE_0, cE_1, cE_2, cE_3, cE_4, cE_5, cE_6, cE_7, cE_8, cE_9, cE_10, cE_11, cE_12, cE_13, cE_14, cE_15, cE_16, cE_17, cE_18, cE_19, cE_20, cE_21, cE_22, Bool.and_eq_true] at h
  have pe : PE X (.Subscript vx sx px) (tE X.K C (.idx a b)) := by
    refine PE.imp (pe_ix idx_ok (ha.e X c _ g h.1) (hb.e X c _ g h.2) (plainIx h.2)) fun σ H Q ⟨ρ, S, τ, d, S', rs, re, e, fin⟩ => ?_
    simp only [evE] at e
    obtain ⟨x1, S1, e1, e⟩ := Res.bind_eq_ok e
    obtain ⟨x2, S2, e2, e⟩ := Res.bind_eq_ok e
    refine ⟨ρ, S, τ, x1, S1, rs, re, e1, fun ρ1 v1 H1 f1 r1 q1 => ⟨ρ1, S1, τ, x2, S2, r1, re.fut f1, e2, fun ρ2 v2 H2 f2 r2 q2 => ?_⟩⟩
    split at e
    · rename_i d' hd
      cases e
      exact ⟨ρ2, _, x1, x2, d, r2, q1.fut f2, q2, hd, fun ρ3 v3 H3 f3 r3 q3 => fin ρ3 v3 H3 (f1.trans (f2.trans f3)) r3 q3⟩
    · cases e
  refine ⟨pe, pt_of pe (fun _ => rfl) fun τ S b S' e => ?_⟩
  simp only [evT] at e
  obtain ⟨x1, S1, e1, e⟩ := Res.bind_eq_ok e
  obtain ⟨x2, S2, e2, e⟩ := Res.bind_eq_ok e
  split at e
  · rename_i d hd
    split at e
    · rename_i k hk
      cases e
      exact ⟨d, by simp only [evE]; rw [e1, Res.bind_ok, e2, Res.bind_ok, hd], hk⟩
    · cases e
  · cases e
theorem snd_sli {a l u : M} (ha : Snd C a) (hl : Snd C l) (hu : Snd C u) : ∀ (X : Cx) (c : Ck) (x : Expr), Gd X C c → chkE (.sli a l u) c x = true → PE X x (tE X.K C (.sli a l u)) := by
  intro X c x g h
  cases x <;> try (exact absurd h Bool.false_ne_true)
  rename_i e0 sl pos
  cases sl <;> try (exact absurd h Bool.false_ne_true)
  rename_i lo up st p2
  cases st <;> try (exact absurd h Bool.false_ne_true)
  simp only [cE_0, cE_1, cE_2, cE_3, cE_4, cE_5, cE_6, cE_7, cE_8, cE_9, cE_10, cE_11, cE_12, cE_13, cE_14, cE_15, cE_16, cE_17, cE_18, cE_19, cE_20, cE_21, cE_22, Bool.and_eq_true] at h
  refine PE.imp (pe_slice sli_ok (ha.e X c _ g h.1.1) (hl.o X c _ g h.1.2) (hu.o X c _ g h.2)) fun σ H Q ⟨ρ, S, τ, d, S', rs, re, e, fin⟩ => ?_
  simp only [evE] at e
  obtain ⟨x1, S1, e1, e⟩ := Res.bind_eq_ok e
  obtain ⟨x2, S2, e2, e⟩ := Res.bind_eq_ok e
  obtain ⟨x3, S3, e3, e⟩ := Res.bind_eq_ok e
  refine ⟨ρ, S, τ, x1, S1, rs, re, e1, fun ρ1 v1 H1 f1 r1 q1 => ⟨ρ1, S1, τ, x2, S2, r1, re.fut f1, e2, fun ρ2 H2 f2 r2 => ⟨ρ2, S2, τ, x3, S3, r2, re.fut (f1.trans f2), e3, fun ρ3 H3 f3 r3 => ?_⟩⟩⟩
  exact ⟨ρ3, S3, x1, d, S', r3, q1.fut (f2.trans f3), e, fun ρ4 v4 H4 f4 r4 q4 => fin ρ4 v4 H4 (f1.trans (f2.trans (f3.trans f4))) r4 q4⟩
theorem snd_call {f : String} {as : M} (ha : Snd C as) : ∀ (X : Cx) (c : Ck) (x : Expr), Gd X C c → chkE (.call f as) c x = true → PE X x (tE X.K C (.call f as)) ∧ PT X x (tT X.K C (.call f as)) := by
  intro X c x g h
  cases x <;> try (exact absurd h Bool.false_ne_true)
  rename_i fn es kws pos
  cases fn <;> try (exact absurd h Bool.false_ne_true)
  rename_i y p
  cases kws <;> try (exact absurd h Bool.false_ne_true)
  simp only [cE_0, cE_1, cE_2, cE_3, cE_4, cE_5, cE_6, cE_7, cE_8, cE_9, cE_10, cE_11, cE_12, cE_13, cE_14, cE_15, cE_16, cE_17, cE_18, cE_19, cE_20, cE_21, cE_22, Bool.and_eq_true, beq_iff_eq] at h
  obtain ⟨⟨⟨⟨rfl, h1⟩, h2⟩, h3⟩, h4⟩ := h
  obtain ⟨k, a, fd, ps, hr, hm, F, hb, hk⟩ := g.top.fns f (mem_contains h3)
  have pe : PE X (.Call (.Name (Str.ofString f) p) es [] pos) (tE X.K C (.call f as)) := by
    have rd : ∀ {t : TA}, (∀ σ H Q, tA X.K C as σ H Q → t σ H Q) → ∀ σ H Q, tE X.K C (.call f as) σ H Q → tCall (spM X.K C f) [] E0 t σ H Q := fun ht σ H Q ⟨ρ, S, τ, d, S', rs, re, e, fin⟩ => by
      simp only [evE] at e
      obtain ⟨ds, S1, e1, e⟩ := Res.bind_eq_ok e
      refine ht σ H _ ⟨ρ, S, τ, ds, S1, rs, re, e1, fun ρ1 vs H1 f1 r1 q1 => ?_⟩
      show spM X.K C f (vs ++ []) H1 Q E0
      rw [List.append_nil]
      exact ⟨ρ1, S1, ds, d, S', r1, q1, e, fun ρ2 v2 H2 f2 r2 q2 => fin ρ2 v2 H2 (f1.trans f2) r2 q2⟩
    cases es with
    | nil =>
      refine PE.imp (pe_call0 F hr (g.glo h1) hm hk hb .nil pass0 (dbg1 h2)) (rd fun σ H Q ⟨ρ, S, τ, ds, S', rs, re, e, fin⟩ => ?_)
      cases as <;> try (exact absurd h4 Bool.false_ne_true)
      simp only [evA] at e
      cases e
      exact fin ρ [] H Fut.refl rs RelDs.nil
    | cons e es =>
      cases as <;> try (exact absurd h4 Bool.false_ne_true)
      have h4' := h4
      simp only [chkA, Bool.and_eq_true] at h4
      refine PE.imp (pe_call F hr (g.glo h1) hm hk hb .nil pass0 (ha.a X c _ g h4') (dbg1 h2) (star_cons (noStar h4.1)) (by rw [backTo_any]; exact noStars h4.2)) (rd fun σ H Q z => z)
  refine ⟨pe, pt_of pe (fun _ => rfl) fun τ S b S' e => ?_⟩
  simp only [evT] at e
  obtain ⟨ds, S1, e1, e⟩ := Res.bind_eq_ok e
  obtain ⟨d, S2, e2, e⟩ := Res.bind_eq_ok e
  split at e
  · rename_i k hk
    cases e
    exact ⟨d, by simp only [evE]; rw [e1, Res.bind_ok, e2], hk⟩
  · cases e
theorem snd_prim {p : Prim} {as : M} (ha : Snd C as) : ∀ (X : Cx) (c : Ck) (x : Expr), Gd X C c → chkE (.prim p as) c x = true → PE X x (tE X.K C (.prim p as)) ∧ PT X x (tT X.K C (.prim p as)) := by
  intro X c x g h
  cases x <;> try (exact absurd h Bool.false_ne_true)
  rename_i fn es kws pos
  cases fn <;> try (exact absurd h Bool.false_ne_true)
  rename_i y pp
  cases kws <;> cases es <;> try (exact absurd h Bool.false_ne_true)
  rename_i e0 es
  simp only [cE_0, cE_1, cE_2, cE_3, cE_4, cE_5, cE_6, cE_7, cE_8, cE_9, cE_10, cE_11, cE_12, cE_13, cE_14, cE_15, cE_16, cE_17, cE_18, cE_19, cE_20, cE_21, cE_22, Bool.and_eq_true, beq_iff_eq] at h
  obtain ⟨⟨⟨rfl, h1⟩, h2⟩, h3⟩ := h
  have hm := g.top.blt _ (mem_contains h2)
  have hs : (∀ x p, e0 ≠ .Starred x p) ∧ (starEach es X.env).any (·.1) = false := by
    cases as <;> try (exact absurd h3 Bool.false_ne_true)
    simp only [chkA, Bool.and_eq_true] at h3
    exact ⟨noStar h3.1, noStars h3.2⟩
  have rd : ∀ σ H Q, tE X.K C (.prim p as) σ H Q → tCB (rP X.K p) (tA X.K C as) σ H Q := fun σ H Q ⟨ρ, S, τ, d, S', rs, re, e, fin⟩ => by
    simp only [evE] at e
    obtain ⟨ds, S1, e1, e⟩ := Res.bind_eq_ok e
    refine ⟨ρ, S, τ, ds, S1, rs, re, e1, fun ρ1 vs H1 f1 r1 q1 => ?_⟩
    exact ⟨ρ1, S1, ds, d, S', r1, q1, e, fun ρ2 v2 H2 f2 r2 q2 => fin ρ2 v2 H2 (f1.trans f2) r2 q2⟩
  have pe : PE X (.Call (.Name (Str.ofString (primNm p)) pp) (e0 :: es) [] pos) (tE X.K C (.prim p as)) := by
    have hp := prim_ok (X := X) p g.calm
    have hb := boot_prim p
    unfold primVal at hp hb
    by_cases ht : primTy p = true
    · rw [if_pos ht] at hp hb
      exact PE.imp (pe_callTy hp (g.glo h1) hm hb (ha.a X c _ g h3) (name_prim p) (debug_prim p) (star_cons hs.1) (by rw [backTo_any]; exact hs.2)) rd
    · rw [if_neg ht] at hp hb
      exact PE.imp (pe_callB hp (g.glo h1) hm hb (ha.a X c _ g h3) (name_prim p) (debug_prim p) (star_cons hs.1) (by rw [backTo_any]; exact hs.2)) rd
  refine ⟨pe, pt_of pe (fun _ => rfl) fun τ S b S' e => ?_⟩
  simp only [evT] at e
  obtain ⟨ds, S1, e1, e⟩ := Res.bind_eq_ok e
  obtain ⟨d, S2, e2, e⟩ := Res.bind_eq_ok e
  split at e
  · rename_i k hk
    cases e
    exact ⟨d, by simp only [evE]; rw [e1, Res.bind_ok, e2], hk⟩
  · cases e
theorem boot_cl : ∀ t ∈ clNames, bootBuiltins (Str.ofString t) = some (.type t) ∧ Str.ofString t ≠ "__name__" ∧ (Str.ofString t == ("__debug__" : Str)) = false := by
  intro t ht
  simp only [clNames, List.mem_cons, List.not_mem_nil, or_false] at ht
  rcases ht with rfl | rfl | rfl | rfl | rfl | rfl <;> exact ⟨by kernel_rfl, by decide +kernel, by decide +kernel⟩
theorem snd_isi {a : M} {t : String} (ha : Snd C a) : ∀ (X : Cx) (c : Ck) (x : Expr), Gd X C c → chkE (.isi a t) c x = true → PE X x (tE X.K C (.isi a t)) ∧ PT X x (tT X.K C (.isi a t)) := by
  intro X c x g h
  cases x <;> try (exact absurd h Bool.false_ne_true)
  rename_i fn es kws pos
  cases fn <;> try (exact absurd h Bool.false_ne_true)
  rename_i y pp
  rcases es with _ | ⟨e0, _ | ⟨e1, _ | ⟨e2, es⟩⟩⟩ <;> cases kws <;> try (exact absurd h Bool.false_ne_true)
  all_goals (cases e1 <;> try (exact absurd h Bool.false_ne_true))
  rename_i y2 p2
  simp only [cE_0, cE_1, cE_2, cE_3, cE_4, cE_5, cE_6, cE_7, cE_8, cE_9, cE_10, cE_11, cE_12, cE_13, cE_14, cE_15, cE_16, cE_17, cE_18, cE_19, cE_20, cE_21, cE_22, Bool.and_eq_true, beq_iff_eq] at h
  obtain ⟨⟨⟨⟨⟨⟨⟨rfl, rfl⟩, h1⟩, h2⟩, h3⟩, h4⟩, h5⟩, h6⟩ := h
  have ht : t ∈ clNames := by simpa using h5
  obtain ⟨b1, b2, b3⟩ := boot_cl t ht
  have py : PE X (.Name (Str.ofString t) p2) (L2.tC (.ty t)) := pe_bltn (g.glo h2) (g.top.blt _ (mem_contains h4)) b1 rfl b2 b3
  have pa : PA X [e0, .Name (Str.ofString t) p2] (tCons (tE X.K C a) (tCons (L2.tC (.ty t)) tNil)) := pa_cons (ha.e X c _ g h6) (pa_cons py pa_nil) (star_cons (noStar h6))
  have pe : PE X (.Call (.Name (Str.ofString "isinstance") pp) [e0, .Name (Str.ofString t) p2] [] pos) (tE X.K C (.isi a t)) := by
    refine PE.imp (pe_callB (isi_ok ht) (g.glo h1) (g.top.blt _ (mem_contains h3)) (by kernel_rfl) pa (by decide +kernel) (by decide +kernel) (star_cons (noStar h6)) (by rw [backTo_any]; rfl)) fun σ H Q ⟨ρ, S, τ, d, S', rs, re, e, fin⟩ => ?_
    simp only [evE] at e
    obtain ⟨x1, S1, e1, e⟩ := Res.bind_eq_ok e
    refine ⟨ρ, S, τ, x1, S1, rs, re, e1, fun ρ1 v1 H1 f1 r1 q1 => ?_⟩
    split at e
    · rename_i ty hy
      cases e
      exact ⟨ρ1, _, x1, v1, ty, r1, rfl, q1, hy, fin ρ1 _ H1 f1 r1 (RelD.bl _)⟩
    · cases e
  refine ⟨pe, pt_of pe (fun _ => rfl) fun τ S b S' e => ?_⟩
  simp only [evT] at e
  obtain ⟨x1, S1, e1, e⟩ := Res.bind_eq_ok e
  split at e
  · rename_i ty hy
    cases e
    exact ⟨_, by simp only [evE]; rw [e1, Res.bind_ok, hy], rfl⟩
  · cases e
theorem pe_bmG {X : Cx} {T id : String} {name : Str} {o e : Expr} {es : List Expr} {apos cpos : Pos} {to : TE} {t : TA} {r : V → List V → Hp → VK → Prop} {tp : V → Hp → Prop}
    (hT : ∀ pins s σ H x v, Inv X pins σ H s → RelV x v → tp x H → s.TypeIs v T ∧ ∀ a, v = .ref a → ∃ ob, s.heap.get? a = some ob ∧ ob.dict = none)
    (pa : PlainAttrs T) (slot : Slot T name id) (hty : typeOf (.builtin id) = pure (.type "method_descriptor")) (hm : MtR X id r) (ho : PE X o to) (ha : PA X (e :: es) t)
    (hbase : attributeBase o name X.env (eval o X.env) = eval o X.env)
    (hfew : ((backTo cpos (starEach (e :: es) X.env)).all (fun x => !x.1) && (backToKw cpos (keywordEach [] X.env)).all (fun x => x.1.isSome)
      && decide ((e :: es).length + ([] : List Keyword).length + (if ([] : List Keyword).isEmpty then 0 else 1) < 30)) = true)
    (hline : (apos.endLine == cpos.line) = true) (hs : starEach (e :: es) X.env = (false, eval e X.env) :: starEach es X.env) (hplain : (backTo cpos (starEach es X.env)).any (·.1) = false) :
    PE X (.Call (.Attribute o name apos) (e :: es) [] cpos) (fun σ H Q => to σ H fun x H1 => tp x H1 ∧ t σ H1 fun xs H2 => r x xs H2 Q) := by
  intro pins s σ H Q I h
  refine wpAny_Call_method_late hbase hfew hline rfl (thn (ho pins s σ H _ I h) fun v s1 ⟨x, H1, I1, r1, ty, q1⟩ => ?_)
  obtain ⟨h1, h2⟩ := hT pins s1 σ H1 x v I1 r1 ty
  refine ⟨T, id, pa, slot, hty, h1, h2, ?_⟩
  have hA := ha cpos pins s1 σ H1 _ I1 q1
  rw [hs] at hA ⊢
  refine Calls.callWith_builtin (by show (false || (backTo cpos (starEach es X.env)).any (·.1)) = false; rw [hplain] <;> rfl) (Calls.evalArgs_plain ?_)
  exact thn hA fun us s2 ⟨vs, H2, I2, r2, q2⟩ => hm pins s2 σ H2 x vs v us Q I2 r1 r2 q2
theorem chkA_cons {as : M} {c : Ck} {e : Expr} {es : List Expr} (h : chkA as c (e :: es) = true) : ∃ a b, as = .cns a b := by
  cases as <;> first | exact ⟨_, _, rfl⟩ | exact absurd h Bool.false_ne_true
theorem chkA_nil {as : M} {c : Ck} (h : chkA as c [] = true) : as = .nul := by
  cases as <;> first | rfl | exact absurd h Bool.false_ne_true
theorem snd_meth {p : Meth} {o as : M} (ho : Snd C o) (ha : Snd C as) : ∀ (X : Cx) (c : Ck) (x : Expr), Gd X C c → chkE (.meth p o as) c x = true → PE X x (tE X.K C (.meth p o as)) := by
  intro X c x g h
  cases x <;> try (exact absurd h Bool.false_ne_true)
  rename_i fn es kws pos
  cases fn <;> try (exact absurd h Bool.false_ne_true)
  rename_i e0 y ap
  cases kws <;> try (exact absurd h Bool.false_ne_true)
  simp only [cE_0, cE_1, cE_2, cE_3, cE_4, cE_5, cE_6, cE_7, cE_8, cE_9, cE_10, cE_11, cE_12, cE_13, cE_14, cE_15, cE_16, cE_17, cE_18, cE_19, cE_20, cE_21, cE_22, Bool.and_eq_true, beq_iff_eq, decide_eq_true_eq] at h
  obtain ⟨⟨⟨⟨⟨⟨rfl, h1⟩, h2⟩, h3⟩, h4⟩, h5⟩, h6⟩ := h
  have hbase : ∀ nm, attributeBase e0 nm X.env (eval e0 X.env) = eval e0 X.env := fun nm => by
    cases e0 <;> try rfl
    rename_i f0 a0 k0 p0
    cases f0 <;> try rfl
    cases a0 <;> try rfl
    cases k0 <;> try rfl
    simp [isCall0] at h1
  have hline : (ap.endLine == pos.line) = true := by simpa using h2
  have few : ∀ {e1 : Expr} {es' : List Expr}, es = e1 :: es' → chkA as c (e1 :: es') = true → ((backTo pos (starEach (e1 :: es') X.env)).all (fun x => !x.1) && (backToKw pos (keywordEach [] X.env)).all (fun x => x.1.isSome) && decide ((e1 :: es').length + ([] : List Keyword).length + (if ([] : List Keyword).isEmpty then 0 else 1) < 30)) = true := fun {e1 es'} ee h5' => by
    subst ee
    rw [backTo_all _ _ (noStars (env := X.env) h5')]
    simp only [Bool.true_and, Bool.and_eq_true, decide_eq_true_eq]
    exact ⟨rfl, by simp only [List.length_nil, List.isEmpty_nil, if_true]; omega⟩
  -- the reading: the receiver is a list
  have rd : (p ≠ .get2 ∧ p ≠ .indexT) → ∀ {t : TA}, (∀ σ H Q, tA X.K C as σ H Q → t σ H Q) → ∀ σ H Q, tE X.K C (.meth p o as) σ H Q → (tE X.K C o σ H fun x H1 => tyV X.K "list" x H1 ∧ t σ H1 fun xs H2 => rM X.K p x xs H2 Q) := fun hp {t} ht σ H Q ⟨ρ, S, τ, d, S', rs, re, e, fin⟩ => by
    simp only [evE] at e
    obtain ⟨x1, S1, e1, e⟩ := Res.bind_eq_ok e
    obtain ⟨ds, S2, e2, e⟩ := Res.bind_eq_ok e
    refine ⟨ρ, S, τ, x1, S1, rs, re, e1, fun ρ1 v1 H1 f1 r1 q1 => ⟨?_, ht σ H1 _ ⟨ρ1, S1, τ, ds, S2, r1, re.fut f1, e2, fun ρ2 vs H2 f2 r2 q2 => ?_⟩⟩⟩
    · have hl : ∃ l, x1 = .loc l := by
        cases p <;> first | (exact absurd rfl hp.1) | (exact absurd rfl hp.2) | (cases x1 <;> first | exact ⟨_, rfl⟩ | exact absurd e bad_ne | (rcases ds with _ | ⟨y, _ | ⟨z, ds⟩⟩ <;> exact absurd e bad_ne))
      obtain ⟨l, rfl⟩ := hl
      obtain ⟨a, rfl, hl⟩ := q1.loc_inv
      obtain ⟨ob, _, hob⟩ := r1.at hl
      cases ob with
      | lst es => obtain ⟨ys, hy, _⟩ := hob; exact .inl ⟨rfl, ys, SqL.of hy⟩
      | dct _ => exact hob.elim
      | ins _ _ => exact hob.elim
    · exact ⟨ρ2, S2, x1, ds, d, S', r2, q1.fut f2, q2, e, fun ρ3 v3 H3 f3 r3 q3 => fin ρ3 v3 H3 (f1.trans (f2.trans f3)) r3 q3⟩
  have run : (p ≠ .get2 ∧ p ≠ .indexT) → ∀ (slot : Slot "list" (Str.ofString (methNm p)) (methId p)) (hty : typeOf (.builtin (methId p)) = pure (.type "method_descriptor")), PE X (.Call (.Attribute e0 (Str.ofString (methNm p)) ap) es [] pos) (tE X.K C (.meth p o as)) := fun hp slot hty => by
    cases es with
    | nil =>
      refine PE.imp (pe_bm0 PySem.F.plainAttrs_list slot hty (meth_ok p g.top.un) (ho.e X c _ g h4) (hbase _) hline) fun σ H Q z => rd hp (t := fun _ H Q => Q [] H) (fun σ H Q ⟨ρ, S, τ, ds, S', rs, re, e, fin⟩ => ?_) σ H Q z
      obtain rfl := chkA_nil h5
      simp only [evA] at e
      cases e
      exact fin ρ [] H Fut.refl rs RelDs.nil
    | cons e1 es =>
      obtain ⟨a0, b0, rfl⟩ := chkA_cons h5
      have h5' := h5
      simp only [chkA, Bool.and_eq_true] at h5
      exact PE.imp (pe_bm PySem.F.plainAttrs_list slot hty (meth_ok p g.top.un) (ho.e X c _ g h4) (ha.a X c _ g h5') (hbase _) (few rfl h5') hline (star_cons (noStar h5.1)) (by rw [backTo_any]; exact noStars h5.2)) (rd hp fun σ H Q z => z)
  cases p with
  | append => exact run ⟨nofun, nofun⟩ PySem.F.slot_list_append PySem.F.type_list_append
  | pop0 => exact run ⟨nofun, nofun⟩ PySem.F.slot_list_pop PySem.F.type_list_pop
  | reverse => exact run ⟨nofun, nofun⟩ PySem.F.slot_list_reverse PySem.F.type_list_reverse
  | index => exact run ⟨nofun, nofun⟩ PySem.F.slot_list_index PySem.F.type_list_index
  | get2 =>
    cases es with
    | nil =>
      refine pe_no fun σ H Q ⟨ρ, S, τ, d, S', rs, re, e, fin⟩ => ?_
      obtain rfl := chkA_nil h5
      simp only [evE, evA] at e
      obtain ⟨x1, S1, e1, e⟩ := Res.bind_eq_ok e
      cases x1 <;> exact absurd e bad_ne
    | cons e1 es =>
      obtain ⟨a0, b0, rfl⟩ := chkA_cons h5
      have h5' := h5
      simp only [chkA, Bool.and_eq_true] at h5
      refine PE.imp (pe_bmG (T := "dict") (tp := fun x H => ∃ ρ kvs, RelD X.K ρ H (.kd kvs) x) (fun pins s σ H x v I r ⟨ρ, kvs, q⟩ => ?_) PySem.F.plainAttrs_dict PySem.F.slot_dict_get PySem.F.type_dict_get (meth_ok .get2 g.top.un) (ho.e X c _ g h4) (ha.a X c _ g h5') (hbase _) (few rfl h5') hline (star_cons (noStar h5.1)) (by rw [backTo_any]; exact noStars h5.2)) fun σ H Q ⟨ρ, S, τ, d, S', rs, re, e, fin⟩ => ?_
      · obtain ⟨a, rfl, kd⟩ := q.kd_inv
        cases r
        obtain ⟨ob, hob, hx⟩ := kd.obj I.kIn
        exact ⟨⟨ob, hob, hx.1⟩, fun a' e => by cases e; exact ⟨ob, hob, hx.2.1⟩⟩
      · simp only [evE] at e
        obtain ⟨x1, S1, e1, e⟩ := Res.bind_eq_ok e
        obtain ⟨ds, S2, e2, e⟩ := Res.bind_eq_ok e
        have hk : ∃ kvs, x1 = .kd kvs := by
          cases x1 <;> first | exact ⟨_, rfl⟩ | exact absurd e bad_ne | (rcases ds with _ | ⟨y, _ | ⟨z, ds⟩⟩ <;> exact absurd e bad_ne)
        obtain ⟨kvs, rfl⟩ := hk
        refine ⟨ρ, S, τ, _, S1, rs, re, e1, fun ρ1 v1 H1 f1 r1 q1 => ⟨⟨ρ1, kvs, q1⟩, ⟨ρ1, S1, τ, ds, S2, r1, re.fut f1, e2, fun ρ2 vs H2 f2 r2 q2 => ?_⟩⟩⟩
        exact ⟨ρ2, S2, _, ds, d, S', r2, q1.fut f2, q2, e, fun ρ3 v3 H3 f3 r3 q3 => fin ρ3 v3 H3 (f1.trans (f2.trans f3)) r3 q3⟩
  | indexT =>
    cases o <;> try (exact absurd h6 Bool.false_ne_true)
    rename_i gx
    cases e0 <;> try (exact absurd h4 Bool.false_ne_true)
    rename_i y0 p0
    simp only [cE_0, cE_1, cE_2, cE_3, cE_4, cE_5, cE_6, cE_7, cE_8, cE_9, cE_10, cE_11, cE_12, cE_13, cE_14, cE_15, cE_16, cE_17, cE_18, cE_19, cE_20, cE_21, cE_22, Bool.and_eq_true, beq_iff_eq] at h4
    obtain ⟨⟨rfl, k2⟩, k3⟩ := h4
    cases eg : C.glob gx with
    | none =>
      refine pe_no fun σ H Q ⟨ρ, S, τ, d, S', rs, re, e, fin⟩ => ?_
      simp only [evE, eg] at e
      cases e
    | some dg =>
      cases es with
      | nil =>
        refine pe_no fun σ H Q ⟨ρ, S, τ, d, S', rs, re, e, fin⟩ => ?_
        obtain rfl := chkA_nil h5
        simp only [evE, evA, eg, Res.bind_ok] at e
        cases dg <;> exact absurd e bad_ne
      | cons e1 es =>
        obtain ⟨a0, b0, rfl⟩ := chkA_cons h5
        have h5' := h5
        simp only [chkA, Bool.and_eq_true] at h5
        obtain ⟨v, u, hm, r, hr, ht⟩ := g.top.gl gx dg eg
        by_cases hd : ∃ ds, dg = .tup ds
        · obtain ⟨gs, rfl⟩ := hd
          obtain ⟨a, ob, rfl, hk, hc, hdd⟩ := ht gs rfl
          refine PE.imp (pe_bmG (T := "tuple") (tp := fun x H => x = .ref a) (fun pins s σ H x v I r e => ?_) PySem.F.plainAttrs_tuple PySem.F.slot_tuple_index PySem.F.type_tuple_index (meth_ok .indexT g.top.un) (pe_glob (g.glo k2) hm r (dbg1 k3)) (ha.a X c _ g h5') rfl (few rfl h5') hline (star_cons (noStar h5.1)) (by rw [backTo_any]; exact noStars h5.2)) fun σ H Q ⟨ρ, S, τ, d, S', rs, re, e, fin⟩ => ?_
          · subst e
            cases r
            exact ⟨⟨ob, I.kIn a ob hk, hc⟩, fun a' e => by cases e; exact ⟨ob, I.kIn a ob hk, hdd⟩⟩
          · simp only [evE, eg, Res.bind_ok] at e
            obtain ⟨ds, S2, e2, e⟩ := Res.bind_eq_ok e
            refine ⟨rfl, ρ, S, τ, ds, S2, rs, re, e2, fun ρ2 vs H2 f2 r2 q2 => ?_⟩
            exact ⟨ρ2, S2, _, ds, d, S', r2, hr ρ2 H2, q2, e, fun ρ3 v3 H3 f3 r3 q3 => fin ρ3 v3 H3 (f2.trans f3) r3 q3⟩
        · refine pe_no fun σ H Q ⟨ρ, S, τ, d, S', rs, re, e, fin⟩ => ?_
          simp only [evE, eg, Res.bind_ok] at e
          obtain ⟨ds, S2, e2, e⟩ := Res.bind_eq_ok e
          cases dg <;> first | (exact absurd ⟨_, rfl⟩ hd) | exact absurd e bad_ne | (rcases ds with _ | ⟨y, _ | ⟨z, ds⟩⟩ <;> exact absurd e bad_ne)
end
end Mi

namespace Mi
open PySem L2
section
variable {C : Pr}
theorem snd_cst {d : D} : ∀ (X : Cx) (c : Ck) (x : Expr), Gd X C c → chkE (.cst d) c x = true → PE X x (tE X.K C (.cst d)) := by
  intro X c x g h
  cases d <;> cases x <;> try (exact absurd h Bool.false_ne_true)
  all_goals (rename_i k _ _; cases k <;> try (exact absurd h Bool.false_ne_true))
  · refine PE.imp pe_non fun σ H Q ⟨ρ, S, τ, d, S', rs, re, e, fin⟩ => ?_
    simp only [evE] at e
    cases e
    exact fin.now rs RelD.non
  · simp only [cE_0, cE_1, cE_2, cE_3, cE_4, cE_5, cE_6, cE_7, cE_8, cE_9, cE_10, cE_11, cE_12, cE_13, cE_14, cE_15, cE_16, cE_17, cE_18, cE_19, cE_20, cE_21, cE_22, beq_iff_eq] at h
    subst h
    refine PE.imp pe_bl fun σ H Q ⟨ρ, S, τ, d, S', rs, re, e, fin⟩ => ?_
    simp only [evE] at e
    cases e
    exact fin.now rs (RelD.bl _)
  · simp only [cE_0, cE_1, cE_2, cE_3, cE_4, cE_5, cE_6, cE_7, cE_8, cE_9, cE_10, cE_11, cE_12, cE_13, cE_14, cE_15, cE_16, cE_17, cE_18, cE_19, cE_20, cE_21, cE_22, beq_iff_eq] at h
    subst h
    refine PE.imp pe_int fun σ H Q ⟨ρ, S, τ, d, S', rs, re, e, fin⟩ => ?_
    simp only [evE] at e
    cases e
    exact fin.now rs (RelD.int _)
  · simp only [cE_0, cE_1, cE_2, cE_3, cE_4, cE_5, cE_6, cE_7, cE_8, cE_9, cE_10, cE_11, cE_12, cE_13, cE_14, cE_15, cE_16, cE_17, cE_18, cE_19, cE_20, cE_21, cE_22, beq_iff_eq] at h
    subst h
    refine PE.imp pe_str fun σ H Q ⟨ρ, S, τ, d, S', rs, re, e, fin⟩ => ?_
    simp only [evE] at e
    cases e
    exact fin.now rs (RelD.str _)
theorem snd_var {i : Nat} : ∀ (X : Cx) (c : Ck) (x : Expr), Gd X C c → chkE (.var i) c x = true → PE X x (tE X.K C (.var i)) ∧ PT X x (tT X.K C (.var i)) := by
  intro X c x g h
  cases x <;> try (exact absurd h Bool.false_ne_true)
  rename_i y p
  simp only [cE_0, cE_1, cE_2, cE_3, cE_4, cE_5, cE_6, cE_7, cE_8, cE_9, cE_10, cE_11, cE_12, cE_13, cE_14, cE_15, cE_16, cE_17, cE_18, cE_19, cE_20, cE_21, cE_22, Bool.and_eq_true, beq_iff_eq] at h
  obtain ⟨⟨h1, h2⟩, h3⟩ := h
  have pe : PE X (.Name y p) (tE X.K C (.var i)) := by
    refine PE.imp (pe_var (i := i) (by rw [g.N]; exact h1) (g.vis h2) (dbg1 h3) (dbg2 h3)) fun σ H Q ⟨ρ, S, τ, d, S', rs, re, e, fin⟩ => ?_
    simp only [evE] at e
    split at e
    · rename_i d' hd
      cases e
      obtain ⟨v, hv, q⟩ := re.at' i _ hd
      exact ⟨v, hv, fin.now rs q⟩
    · cases e
  refine ⟨pe, pt_of pe (fun _ => rfl) fun τ S b S' e => ?_⟩
  simp only [evT] at e
  split at e
  · rename_i d hd
    split at e
    · rename_i b' hb
      cases e
      exact ⟨d, by simp only [evE]; rw [hd], hb⟩
    · cases e
  · cases e
theorem snd_glb {n : String} : ∀ (X : Cx) (c : Ck) (x : Expr), Gd X C c → chkE (.glb n) c x = true → PE X x (tE X.K C (.glb n)) := by
  intro X c x g h
  cases x <;> try (exact absurd h Bool.false_ne_true)
  rename_i y p
  simp only [cE_0, cE_1, cE_2, cE_3, cE_4, cE_5, cE_6, cE_7, cE_8, cE_9, cE_10, cE_11, cE_12, cE_13, cE_14, cE_15, cE_16, cE_17, cE_18, cE_19, cE_20, cE_21, cE_22, Bool.and_eq_true, beq_iff_eq] at h
  obtain ⟨⟨rfl, h2⟩, h3⟩ := h
  cases e0 : C.glob n with
  | none => exact pe_no (tE_no fun τ S => by simp only [evE]; rw [e0])
  | some d =>
    obtain ⟨v, u, hm, r, hr, _⟩ := g.top.gl n d e0
    refine PE.imp (pe_glob (g.glo h2) hm r (dbg1 h3)) fun σ H Q ⟨ρ, S, τ, d, S', rs, re, e, fin⟩ => ?_
    simp only [evE] at e
    rw [e0] at e
    cases e
    exact fin.now rs (hr ρ H)
theorem snd_bv {a b : M} (ha : Snd C a) (hb : Snd C b) : ∀ (X : Cx) (c : Ck) (w : Bool) (x : List Expr) (pos : Pos), Gd X C c → chkA (.cns a b) c x = true → PE X (.BoolOp (if w then .And else .Or) x pos) (tBV X.K C w (.cns a b)) := by
  intro X c w x pos g h
  cases x with
  | nil => simp only [chkA] at h; cases h
  | cons e es =>
    have h0 := h
    simp only [chkA, Bool.and_eq_true] at h
    cases b <;> try (cases es <;> simp only [chkA] at h <;> exact absurd h.2 Bool.false_ne_true)
    · cases es with
      | cons e1 es => simp only [chkA] at h; exact absurd h.2 Bool.false_ne_true
      | nil =>
        refine PE.imp (pe_one (ha.e X c e g h.1)) fun σ H Q ⟨ρ, S, τ, d, S', rs, re, e, fin⟩ => ?_
        simp only [evBV] at e
        exact ⟨ρ, S, τ, d, S', rs, re, e, fin⟩
    · rename_i a' b'
      cases es with
      | nil => simp only [chkA] at h; exact absurd h.2 Bool.false_ne_true
      | cons e1 es =>
        have hbv := hb.bv X c w (e1 :: es) pos g h.2
        cases w with
        | true =>
          refine PE.imp (pe_and (ha.e X c e g h.1) hbv) fun σ H Q ⟨ρ, S, τ, d, S', rs, re, e, fin⟩ => ?_
          simp only [evBV] at e
          obtain ⟨x1, S1, e1, e⟩ := Res.bind_eq_ok e
          refine ⟨ρ, S, τ, x1, S1, rs, re, e1, fun ρ1 v1 H1 f1 r1 q1 => ?_⟩
          cases x1 <;> simp only at e <;> try (cases e; done)
          rename_i k
          refine ⟨k, q1.bl_inv, ?_⟩
          cases k with
          | true =>
            rw [if_pos rfl] at e ⊢
            exact ⟨ρ1, S1, τ, d, S', r1, re.fut f1, e, fun ρ2 v2 H2 f2 => fin ρ2 v2 H2 (f1.trans f2)⟩
          | false =>
            rw [if_neg Bool.false_ne_true] at e ⊢
            cases e
            exact fin ρ1 _ H1 f1 r1 (RelD.bl _)
        | false =>
          refine PE.imp (pe_or (ha.e X c e g h.1) hbv) fun σ H Q ⟨ρ, S, τ, d, S', rs, re, e, fin⟩ => ?_
          simp only [evBV] at e
          obtain ⟨x1, S1, e1, e⟩ := Res.bind_eq_ok e
          refine ⟨ρ, S, τ, x1, S1, rs, re, e1, fun ρ1 v1 H1 f1 r1 q1 => ?_⟩
          cases x1 <;> simp only at e <;> try (cases e; done)
          rename_i k
          refine ⟨k, q1.bl_inv, ?_⟩
          cases k with
          | false =>
            rw [if_pos rfl] at e
            rw [if_neg Bool.false_ne_true]
            exact ⟨ρ1, S1, τ, d, S', r1, re.fut f1, e, fun ρ2 v2 H2 f2 => fin ρ2 v2 H2 (f1.trans f2)⟩
          | true =>
            rw [if_neg (by decide)] at e
            rw [if_pos rfl]
            cases e
            exact fin ρ1 _ H1 f1 r1 (RelD.bl _)
theorem snd_bt {a b : M} (ha : Snd C a) (hb : Snd C b) : ∀ (X : Cx) (c : Ck) (w : Bool) (x : List Expr) (pos : Pos), Gd X C c → chkA (.cns a b) c x = true → PW X (.BoolOp (if w then .And else .Or) x pos) (tBT X.K C w (.cns a b)) := by
  intro X c w x pos g h
  cases x with
  | nil => simp only [chkA] at h; cases h
  | cons e es =>
    simp only [chkA, Bool.and_eq_true] at h
    cases b <;> try (cases es <;> simp only [chkA] at h <;> exact absurd h.2 Bool.false_ne_true)
    · cases es with
      | cons e1 es => simp only [chkA] at h; exact absurd h.2 Bool.false_ne_true
      | nil =>
        have hi : ∀ σ H Q, tBT X.K C w (.cns a .nul) σ H Q → tT X.K C a σ H Q := fun σ H Q ⟨ρ, S, τ, d, S', rs, re, e, fin⟩ => by
          simp only [evBT] at e
          exact ⟨ρ, S, τ, d, S', rs, re, e, fin⟩
        cases w with
        | true => exact fun wh pins s σ H Q I q => pw_and1 (ha.t X c e g h.1) wh pins s σ H Q I (hi _ _ _ q)
        | false => exact fun wh pins s σ H Q I q => pw_or1 (ha.t X c e g h.1) wh pins s σ H Q I (hi _ _ _ q)
    · rename_i a' b'
      cases es with
      | nil => simp only [chkA] at h; exact absurd h.2 Bool.false_ne_true
      | cons e1 es =>
        have hbv := hb.bt X c w (e1 :: es) pos g h.2
        cases w with
        | true =>
          refine fun wh pins s σ H Q I q => pw_and (ha.t X c e g h.1) hbv wh pins s σ H Q I ?_
          obtain ⟨ρ, S, τ, d, S', rs, re, e, fin⟩ := q
          simp only [evBT] at e
          obtain ⟨k, S1, e1, e⟩ := Res.bind_eq_ok e
          refine ⟨ρ, S, τ, k, S1, rs, re, e1, fun ρ1 H1 f1 r1 => ?_⟩
          cases k with
          | true =>
            rw [if_pos rfl] at e ⊢
            exact ⟨ρ1, S1, τ, d, S', r1, re.fut f1, e, fun ρ2 H2 f2 => fin ρ2 H2 (f1.trans f2)⟩
          | false =>
            rw [if_neg Bool.false_ne_true] at e ⊢
            cases e
            exact fin ρ1 H1 f1 r1
        | false =>
          refine fun wh pins s σ H Q I q => pw_or (ha.t X c e g h.1) hbv wh pins s σ H Q I ?_
          obtain ⟨ρ, S, τ, d, S', rs, re, e, fin⟩ := q
          simp only [evBT] at e
          obtain ⟨k, S1, e1, e⟩ := Res.bind_eq_ok e
          refine ⟨ρ, S, τ, k, S1, rs, re, e1, fun ρ1 H1 f1 r1 => ?_⟩
          cases k with
          | false =>
            rw [if_pos rfl] at e
            rw [if_neg Bool.false_ne_true]
            exact ⟨ρ1, S1, τ, d, S', r1, re.fut f1, e, fun ρ2 H2 f2 => fin ρ2 H2 (f1.trans f2)⟩
          | true =>
            rw [if_neg (by decide)] at e
            rw [if_pos rfl]
            cases e
            exact fin ρ1 H1 f1 r1
theorem snd_bo {w : Bool} {as : M} (ha : Snd C as) : ∀ (X : Cx) (c : Ck) (x : Expr), Gd X C c → chkE (.bo w as) c x = true → PE X x (tE X.K C (.bo w as)) ∧ PT X x (tT X.K C (.bo w as)) := by
  intro X c x g h
  have main : ∀ es pos, chkA as c es = true → PE X (.BoolOp (if w then .And else .Or) es pos) (tE X.K C (.bo w as)) ∧ PT X (.BoolOp (if w then .And else .Or) es pos) (tT X.K C (.bo w as)) := fun es pos h => by
    refine ⟨PE.imp (ha.bv X c w es pos g h) fun σ H Q ⟨ρ, S, τ, d, S', rs, re, e, fin⟩ => ?_, PT.imp (ha.bt X c w es pos g h).pt fun σ H Q ⟨ρ, S, τ, d, S', rs, re, e, fin⟩ => ?_⟩
    · simp only [evE] at e
      exact ⟨ρ, S, τ, d, S', rs, re, e, fin⟩
    · simp only [evT] at e
      exact ⟨ρ, S, τ, d, S', rs, re, e, fin⟩
  cases w <;> cases x <;> try (exact absurd h Bool.false_ne_true)
  all_goals (rename_i op es pos; cases op <;> try (exact absurd h Bool.false_ne_true))
  all_goals (simp only [cE_0, cE_1, cE_2, cE_3, cE_4, cE_5, cE_6, cE_7, cE_8, cE_9, cE_10, cE_11, cE_12, cE_13, cE_14, cE_15, cE_16, cE_17, cE_18, cE_19, cE_20, cE_21, cE_22] at h; exact main es pos h)
noncomputable def iSeq (K : PySem.W.Frag) (tl : TE) : TI := fun σ H R => tl σ H fun x H1 => ∃ a, x = .ref a ∧ (((∃ xs, SqL K H1 a xs) ∧ R (Itl K a) H1) ∨ ((∃ xs, SqT K H1 a xs) ∧ R (Itt K a) H1))
theorem pi_seq {X : Cx} {tg l : Expr} {tl : TE} (hl : PE X l tl) : PI X tg l (iSeq X.K tl) := by
  intro pins s σ H R I h
  refine thn (hl pins s σ H _ I h) fun v s1 ⟨x, H1, I1, r1, q1⟩ => ?_
  obtain ⟨a, e, q1⟩ := q1
  subst e
  cases r1
  rcases q1 with ⟨⟨xs, hq⟩, q⟩ | ⟨⟨xs, hq⟩, q⟩
  · obtain ⟨its, rv, p, hz⟩ := I1.list hq
    refine wpAny_pyIter_list p.isList ?_
    refine ⟨s1.heap.objs.size, [s1.heap.objs.size], _, _, H1, rfl, I1.kept (t' := s1.toks) fun b o e => Heap.get?_push_of_some _ e, turn_list a _, ⟨_, Heap.get?_push_size _ rfl, rfl, rfl⟩, fun b hb => ?_, q⟩
    have e : b = s1.heap.objs.size := by simpa using hb
    subst e
    exact I1.fpOk (Nat.le_refl _) (I1.hok.fresh (Nat.le_refl _))
  · obtain ⟨its, rv, p, hz⟩ := I1.tuple hq
    refine wpAny_pyIter_tuple (show s1.heap.IsTuple a its.toArray from p) ?_
    refine ⟨s1.heap.objs.size, [s1.heap.objs.size], _, _, H1, rfl, I1.kept (t' := s1.toks) fun b o e => Heap.get?_push_of_some _ e, turn_tuple a _, ⟨_, Heap.get?_push_size _ rfl, rfl, rfl⟩, fun b hb => ?_, q⟩
    have e : b = s1.heap.objs.size := by simpa using hb
    subst e
    exact I1.fpOk (Nat.le_refl _) (I1.hok.fresh (Nat.le_refl _))
theorem itok_rng {K : PySem.W.Frag} {ρ : List Addr} {H : Hp} (lo : Int) (n : Nat) : ItOk K ρ H (Itr lo n) none ((List.range n).map fun (i : Nat) => D.int (lo + i)) where
  go := fun ρ' H' S i d f r s e => by
    simp only [nth, List.getElem?_map, Option.map_eq_some_iff] at e
    obtain ⟨j, hj, rfl⟩ := e
    obtain ⟨h1, h2⟩ := List.getElem?_eq_some_iff.mp hj
    simp only [List.getElem_range] at h2
    subst h2
    refine ⟨(by simpa using h1 : i < n), fun x H2 ⟨e1, e2⟩ => ⟨e1, ?_⟩⟩
    subst e2
    exact RelD.int _
  stop := fun ρ' H' S f r s => by
    show n ≤ _
    simp
theorem itok_lst {K : PySem.W.Frag} {ρ : List Addr} {H : Hp} {l : Nat} {a : Addr} (hl : ρ[l]? = some a) (ds : List D) : ItOk K ρ H (Itl K a) (some l) ds where
  go := fun ρ' H' S i d f r s e => by
    simp only [nth] at e
    split at e
    · rename_i es he
      have ha := f.get hl
      obtain ⟨xs, hx, q⟩ := r.ob l a _ ha (seqAt_lst he)
      obtain ⟨v, hv, rv⟩ := q.get e
      refine ⟨⟨xs, v, SqL.of hx, hv⟩, fun x H2 ⟨e1, e2⟩ => ⟨e1, ?_⟩⟩
      have := e2 xs (SqL.of hx)
      rw [hv] at this
      cases this
      exact rv
    · cases e
  stop := fun ρ' H' S f r s => by
    simp only [sameAt] at s
    split at s
    · rename_i es he
      obtain ⟨xs, hx, q⟩ := r.ob l a _ (f.get hl) he
      refine ⟨xs, SqL.of hx, ?_⟩
      rw [← q.length]
      simp only [beq_iff_eq] at s
      omega
    · cases s
theorem itok_kl {K : PySem.W.Frag} {ρ : List Addr} {H : Hp} {a : Addr} {xs : List V} {ds : List D} (hs : SqF K H a xs) (t : RelDs K ρ H ds xs) : ItOk K ρ H (Itl K a) none ds where
  go := fun ρ' H' S i d f r s e => by
    have hs' := (f.sqF hs).sq
    obtain ⟨v, hv, rv⟩ := (t.fut f).get (show ds[i]? = some d from e)
    refine ⟨⟨xs, v, hs', hv⟩, fun x H2 ⟨e1, e2⟩ => ⟨e1, ?_⟩⟩
    have := e2 xs hs'
    rw [hv] at this
    cases this
    exact rv
  stop := fun ρ' H' S f r s => ⟨xs, (f.sqF hs).sq, by rw [← t.length]; exact Nat.le_refl _⟩
theorem snd_i_seq {a : M} (ha : Snd C a) : ∀ (X : Cx) (c : Ck) (tg x : Expr), Gd X C c → chkE a c x = true → PI X tg x (tI X.K C (.cns a .nul)) := by
  intro X c tg x g h
  refine PI.imp (pi_seq (ha.e X c x g h)) fun σ H R ⟨ρ, S, τ, gg, ds, S', rs, re, e, fin⟩ => ?_
  simp only [evI] at e
  obtain ⟨d, S1, e1, e⟩ := Res.bind_eq_ok e
  refine ⟨ρ, S, τ, d, S1, rs, re, e1, fun ρ1 v1 H1 f1 r1 q1 => ?_⟩
  split at e
  · cases e
    obtain ⟨p, xs, rfl, sq, t⟩ := q1.tup_inv
    refine ⟨p, rfl, .inr ⟨⟨xs, sq⟩, fin ρ1 H1 _ f1 r1 ?_⟩⟩
    exact { go := (fun ρ' H' S i d f r s e => by
              have hs' := f.tup _ _ sq
              obtain ⟨v, hv, rv⟩ := (t.fut f).get (show ds[i]? = some d from e)
              refine ⟨⟨xs, v, hs', hv⟩, fun x H2 ⟨e1, e2⟩ => ⟨e1, ?_⟩⟩
              have := e2 xs hs'
              rw [hv] at this
              cases this
              exact rv), stop := fun ρ' H' S f r s => ⟨xs, f.tup _ _ sq, by rw [← t.length]; exact Nat.le_refl _⟩ }
  · cases e
    obtain ⟨p, xs, rfl, sq, t⟩ := q1.kl_inv
    exact ⟨p, rfl, .inl ⟨⟨xs, sq.sq⟩, fin ρ1 H1 _ f1 r1 (itok_kl sq t)⟩⟩
  · split at e
    · rename_i es he
      cases e
      obtain ⟨p, xs, rfl, hl, hx, t⟩ := r1.lst q1 (seqAt_lst he)
      exact ⟨p, rfl, .inl ⟨⟨xs, SqL.of hx⟩, fin ρ1 H1 _ f1 r1 (itok_lst hl _)⟩⟩
    · cases e
  · cases e
theorem snd_i_rng {a : M} (ha : Snd C a) : ∀ (X : Cx) (c : Ck) (tg x : Expr), Gd X C c → chkI (.rng a) c x = true → PI X tg x (tI X.K C (.rng a)) := by
  intro X c tg x g h
  cases x <;> try (exact absurd h Bool.false_ne_true)
  rename_i fn es kws pos
  cases fn <;> try (exact absurd h Bool.false_ne_true)
  rename_i y pp
  rcases es with _ | ⟨e0, _ | ⟨e1, es⟩⟩ <;> cases kws <;> try (exact absurd h Bool.false_ne_true)
  simp only [cI_0, cI_1, cI_2, Bool.and_eq_true, beq_iff_eq] at h
  obtain ⟨⟨⟨rfl, h1⟩, h2⟩, h3⟩ := h
  refine PI.imp (pi_range1 (g.glo h1) (g.top.blt _ (mem_contains h2)) (pa_cons (ha.e X c _ g h3) pa_nil (star_cons (noStar h3))) (star_cons (noStar h3))) fun σ H R ⟨ρ, S, τ, gg, ds, S', rs, re, e, fin⟩ => ?_
  simp only [evI] at e
  obtain ⟨d, S1, e1, e⟩ := Res.bind_eq_ok e
  refine ⟨ρ, S, τ, d, S1, rs, re, e1, fun ρ1 v1 H1 f1 r1 q1 => ?_⟩
  split at e
  · rename_i j
    split at e
    · rename_i hj
      simp only [Bool.and_eq_true, decide_eq_true_eq] at hj
      cases e
      cases q1.int_inv
      refine ⟨j, rfl, hj.1, hj.2, fin ρ1 H1 _ f1 r1 ?_⟩
      have := itok_rng (K := X.K) (ρ := ρ1) (H := H1) 0 j.toNat
      simpa only [Int.zero_add] using this
    · cases e
  · cases e
theorem snd_i_rng2 {a b : M} (ha : Snd C a) (hb : Snd C b) : ∀ (X : Cx) (c : Ck) (tg x : Expr), Gd X C c → chkI (.rng2 a b) c x = true → PI X tg x (tI X.K C (.rng2 a b)) := by
  intro X c tg x g h
  cases x <;> try (exact absurd h Bool.false_ne_true)
  rename_i fn es kws pos
  cases fn <;> try (exact absurd h Bool.false_ne_true)
  rename_i y pp
  rcases es with _ | ⟨e0, _ | ⟨e1, _ | ⟨e2, es⟩⟩⟩ <;> cases kws <;> try (exact absurd h Bool.false_ne_true)
  simp only [cI_0, cI_1, cI_2, Bool.and_eq_true, beq_iff_eq] at h
  obtain ⟨⟨⟨⟨rfl, h1⟩, h2⟩, h3⟩, h4⟩ := h
  refine PI.imp (pi_range2 (g.glo h1) (g.top.blt _ (mem_contains h2)) (pa_cons (ha.e X c _ g h3) (pa_cons (hb.e X c _ g h4) pa_nil (star_cons (noStar h4))) (star_cons (noStar h3))) (by rw [star_cons (noStar h3), star_cons (noStar h4)]; rfl) (star_cons (noStar h4))) fun σ H R ⟨ρ, S, τ, gg, ds, S', rs, re, e, fin⟩ => ?_
  simp only [evI] at e
  obtain ⟨d, S1, e1, e⟩ := Res.bind_eq_ok e
  obtain ⟨d2, S2, e2, e⟩ := Res.bind_eq_ok e
  refine ⟨ρ, S, τ, d, S1, rs, re, e1, fun ρ1 v1 H1 f1 r1 q1 => ⟨ρ1, S1, τ, d2, S2, r1, re.fut f1, e2, fun ρ2 v2 H2 f2 r2 q2 => ?_⟩⟩
  cases d <;> cases d2 <;> simp only at e <;> try (cases e; done)
  split at e
  · rename_i hj
    simp only [Bool.and_eq_true, decide_eq_true_eq] at hj
    cases e
    cases (q1.fut f2).int_inv
    cases q2.int_inv
    exact ⟨_, _, rfl, ⟨hj.1.1.1, hj.1.1.2, hj.1.2, hj.2⟩, fin ρ2 H2 _ (f1.trans f2) r2 (itok_rng _ _)⟩
  · cases e
end
end Mi

namespace Mi
open PySem L2
section
variable {C : Pr}
theorem noStarG : ∀ {m : M} {c : Ck} {e : Expr}, chkG m c e = true → ∀ x p, e ≠ .Starred x p := by
  intro m c e h x p z
  subst z
  cases m <;> exact absurd h Bool.false_ne_true
theorem gs_len : ∀ {m : M} {c : Ck} {es : List Expr} {env : Env}, chkGs m c es = true → (assignEach es env).length = es.length ∧ (assignEach es env).findIdx? (·.1) = none := by
  intro m
  induction m with
  | nul => intro c es env h; cases es <;> simp [chkGs] at h; exact ⟨rfl, rfl⟩
  | cns a b _ ihb =>
    intro c es env h
    cases es with
    | nil => simp [chkGs] at h
    | cons e es =>
      simp only [chkGs, Bool.and_eq_true] at h
      rw [assign_cons (noStarG h.1)]
      obtain ⟨h1, h2⟩ := ihb (env := env) h.2
      refine ⟨by rw [List.length_cons, List.length_cons, h1], ?_⟩
      rw [List.findIdx?_cons, h2]
      rfl
  | _ => intro c es env h; cases es <;> simp [chkGs] at h
theorem gs_ev : ∀ {m : M} {c : Ck} {es : List Expr} {ds : List D} {τ τ' : En} {S S' : Store}, chkGs m c es = true → evGs C m ds τ S = .ok τ' S' → ds.length = es.length := by
  intro m
  induction m with
  | nul =>
    intro c es ds τ τ' S S' h e
    cases es <;> simp [chkGs] at h
    cases ds <;> simp only [evGs] at e
    · rfl
    · cases e
  | cns a b _ ihb =>
    intro c es ds τ τ' S S' h e
    cases es with
    | nil => simp [chkGs] at h
    | cons x es =>
      simp only [chkGs, Bool.and_eq_true] at h
      cases ds with
      | nil => simp only [evGs] at e; cases e
      | cons d ds =>
        simp only [evGs] at e
        obtain ⟨τ1, S1, e1, e⟩ := Res.bind_eq_ok e
        rw [List.length_cons, List.length_cons, ihb h.2 e]
  | _ => intro c es ds τ τ' S S' h; cases es <;> simp [chkGs] at h
theorem snd_g_var {i : Nat} : ∀ (X : Cx) (c : Ck) (x : Expr), Gd X C c → chkG (.tvar i) c x = true → PG X x (tG X.K C (.tvar i)) := by
  intro X c x g h
  cases x <;> try (exact absurd h Bool.false_ne_true)
  rename_i y p
  simp only [cG_0, cG_1, cG_2, Bool.and_eq_true, beq_iff_eq] at h
  obtain ⟨h1, h2⟩ := h
  obtain ⟨o1, o2⟩ := g.own h2
  refine PG.imp (pg_name (i := i) g.nd (by rw [g.N]; exact h1) o1 o2) fun v σ H Q ⟨ρ, S, τ, d, τ', S', rs, re, rd, e, fin⟩ => ?_
  simp only [evG] at e
  split at e
  · cases e
    exact fin ρ _ H Fut.refl rs (re.set rd i)
  · cases e
theorem snd_g_tup {ts : M} (ha : Snd C ts) : ∀ (X : Cx) (c : Ck) (x : Expr), Gd X C c → chkG (.ttup ts) c x = true → PG X x (tG X.K C (.ttup ts)) := by
  intro X c x g h
  cases x <;> try (exact absurd h Bool.false_ne_true)
  rename_i es k p
  simp only [cG_0, cG_1, cG_2] at h
  refine PG.imp (pg_tup g.calm (ha.gs X c _ g h) (gs_len h).1 (gs_len h).2) fun v σ H Q ⟨ρ, S, τ, d, τ', S', rs, re, rd, e, fin⟩ => ?_
  simp only [evG] at e
  split at e
  · rename_i ds
    obtain ⟨a, xs, rfl, sq, t⟩ := rd.tup_inv
    exact ⟨a, xs, rfl, sq, by rw [← t.length]; exact gs_ev h e, ρ, S, τ, ds, τ', S', rs, re, t, e, fin⟩
  · cases e
theorem snd_g_sub {a b : M} (ha : Snd C a) (hb : Snd C b) : ∀ (X : Cx) (c : Ck) (x : Expr), Gd X C c → chkG (.tsub a b) c x = true → PG X x (tG X.K C (.tsub a b)) := by
  intro X c x g h
  cases x <;> try (exact absurd h Bool.false_ne_true)
  rename_i o i p
  simp only [cG_0, cG_1, cG_2, Bool.and_eq_true] at h
  have nsl : ∀ l u t p, i ≠ .Slice l u t p := by
    intro l u t p z
    subst z
    have h2 := h.2
    cases b <;> first | (exact absurd h2 Bool.false_ne_true) | (rename_i d; cases d <;> exact absurd h2 Bool.false_ne_true) | (rename_i w _; cases w <;> exact absurd h2 Bool.false_ne_true)
  refine PG.imp (pg_sub (ha.e X c _ g h.1) (hb.e X c _ g h.2) set_ok (by
    intro v
    cases i <;> first | rfl | exact absurd rfl (nsl _ _ _ _))) fun v σ H Q ⟨ρ, S, τ, d, τ', S', rs, re, rd, e, fin⟩ => ?_
  simp only [evG] at e
  obtain ⟨d1, S1, e1, e⟩ := Res.bind_eq_ok e
  obtain ⟨d2, S2, e2, e⟩ := Res.bind_eq_ok e
  obtain ⟨_, S3, e3, e⟩ := Res.bind_eq_ok e
  cases e
  refine ⟨ρ, S, τ, d1, S1, rs, re, e1, fun ρ1 v1 H1 f1 r1 q1 => ⟨ρ1, S1, τ, d2, S2, r1, re.fut f1, e2, fun ρ2 v2 H2 f2 r2 q2 => ?_⟩⟩
  refine ⟨ρ2, S2, d1, d2, d, S', r2, q1.fut f2, q2, rd.fut (f1.trans f2), e3, fun H3 f3 r3 => ?_⟩
  have f := f1.trans (f2.trans f3)
  exact fin ρ2 σ H3 f r3 (re.fut f)
theorem snd_gs_cns {a b : M} (ha : Snd C a) (hb : Snd C b) : ∀ (X : Cx) (c : Ck) (x : List Expr), Gd X C c → chkGs (.cns a b) c x = true → PGs X x (tGs X.K C (.cns a b)) := by
  intro X c x g h
  cases x with
  | nil => simp only [chkGs] at h; cases h
  | cons e es =>
    simp only [chkGs, Bool.and_eq_true] at h
    refine PGs.imp (pgs_cons (ha.g X c _ g h.1) (hb.gs X c _ g h.2) (by rw [assign_cons (noStarG h.1)]; rfl)) fun vs σ H Q ⟨ρ, S, τ, ds, τ', S', rs, re, rd, e, fin⟩ => ?_
    cases ds with
    | nil => simp only [evGs] at e; cases e
    | cons d ds =>
      simp only [evGs] at e
      obtain ⟨τ1, S1, e1, e⟩ := Res.bind_eq_ok e
      obtain ⟨v, r, rfl, q, t⟩ := rd.inv_cons
      refine ⟨v, r, rfl, ρ, S, τ, d, τ1, S1, rs, re, q, e1, fun ρ1 σ1 H1 f1 r1 q1 => ?_⟩
      exact ⟨ρ1, S1, τ1, ds, τ', S', r1, q1, t.fut f1, e, fun ρ2 σ2 H2 f2 => fin ρ2 σ2 H2 (f1.trans f2)⟩
theorem snd_gs_nul : ∀ (X : Cx) (c : Ck) (x : List Expr), Gd X C c → chkGs .nul c x = true → PGs X x (tGs X.K C .nul) := by
  intro X c x g h
  cases x with
  | cons e es => simp only [chkGs] at h; cases h
  | nil =>
    refine PGs.imp pgs_nil fun vs σ H Q ⟨ρ, S, τ, ds, τ', S', rs, re, rd, e, fin⟩ => ?_
    cases ds with
    | cons d ds => simp only [evGs] at e; cases e
    | nil =>
      simp only [evGs] at e
      cases e
      exact ⟨rd.inv_nil, fin ρ σ H Fut.refl rs re⟩
theorem Ck.compOk {X : Cx} {c : Ck} {N : List String} {k : Nat} {keep : List Nat} {scope : Scope} (g : Gd X C c) (h : c.comp N k keep scope = true) : CompOk X (N.map Str.ofString) k keep scope ∧ (N.map Str.ofString).Nodup := by
  unfold Ck.comp at h
  simp only [Bool.and_eq_true, List.all_eq_true, beq_iff_eq, bne_iff_ne, Bool.or_eq_true, decide_eq_true_eq] at h
  obtain ⟨⟨⟨⟨⟨⟨h1, h2⟩, h3⟩, h4⟩, h5⟩, h6⟩, h7⟩ := h
  refine ⟨⟨h1, h2, fun y hy hl => ?_, fun y hy hf => ?_, by rw [List.length_map]; exact h5, fun j i hj => ?_⟩, h6⟩
  · rcases h3 y hy with z | z
    · exact absurd hl z
    · exact z
  · rw [g.names]
    rcases h4 y hy with (z | z) | z
    · exact absurd hf z
    · exact .inl z
    · exact .inr z
  · have hlt := (List.getElem?_eq_some_iff.mp hj).1
    have := h7 j (by simpa using hlt)
    rw [hj] at this
    split at this
    · rename_i i' x e1 e2
      cases e1
      simp only [Bool.and_eq_true, beq_iff_eq] at this
      exact ⟨x, e2, by rw [g.N]; exact this.1, this.2⟩
    · cases this
theorem Gd.inner {X : Cx} {c : Ck} {N : List String} {k : Nat} {keep : List Nat} {scope : Scope} (g : Gd X C c) (h : c.comp N k keep scope = true) (s₃ : Shared) (H : Hp) (ex : List Addr) (pins : List (Addr × PySem.Obj)) :
    Gd (compCx X (N.map Str.ofString) scope s₃ H ex pins) C (c.inner N scope) := by
  obtain ⟨ok, nd⟩ := Ck.compOk g h
  refine ⟨rfl, nd, ?_, ok.kind, fun x => rfl, g.calm, rfl, g.top⟩
  show (relabel scope X.env).names = relab scope.names c.names
  unfold relabel relab
  show scope.names.map _ = scope.names.map _
  refine List.map_congr_left fun p hp => ?_
  obtain ⟨n, q⟩ := p
  have e1 : (X.env.scope.kind == ScopeKind.function) = true := by rw [g.sk]; rfl
  have e2 : X.env.kindOf n = c.names.lookup n := by
    show X.env.scope.names.lookup n = _
    rw [g.names]
  simp only [e1, e2, Bool.and_true]
noncomputable def OwnE (k : Nat) (τ0 τ : En) : Prop := τ.length = τ0.length ∧ ∀ i, k ≤ i → τ[i]? = τ0[i]?
theorem evG_own {k : Nat} : ∀ {m : M}, tgOwn k m = true → (∀ {d : D} {τ0 τ τ' : En} {S S' : Store}, OwnE k τ0 τ → evG C m d τ S = .ok τ' S' → OwnE k τ0 τ' ∧ S' = S) ∧ (∀ {ds : List D} {τ0 τ τ' : En} {S S' : Store}, OwnE k τ0 τ → evGs C m ds τ S = .ok τ' S' → OwnE k τ0 τ' ∧ S' = S) := by
  intro m
  induction m with
  | tvar i =>
    intro h
    simp only [tgOwn, decide_eq_true_eq] at h
    refine ⟨fun {d τ0 τ τ' S S'} o e => ?_, fun {ds τ0 τ τ' S S'} o e => ?_⟩
    · simp only [evG] at e
      split at e
      · cases e
        refine ⟨⟨by rw [List.length_set]; exact o.1, fun j hj => ?_⟩, rfl⟩
        rw [List.getElem?_set_ne (by omega)]
        exact o.2 j hj
      · cases e
    · simp only [evGs] at e; cases e
  | ttup ts ih =>
    intro h
    simp only [tgOwn] at h
    refine ⟨fun {d τ0 τ τ' S S'} o e => ?_, fun {ds τ0 τ τ' S S'} o e => ?_⟩
    · simp only [evG] at e
      split at e
      · exact (ih h).2 o e
      · cases e
    · simp only [evGs] at e; cases e
  | nul =>
    intro h
    refine ⟨fun {d τ0 τ τ' S S'} o e => ?_, fun {ds τ0 τ τ' S S'} o e => ?_⟩
    · simp only [evG] at e; cases e
    · cases ds <;> simp only [evGs] at e
      · cases e; exact ⟨o, rfl⟩
      · cases e
  | cns a b iha ihb =>
    intro h
    simp only [tgOwn, Bool.and_eq_true] at h
    refine ⟨fun {d τ0 τ τ' S S'} o e => ?_, fun {ds τ0 τ τ' S S'} o e => ?_⟩
    · simp only [evG] at e; cases e
    · cases ds <;> simp only [evGs] at e
      · cases e
      · obtain ⟨τ1, S1, e1, e2⟩ := Res.bind_eq_ok e
        obtain ⟨o1, rfl⟩ := (iha h.1).1 o e1
        exact (ihb h.2).2 o1 e2
  | _ => intro h; simp [tgOwn] at h
noncomputable abbrev turnC (C : Pr) (tg cd el : M) : D → En → Store → Res (Option D) := fun d τ1 S2 => (evG C tg d τ1 S2).bind fun τ2 S3 => (evC C cd τ2 S3).bind fun b S4 => if b then (evE C el τ2 S4).bind fun y S5 => .ok (some y) S5 else .ok none S4
theorem inEn_none {k : Nat} {keep : List Nat} {τ : En} {i : Nat} {d : D} (h : (inEn k keep τ)[i]? = some (some d)) : k ≤ i := by
  unfold inEn at h
  by_cases hi : i < k
  · rw [List.getElem?_append_left (by simpa using hi), List.getElem?_replicate, if_pos hi] at h
    cases h
  · omega
theorem compW_of {K : PySem.W.Frag} {tg cd el : M} {J : It} {ρ0 : List Addr} {H0 : Hp} {g : Option Nat} {ds : List D} {ys : List D} {S0 S' : Store} {Q : List V → Hp → Prop} {k : Nat} {keep : List Nat} {τ0 : En} {σ0 : L2.St} (hown : tgOwn k tg = true) (it : ItOk K ρ0 H0 J g ds)
    (rs0 : RelS K ρ0 S0 H0) (re0 : RelE K ρ0 H0 (inEn k keep τ0) σ0) (e0 : compL (turnC C tg cd el) g ds ds.length 0 (inEn k keep τ0) S0 [] = .ok ys S') (fin : ∀ ρ H xs, Fut K ρ0 H0 ρ H → RelS K ρ S' H → RelDs K ρ H ys xs → Q xs H) :
    CompW J (tG K C tg) (tC K C cd) (tE K C el) Q σ0 H0 := by
  refine ⟨fun i m xs σ H => ∃ ρ S acc, Fut K ρ0 H0 ρ H ∧ RelS K ρ S H ∧ RelE K ρ H (inEn k keep τ0) σ ∧ RelDs K ρ H acc xs ∧ i + m = ds.length ∧ acc.length ≤ Line ∧ compL (turnC C tg cd el) g ds m i (inEn k keep τ0) S acc = .ok ys S', ⟨ds.length, ρ0, S0, [], Fut.refl, rs0, re0, RelDs.nil, Nat.zero_add _, Nat.zero_le _, e0⟩, ?_⟩
  rintro i m xs σ H ⟨ρ, S, acc, f, rs, re, ra, hi, hl, e⟩
  refine ⟨by rw [← ra.length, ← line_eq]; exact hl, ?_⟩
  cases m with
  | zero =>
    simp only [compL] at e
    split at e
    · rename_i hs
      cases e
      refine .inl ⟨?_, fin ρ H xs f rs ra⟩
      have : i = ds.length := by omega
      rw [this]
      exact it.stop ρ H _ f rs hs
    · cases e
  | succ m =>
    simp only [compL] at e
    split at e
    · rename_i hs
      split at e
      · cases e
      · rename_i d hd
        obtain ⟨hgo, hy⟩ := it.go ρ H S i d f rs hs hd
        refine .inr ⟨hgo, fun x H' hyl => ?_⟩
        obtain ⟨rfl, rd⟩ := hy x H' hyl
        obtain ⟨o, S1, e1, e⟩ := Res.bind_eq_ok e
        obtain ⟨τ2, S2, eG, e1⟩ := Res.bind_eq_ok e1
        obtain ⟨b, S3, eC, e1⟩ := Res.bind_eq_ok e1
        have own : OwnE k (inEn k keep τ0) τ2 := ((evG_own (C := C) hown).1 (τ0 := inEn k keep τ0) ⟨rfl, fun _ _ => rfl⟩ eG).1
        have less : Less τ2 (inEn k keep τ0) := ⟨own.1.symm, fun j d hj => by rw [own.2 j (inEn_none hj)]; exact hj⟩
        refine ⟨ρ, S, _, d, τ2, S2, rs, re, rd, eG, fun ρ1 σ1 H1 f1 r1 q1 => ⟨ρ1, S2, τ2, b, S3, r1, q1, eC, fun ρ2 H2 f2 r2 => ?_⟩⟩
        cases b with
        | true =>
          rw [if_pos rfl] at e1 ⊢
          obtain ⟨y, S4, eE, e1⟩ := Res.bind_eq_ok e1
          cases e1
          simp only at e
          split at e
          · rename_i hlt
            refine ⟨ρ2, S3, τ2, y, S1, r2, q1.fut f2, eE, fun ρ3 v3 H3 f3 r3 q3 => ⟨m, Nat.lt_succ_self m, ?_⟩⟩
            have f13 := f1.trans (f2.trans f3)
            exact ⟨ρ3, S1, acc ++ [y], f.trans f13, r3, (q1.fut (f2.trans f3)).less less, (ra.fut f13).append (RelDs.cons q3 RelDs.nil), by omega, by rw [List.length_append]; exact hlt, e⟩
          · cases e
        | false =>
          rw [if_neg Bool.false_ne_true] at e1 ⊢
          cases e1
          simp only at e
          have f12 := f1.trans f2
          exact ⟨m, Nat.lt_succ_self m, ρ2, S1, acc, f.trans f12, r2, (q1.fut f2).less less, ra.fut f12, by omega, hl, e⟩
    · cases e
theorem comp_read {X : Cx} {N : List String} {k : Nat} {keep : List Nat} {tg it cd el : M} (hown : tgOwn k tg = true) {σ : L2.St} {H : Hp} {Q : VK} (h : tE X.K C (.comp N k keep tg it cd el) σ H Q) : tComp k keep (tI X.K C it) (tG X.K C tg) (tC X.K C cd) (tE X.K C el) σ H Q := by
  obtain ⟨ρ, S, τ, d, S', rs, re, e, fin⟩ := h
  simp only [evE] at e
  obtain ⟨w, S1, e1, e⟩ := Res.bind_eq_ok e
  obtain ⟨ys, S2, e2, e⟩ := Res.bind_eq_ok e
  cases e
  obtain ⟨g, ds⟩ := w
  refine ⟨ρ, S, τ, g, ds, S1, rs, re, e1, fun ρ1 H1 J f1 r1 itk => ?_⟩
  refine compW_of hown itk r1 ((re.fut f1).inner k keep) e2 fun ρ2 H2 xs f2 r2 q2 => ?_
  exact Fin.newL (ρ := ρ2) (fun ρ3 v3 H3 f3 r3 q3 => fin ρ3 v3 H3 (f1.trans (f2.trans f3)) r3 q3) r2 q2
theorem snd_comp {N : List String} {k : Nat} {keep : List Nat} {tg it cd el : M} (hg : Snd C tg) (hi : Snd C it) (hc : Snd C cd) (he : Snd C el) : ∀ (X : Cx) (c : Ck) (x : Expr), Gd X C c → chkE (.comp N k keep tg it cd el) c x = true → PE X x (tE X.K C (.comp N k keep tg it cd el)) := by
  intro X c x g h
  cases x <;> try (exact absurd h Bool.false_ne_true)
  rename_i elt gens scope pos
  rcases gens with _ | ⟨⟨t, i, fs, asy⟩, _ | ⟨g2, gens⟩⟩ <;> try (exact absurd h Bool.false_ne_true)
  simp only [cE_0, cE_1, cE_2, cE_3, cE_4, cE_5, cE_6, cE_7, cE_8, cE_9, cE_10, cE_11, cE_12, cE_13, cE_14, cE_15, cE_16, cE_17, cE_18, cE_19, cE_20, cE_21, cE_22, Bool.and_eq_true, beq_iff_eq] at h
  obtain ⟨⟨⟨⟨⟨⟨rfl, h1⟩, h2⟩, h3⟩, h4⟩, h5⟩, h6⟩ := h
  obtain ⟨pi, fs0⟩ := hi.i X c t i g h4
  refine PE.imp (pe_comp (Ck.compOk g h1).1 g.calm pi (fun s₃ H ex pins => hg.g _ _ _ (g.inner h1 s₃ H ex pins) h3) (fun s₃ H ex pins => hc.cd _ _ _ (g.inner h1 s₃ H ex pins) h5) (fun s₃ H ex pins => he.e _ _ _ (g.inner h1 s₃ H ex pins) h6) fs0) fun σ H Q q => comp_read h2 q
end
end Mi

namespace Mi
open PySem L2
section
variable {C : Pr}
theorem notComp_none {e : Expr} {n : Nat} {env : Env} (h : isComp e = false) : swapsWith e none n env = pure false := by
  cases e <;> first | rfl | (simp [isComp] at h)
theorem notComp_some {e t : Expr} {n : Nat} {env : Env} (h : isComp e = false) : swapsWith e (some t) n env = pure false := by
  cases e <;> first | rfl | (simp [isComp] at h)
theorem swaps_name {e : Expr} {x : Str} {p : Pos} {n : Nat} {env : Env} : swapsWith e (some (.Name x p)) n env = pure true ∨ swapsWith e (some (.Name x p)) n env = pure false := by
  have h : ∃ b, swapsWith e (some (.Name x p)) n env = pure b := by
    cases e <;> exact ⟨_, rfl⟩
  obtain ⟨b, h⟩ := h
  cases b
  · exact .inr h
  · exact .inl h
theorem swapped_none {t e : Expr} {env : Env} (h : ∀ a b p, t = .Tuple a b p → ∀ a' b' p', e ≠ .Tuple a' b' p') (hl : ∀ a p, t ≠ .List a p) : swappedStores [t] e env = pure none := by
  cases t <;> first | rfl | exact absurd rfl (hl _ _) | skip
  rename_i a b p
  cases e <;> first | rfl | exact absurd rfl (h a b p rfl _ _ _)
theorem asg_read {K : PySem.W.Frag} {t e : M} {D : Ends} {σ : L2.St} {H : Hp} (h : tS K C (.asg t e) D σ H) : tAsg (tE K C e) (tG K C t) D σ H := by
  obtain ⟨ρ, S, τ, fl, S', rs, re, e0, fin⟩ := h
  simp only [evS] at e0
  obtain ⟨d, S1, e1, e0⟩ := Res.bind_eq_ok e0
  obtain ⟨τ1, S2, e2, e0⟩ := Res.bind_eq_ok e0
  cases e0
  exact ⟨ρ, S, τ, d, S1, rs, re, e1, fun ρ1 v1 H1 f1 r1 q1 => ⟨ρ1, S1, τ, d, τ1, S', r1, re.fut f1, q1, e2, fun ρ2 σ2 H2 f2 => fin ρ2 σ2 H2 (f1.trans f2)⟩⟩
theorem chk_lc {e : M} {c : Ck} {elt : Expr} {gens : List Comprehension} {scope : Scope} {pos : Pos} (h : chkE e c (.ListComp elt gens scope pos) = true) : ∃ N k keep mg mi mc me, e = .comp N k keep mg mi mc me := by
  cases e <;> first | exact ⟨_, _, _, _, _, _, _, rfl⟩ | (exact absurd h Bool.false_ne_true) | (rename_i d; cases d <;> exact absurd h Bool.false_ne_true) | (rename_i w _; cases w <;> exact absurd h Bool.false_ne_true)
theorem chk_sc {e : M} {c : Ck} {elt : Expr} {gens : List Comprehension} {scope : Scope} {pos : Pos} : ¬ chkE e c (.SetComp elt gens scope pos) = true := by
  intro h
  cases e <;> first | (exact absurd h Bool.false_ne_true) | (rename_i d; cases d <;> exact absurd h Bool.false_ne_true) | (rename_i w _; cases w <;> exact absurd h Bool.false_ne_true)
theorem chk_dc {e : M} {c : Ck} {k elt : Expr} {gens : List Comprehension} {scope : Scope} {pos : Pos} : ¬ chkE e c (.DictComp k elt gens scope pos) = true := by
  intro h
  cases e <;> first | (exact absurd h Bool.false_ne_true) | (rename_i d; cases d <;> exact absurd h Bool.false_ne_true) | (rename_i w _; cases w <;> exact absurd h Bool.false_ne_true)
theorem snd_asg {t e : M} (ht : Snd C t) (he : Snd C e) (hc : ∀ N k keep tg it cd el, e = .comp N k keep tg it cd el → Snd C tg ∧ Snd C it ∧ Snd C cd ∧ Snd C el) : ∀ (X : Cx) (c : Ck) (x : Stmt), Gd X C c → chkS (.asg t e) c x = true → PS X x (tS X.K C (.asg t e)) := by
  intro X c x g h
  cases x <;> try (exact absurd h Bool.false_ne_true)
  rename_i tgs v pos
  rcases tgs with _ | ⟨tg, _ | ⟨t2, tgs⟩⟩ <;> try (exact absurd h Bool.false_ne_true)
  simp only [cS_0, cS_1, cS_2, cS_3, cS_4, cS_5, cS_6, cS_7, cS_8, cS_9, cS_10, Bool.and_eq_true] at h
  obtain ⟨⟨h1, h2⟩, h3⟩ := h
  have one : (assignEach [tg] X.env).map (·.2) = [assign tg X.env] := by rw [assign_cons (noStarG h1)]; rfl
  have nlist : ∀ a p, tg ≠ .List a p := by
    intro a p z
    subst z
    cases t <;> exact absurd h1 Bool.false_ne_true
  by_cases hn : ∃ y p, tg = .Name y p
  · obtain ⟨y, p, rfl⟩ := hn
    rcases swaps_name (e := v) (x := y) (p := p) (n := pos.line) (env := X.env) with hs | hs
    · -- a comprehension
      cases v <;> first | (exact absurd hs (by intro z; cases z)) | skip
      · -- list comprehension
        rename_i elt gens scope cpos
        cases t <;> try (exact absurd h1 Bool.false_ne_true)
        rename_i i
        obtain ⟨N, k, keep, mg, mi, mc, me, rfl⟩ := chk_lc h2
        obtain ⟨sg, si, sc, se⟩ := hc _ _ _ _ _ _ _ rfl
        rcases gens with _ | ⟨⟨tt, ii, fs, asy⟩, _ | ⟨g2, gens⟩⟩ <;> try (exact absurd h2 Bool.false_ne_true)
        simp only [cE_0, cE_1, cE_2, cE_3, cE_4, cE_5, cE_6, cE_7, cE_8, cE_9, cE_10, cE_11, cE_12, cE_13, cE_14, cE_15, cE_16, cE_17, cE_18, cE_19, cE_20, cE_21, cE_22, Bool.and_eq_true, beq_iff_eq] at h2
        obtain ⟨⟨⟨⟨⟨⟨rfl, k1⟩, k2⟩, k3⟩, k4⟩, k5⟩, k6⟩ := h2
        obtain ⟨pi, fs0⟩ := si.i X c tt ii g k4
        simp only [cG_0, cG_1, cG_2, Bool.and_eq_true, beq_iff_eq] at h1
        obtain ⟨o1, o2⟩ := g.own h1.2
        refine PS.imp (ps_comp (i := i) (wi := tI X.K C mi) (g := tG X.K C mg) (tc := tC X.K C mc) (te := tE X.K C me) g.nd (by rw [g.N]; exact h1.1) o1 o2 hs (Ck.compOk g k1).1 g.calm pi (fun s₃ H ex pins => sg.g _ _ _ (g.inner k1 s₃ H ex pins) k3) (fun s₃ H ex pins => sc.cd _ _ _ (g.inner k1 s₃ H ex pins) k5) (fun s₃ H ex pins => se.e _ _ _ (g.inner k1 s₃ H ex pins) k6) fs0) fun D σ H q => ?_
        obtain ⟨ρ, S, τ, fl, S', rs, re, e0, fin⟩ := q
        refine comp_read (N := N) k2 ⟨ρ, S, τ, ?_⟩
        simp only [evS] at e0
        obtain ⟨d, S1, e1, e0⟩ := Res.bind_eq_ok e0
        obtain ⟨τ1, S2, e2, e0⟩ := Res.bind_eq_ok e0
        cases e0
        refine ⟨d, S1, rs, re, e1, fun ρ1 v1 H1 f1 r1 q1 => ?_⟩
        simp only [evG] at e2
        split at e2
        · cases e2
          exact fin ρ1 _ H1 f1 r1 ((re.fut f1).set q1 i)
        · cases e2
      · exact absurd h2 chk_sc
      · exact absurd h2 chk_dc
    · cases t <;> try (exact absurd h1 Bool.false_ne_true)
      rename_i i
      simp only [cG_0, cG_1, cG_2, Bool.and_eq_true, beq_iff_eq] at h1
      obtain ⟨o1, o2⟩ := g.own h1.2
      refine PS.imp (ps_set (i := i) g.nd (by rw [g.N]; exact h1.1) o1 (he.e X c _ g h2) hs o2) fun D σ H q => ?_
      obtain ⟨ρ, S, τ, fl, S', rs, re, e0, fin⟩ := q
      simp only [evS] at e0
      obtain ⟨d, S1, e1, e0⟩ := Res.bind_eq_ok e0
      obtain ⟨τ1, S2, e2, e0⟩ := Res.bind_eq_ok e0
      cases e0
      refine ⟨ρ, S, τ, d, S1, rs, re, e1, fun ρ1 v1 H1 f1 r1 q1 => ?_⟩
      simp only [evG] at e2
      split at e2
      · cases e2
        exact fin ρ1 _ H1 f1 r1 ((re.fut f1).set q1 i)
      · cases e2
  · have hv : isComp v = false := by
      cases v <;> first | rfl | (exfalso; cases tg <;> first | (exact absurd ⟨_, _, rfl⟩ hn) | (exact absurd h3 Bool.false_ne_true))
    refine PS.imp (ps_asg (he.e X c _ g h2) (ht.g X c _ g h1) (by show swapsWith v (some tg) _ _ = _; exact notComp_some hv) (swapped_none (fun a b p z a' b' p' z' => by subst z; subst z'; simp at h3) nlist) one) fun D σ H q => asg_read q
theorem snd_ifs {t a b : M} (ht : Snd C t) (ha : Snd C a) (hb : Snd C b) : ∀ (X : Cx) (c : Ck) (x : Stmt), Gd X C c → chkS (.ifs t a b) c x = true → PS X x (tS X.K C (.ifs t a b)) := by
  intro X c x g h
  cases x <;> try (exact absurd h Bool.false_ne_true)
  simp only [cS_0, cS_1, cS_2, cS_3, cS_4, cS_5, cS_6, cS_7, cS_8, cS_9, cS_10, Bool.and_eq_true] at h
  refine PS.imp (ps_if (ht.t X c _ g h.1.1) (ha.b X c _ g h.1.2) (hb.b X c _ g h.2)) fun D σ H ⟨ρ, S, τ, fl, S', rs, re, e, fin⟩ => ?_
  simp only [evS] at e
  obtain ⟨k, S1, e1, e⟩ := Res.bind_eq_ok e
  refine ⟨ρ, S, τ, k, S1, rs, re, e1, fun ρ1 H1 f1 r1 => ?_⟩
  have fin' : FlOk X.K ρ1 H1 fl S' D := by
    cases fl with
    | nx τ' => exact fun ρ2 σ2 H2 f2 => fin ρ2 σ2 H2 (f1.trans f2)
    | rt d => exact fun ρ2 σ2 H2 f2 => fin ρ2 σ2 H2 (f1.trans f2)
    | bk τ' => exact fun ρ2 σ2 H2 f2 => fin ρ2 σ2 H2 (f1.trans f2)
    | ct τ' => exact fun ρ2 σ2 H2 f2 => fin ρ2 σ2 H2 (f1.trans f2)
  cases k with
  | true => exact iteT ⟨ρ1, S1, τ, fl, S', r1, re.fut f1, e, fin'⟩
  | false => exact iteF ⟨ρ1, S1, τ, fl, S', r1, re.fut f1, e, fin'⟩
theorem FlOk.fut {K : PySem.W.Frag} {ρ ρ1 : List Addr} {H H1 : Hp} {fl : Fl} {S' : Store} {D : Ends} (fin : FlOk K ρ H fl S' D) (f1 : Fut K ρ H ρ1 H1) : FlOk K ρ1 H1 fl S' D := by
  cases fl with
  | nx τ' => exact fun ρ2 σ2 H2 f2 => fin ρ2 σ2 H2 (f1.trans f2)
  | rt d => exact fun ρ2 σ2 H2 f2 => fin ρ2 σ2 H2 (f1.trans f2)
  | bk τ' => exact fun ρ2 σ2 H2 f2 => fin ρ2 σ2 H2 (f1.trans f2)
  | ct τ' => exact fun ρ2 σ2 H2 f2 => fin ρ2 σ2 H2 (f1.trans f2)
theorem snd_for {t i b : M} (ht : Snd C t) (hi : Snd C i) (hb : Snd C b) : ∀ (X : Cx) (c : Ck) (x : Stmt), Gd X C c → chkS (.forr t i b) c x = true → PS X x (tS X.K C (.forr t i b)) := by
  intro X c x g h
  cases x <;> try (exact absurd h Bool.false_ne_true)
  rename_i tg iter body els pos
  cases els <;> try (exact absurd h Bool.false_ne_true)
  simp only [cS_0, cS_1, cS_2, cS_3, cS_4, cS_5, cS_6, cS_7, cS_8, cS_9, cS_10, Bool.and_eq_true] at h
  obtain ⟨pi, fs0⟩ := hi.i X c tg iter g h.1.2
  refine PS.imp (ps_for (by rw [g.xe]; exact PassesOwn.never) g.calm pi (ht.g X c _ g h.1.1) (hb.b X c _ g h.2) fs0) fun D σ H ⟨ρ, S, τ, fl, S', rs, re, e, fin⟩ => ?_
  simp only [evS] at e
  obtain ⟨w, S1, e1, e⟩ := Res.bind_eq_ok e
  obtain ⟨gg, ds⟩ := w
  refine ⟨ρ, S, τ, gg, ds, S1, rs, re, e1, fun ρ0 H0 J f0 r0 it => ?_⟩
  have fin0 := fin.fut f0
  let turn : Mi.D → En → Store → Res Fl := fun d τ1 S2 => (evG C t d τ1 S2).bind fun τ2 S3 => evB C b τ2 S3
  have e : forL turn gg ds ds.length 0 τ S1 = .ok fl S' := e
  refine ⟨fun i m σ H => ∃ ρ S τ, Fut X.K ρ0 H0 ρ H ∧ RelS X.K ρ S H ∧ RelE X.K ρ H τ σ ∧ i + m = ds.length ∧ forL turn gg ds m i τ S = .ok fl S', ⟨ds.length, ρ0, S1, τ, Fut.refl, r0, re.fut f0, Nat.zero_add _, e⟩, ?_⟩
  rintro i m σ H ⟨ρ, S, τ, f, rs, re, hi, e⟩
  cases m with
  | zero =>
    simp only [forL] at e
    split at e
    · rename_i hs
      cases e
      refine .inl ⟨?_, fin0 ρ σ H f rs re⟩
      have : i = ds.length := by omega
      rw [this]
      exact it.stop ρ H _ f rs hs
    · cases e
  | succ m =>
    simp only [forL] at e
    split at e
    · rename_i hs
      split at e
      · cases e
      · rename_i d hd
        obtain ⟨hgo, hy⟩ := it.go ρ H S i d f rs hs hd
        refine .inr ⟨hgo, fun σ' H' => ∃ ρ' S'' τ', Fut X.K ρ0 H0 ρ' H' ∧ RelS X.K ρ' S'' H' ∧ RelE X.K ρ' H' τ' σ' ∧ forL turn gg ds m (i + 1) τ' S'' = .ok fl S', fun σ' H' ⟨ρ', S'', τ', a1, a2, a3, a4⟩ => ⟨m, Nat.lt_succ_self m, ρ', S'', τ', a1, a2, a3, by omega, a4⟩, fun x H' hyl => ?_⟩
        obtain ⟨rfl, rd⟩ := hy x H' hyl
        obtain ⟨fl1, S1, e1, e⟩ := Res.bind_eq_ok e
        obtain ⟨τ2, S2, eG, eB⟩ := Res.bind_eq_ok e1
        refine ⟨ρ, S, τ, d, τ2, S2, rs, re, rd, eG, fun ρ1 σ1 H1 f1 r1 q1 => ⟨ρ1, S2, τ2, fl1, S1, r1, q1, eB, ?_⟩⟩
        cases fl1 with
        | nx τ1 => exact fun ρ2 σ2 H2 f2 r2 q2 => ⟨ρ2, S1, τ1, f.trans (f1.trans f2), r2, q2, e⟩
        | ct τ1 => exact fun ρ2 σ2 H2 f2 r2 q2 => ⟨ρ2, S1, τ1, f.trans (f1.trans f2), r2, q2, e⟩
        | bk τ1 =>
          simp only at e
          cases e
          exact fun ρ2 σ2 H2 f2 r2 q2 => fin0 ρ2 σ2 H2 (f.trans (f1.trans f2)) r2 q2
        | rt d =>
          simp only at e
          cases e
          exact fun ρ2 v2 H2 f2 r2 q2 => fin0 ρ2 v2 H2 (f.trans (f1.trans f2)) r2 q2
    · cases e
theorem snd_zipf {t a b d : M} (ht : Snd C t) (ha : Snd C a) (hb : Snd C b) (hd : Snd C d) : ∀ (X : Cx) (c : Ck) (x : Stmt), Gd X C c → chkS (.zipf t a b d) c x = true → PS X x (tS X.K C (.zipf t a b d)) := by
  intro X c x g h
  cases x <;> try (exact absurd h Bool.false_ne_true)
  rename_i tg iter body els pos
  cases tg <;> try (exact absurd h Bool.false_ne_true)
  cases iter <;> try (exact absurd h Bool.false_ne_true)
  rename_i ts kk tp fn es kws cp
  cases fn <;> try (exact absurd h Bool.false_ne_true)
  rename_i y pp
  rcases es with _ | ⟨e0, _ | ⟨e1, _ | ⟨e2, es⟩⟩⟩ <;> cases kws <;> cases els <;> try (exact absurd h Bool.false_ne_true)
  simp only [cS_0, cS_1, cS_2, cS_3, cS_4, cS_5, cS_6, cS_7, cS_8, cS_9, cS_10, Bool.and_eq_true, beq_iff_eq] at h
  obtain ⟨⟨⟨⟨⟨⟨rfl, h1⟩, h2⟩, h3⟩, h4⟩, h5⟩, h6⟩ := h
  refine PS.imp (ps_for (by rw [g.xe]; exact PassesOwn.never) g.calm (pi_zip (g.glo h1) (g.top.blt _ (mem_contains h2)) (pa_cons (ha.e X c _ g h4) (pa_cons (hb.e X c _ g h5) pa_nil (star_cons (noStar h5))) (star_cons (noStar h4))) (by rw [star_cons (noStar h4), star_cons (noStar h5)]; rfl) (star_cons (noStar h5))) (ht.g X c _ g h3) (hd.b X c _ g h6) (fun _ => rfl)) fun D σ H ⟨ρ, S, τ, fl, S', rs, re, e, fin⟩ => ?_
  simp only [evS] at e
  obtain ⟨x1, S1, q1, e⟩ := Res.bind_eq_ok e
  obtain ⟨x2, S2, q2, e⟩ := Res.bind_eq_ok e
  refine ⟨ρ, S, τ, x1, S1, rs, re, q1, fun ρ1 v1 H1 f1 r1 w1 => ⟨ρ1, S1, τ, x2, S2, r1, re.fut f1, q2, fun ρ2 v2 H2 f2 r2 w2 => ?_⟩⟩
  obtain ⟨l, rfl⟩ : ∃ l, x1 = .loc l := by cases x1 <;> first | exact ⟨_, rfl⟩ | exact absurd e bad_ne
  obtain ⟨k, rfl⟩ : ∃ k, x2 = .loc k := by cases x2 <;> first | exact ⟨_, rfl⟩ | exact absurd e bad_ne
  simp only at e
  split at e
  · rename_i xs ys hx hy
    have w1' := w1.fut f2
    obtain ⟨a1, z1, rfl, o1, p1, t1⟩ := r2.lst w1' (seqAt_lst hx)
    obtain ⟨a2, z2, rfl, o2, p2, t2⟩ := r2.lst w2 (seqAt_lst hy)
    have fin0 := fin.fut (f1.trans f2)
    let turn : Mi.D → En → Store → Res Fl := fun d0 τ1 S2 => (evG C t d0 τ1 S2).bind fun τ2 S3 => evB C d τ2 S3
    have e : zipL turn l k (min xs.length ys.length) 0 τ S2 = .ok fl S' := e
    refine ⟨a1, a2, rfl, ⟨_, SqL.of p1⟩, ⟨_, SqL.of p2⟩, fun i m σ H => ∃ ρ S τ, Fut X.K ρ2 H2 ρ H ∧ RelS X.K ρ S H ∧ RelE X.K ρ H τ σ ∧ zipL turn l k m i τ S = .ok fl S', ⟨_, ρ2, S2, τ, Fut.refl, r2, re.fut (f1.trans f2), e⟩, ?_⟩
    rintro i m σ H ⟨ρ, S, τ, f, rs, re, e⟩
    cases m with
    | zero =>
      simp only [zipL] at e
      split at e
      · rename_i xs' ys' hx' hy'
        split at e
        · rename_i hle
          cases e
          obtain ⟨b1, z1', eb1, _, p1', t1'⟩ := rs.lst (w1'.fut f) (seqAt_lst hx')
          obtain ⟨b2, z2', eb2, _, p2', t2'⟩ := rs.lst (w2.fut f) (seqAt_lst hy')
          cases eb1; cases eb2
          exact .inl ⟨⟨z1', z2', SqL.of p1', SqL.of p2', by rw [← t1'.length, ← t2'.length]; exact hle⟩, fin0 ρ σ H f rs re⟩
        · exact absurd e bad_ne
      · exact absurd e bad_ne
    | succ m =>
      simp only [zipL] at e
      split at e
      · rename_i xs' ys' hx' hy'
        split at e
        · rename_i dx dy hdx hdy
          obtain ⟨b1, z1', eb1, _, p1', t1'⟩ := rs.lst (w1'.fut f) (seqAt_lst hx')
          obtain ⟨b2, z2', eb2, _, p2', t2'⟩ := rs.lst (w2.fut f) (seqAt_lst hy')
          cases eb1; cases eb2
          obtain ⟨vx, ex, rx⟩ := t1'.get hdx
          obtain ⟨vy, ey, ry⟩ := t2'.get hdy
          refine .inr ⟨⟨z1', z2', vx, vy, SqL.of p1', SqL.of p2', ex, ey⟩, fun σ' H' => ∃ ρ' S'' τ', Fut X.K ρ2 H2 ρ' H' ∧ RelS X.K ρ' S'' H' ∧ RelE X.K ρ' H' τ' σ' ∧ zipL turn l k m (i + 1) τ' S'' = .ok fl S', fun σ' H' ⟨ρ', S'', τ', a1, a2, a3, a4⟩ => ⟨m, Nat.lt_succ_self m, ρ', S'', τ', a1, a2, a3, a4⟩, fun x H' hyl => ?_⟩
          obtain ⟨p, vx', vy', np, rfl, rfl, g1, g2⟩ := hyl
          have ex' := g1 z1' (SqL.of p1')
          have ey' := g2 z2' (SqL.of p2')
          rw [ex] at ex'; cases ex'
          rw [ey] at ey'; cases ey'
          have fN : Fut X.K ρ H ρ (upd H p (.tup [vx, vy])) := fut_new0 np
          obtain ⟨fl1, S1, e1, e⟩ := Res.bind_eq_ok e
          obtain ⟨τ2, S2, eG, eB⟩ := Res.bind_eq_ok e1
          refine ⟨ρ, S, τ, .tup [dx, dy], τ2, S2, rs.new np, re.fut fN, by simp only [RelD]; exact ⟨p, _, rfl, SqT.of upd_same, (RelDs.cons rx (RelDs.cons ry RelDs.nil)).fut fN⟩, eG, fun ρ1 σ1 H1 f1 r1 q1 => ⟨ρ1, S2, τ2, fl1, S1, r1, q1, eB, ?_⟩⟩
          have fA := f.trans (fN.trans f1)
          cases fl1 with
          | nx τ1 => exact fun ρ2 σ2 H2 f2 r2 q2 => ⟨ρ2, S1, τ1, fA.trans f2, r2, q2, e⟩
          | ct τ1 => exact fun ρ2 σ2 H2 f2 r2 q2 => ⟨ρ2, S1, τ1, fA.trans f2, r2, q2, e⟩
          | bk τ1 =>
            simp only at e
            cases e
            exact fun ρ2 σ2 H2 f2 r2 q2 => fin0 ρ2 σ2 H2 (fA.trans f2) r2 q2
          | rt d =>
            simp only at e
            cases e
            exact fun ρ2 v2 H2 f2 r2 q2 => fin0 ρ2 v2 H2 (fA.trans f2) r2 q2
        · exact absurd e bad_ne
      · exact absurd e bad_ne
  · exact absurd e bad_ne
theorem snd_whl {t b : M} (ht : Snd C t) (hb : Snd C b) : ∀ (X : Cx) (c : Ck) (x : Stmt), Gd X C c → chkS (.whl t b) c x = true → PS X x (tS X.K C (.whl t b)) := by
  intro X c x g h
  cases x <;> try (exact absurd h Bool.false_ne_true)
  rename_i tst body els pos
  cases els <;> try (exact absurd h Bool.false_ne_true)
  simp only [cS_0, cS_1, cS_2, cS_3, cS_4, cS_5, cS_6, cS_7, cS_8, cS_9, cS_10, Bool.and_eq_true] at h
  refine PS.imp (ps_while (by rw [g.xe]; exact PassesOwn.never) (ht.t X c _ g h.1) (hb.b X c _ g h.2)) fun D σ0 H0 ⟨ρ0, S, τ, fl, S', r0, re, e, fin0⟩ => ?_
  simp only [evS] at e
  refine ⟨fun m σ H => ∃ ρ S τ, Fut X.K ρ0 H0 ρ H ∧ RelS X.K ρ S H ∧ RelE X.K ρ H τ σ ∧ whlL (evT C t) (evB C b) m τ S = .ok fl S', ⟨C.W, ρ0, S, τ, Fut.refl, r0, re, e⟩, ?_⟩
  rintro m σ H ⟨ρ, S, τ, f, rs, re, e⟩
  cases m with
  | zero => simp only [whlL] at e; cases e
  | succ m =>
    simp only [whlL] at e
    obtain ⟨k, S1, e1, e⟩ := Res.bind_eq_ok e
    refine ⟨ρ, S, τ, k, S1, rs, re, e1, fun ρ1 H1 f1 r1 => ?_⟩
    cases k with
    | false =>
      rw [if_neg Bool.false_ne_true] at e
      refine iteF ?_
      cases e
      exact fin0 ρ1 σ H1 (f.trans f1) r1 (re.fut f1)
    | true =>
      rw [if_pos rfl] at e
      refine iteT ?_
      obtain ⟨fl1, S2, e2, e⟩ := Res.bind_eq_ok e
      refine ⟨fun σ' H' => ∃ ρ' S'' τ', Fut X.K ρ0 H0 ρ' H' ∧ RelS X.K ρ' S'' H' ∧ RelE X.K ρ' H' τ' σ' ∧ whlL (evT C t) (evB C b) m τ' S'' = .ok fl S', fun σ' H' ⟨ρ', S'', τ', a1, a2, a3, a4⟩ => ⟨m, Nat.lt_succ_self m, ρ', S'', τ', a1, a2, a3, a4⟩, ρ1, S1, τ, fl1, S2, r1, re.fut f1, e2, ?_⟩
      cases fl1 with
      | nx τ1 => exact fun ρ2 σ2 H2 f2 r2 q2 => ⟨ρ2, S2, τ1, f.trans (f1.trans f2), r2, q2, e⟩
      | ct τ1 => exact fun ρ2 σ2 H2 f2 r2 q2 => ⟨ρ2, S2, τ1, f.trans (f1.trans f2), r2, q2, e⟩
      | bk τ1 =>
        simp only at e
        cases e
        exact fun ρ2 σ2 H2 f2 r2 q2 => fin0 ρ2 σ2 H2 (f.trans (f1.trans f2)) r2 q2
      | rt d =>
        simp only at e
        cases e
        exact fun ρ2 v2 H2 f2 r2 q2 => fin0 ρ2 v2 H2 (f.trans (f1.trans f2)) r2 q2
theorem snd_ret {a : M} (ha : Snd C a) : ∀ (X : Cx) (c : Ck) (x : Stmt), Gd X C c → chkS (.ret a) c x = true → PS X x (tS X.K C (.ret a)) := by
  intro X c x g h
  cases x <;> try (exact absurd h Bool.false_ne_true)
  rename_i v pos
  cases v <;> try (exact absurd h Bool.false_ne_true)
  simp only [cS_0, cS_1, cS_2, cS_3, cS_4, cS_5, cS_6, cS_7, cS_8, cS_9, cS_10] at h
  refine PS.imp (ps_ret (ha.e X c _ g h)) fun D σ H ⟨ρ, S, τ, fl, S', rs, re, e, fin⟩ => ?_
  simp only [evS] at e
  obtain ⟨d, S1, e1, e⟩ := Res.bind_eq_ok e
  cases e
  exact ⟨ρ, S, τ, d, _, rs, re, e1, fin⟩
theorem snd_retN : ∀ (X : Cx) (c : Ck) (x : Stmt), Gd X C c → chkS .retN c x = true → PS X x (tS X.K C .retN) := by
  intro X c x g h
  cases x <;> try (exact absurd h Bool.false_ne_true)
  rename_i v pos
  cases v <;> try (exact absurd h Bool.false_ne_true)
  refine PS.imp ps_retN fun D σ H ⟨ρ, S, τ, fl, S', rs, re, e, fin⟩ => ?_
  simp only [evS] at e
  cases e
  exact fin ρ _ H Fut.refl rs RelD.non
theorem snd_exp {a : M} (ha : Snd C a) : ∀ (X : Cx) (c : Ck) (x : Stmt), Gd X C c → chkS (.exp a) c x = true → PS X x (tS X.K C (.exp a)) := by
  intro X c x g h
  cases x <;> try (exact absurd h Bool.false_ne_true)
  simp only [cS_0, cS_1, cS_2, cS_3, cS_4, cS_5, cS_6, cS_7, cS_8, cS_9, cS_10, Bool.and_eq_true, Bool.not_eq_true'] at h
  refine PS.imp (ps_expr (ha.e X c _ g h.1) (notComp_none h.2)) fun D σ H ⟨ρ, S, τ, fl, S', rs, re, e, fin⟩ => ?_
  simp only [evS] at e
  obtain ⟨d, S1, e1, e⟩ := Res.bind_eq_ok e
  cases e
  exact ⟨ρ, S, τ, d, _, rs, re, e1, fun ρ1 v1 H1 f1 r1 q1 => fin ρ1 σ H1 f1 r1 (re.fut f1)⟩
theorem snd_pas : ∀ (X : Cx) (c : Ck) (x : Stmt), Gd X C c → chkS .pas c x = true → PS X x (tS X.K C .pas) := by
  intro X c x g h
  cases x <;> try (exact absurd h Bool.false_ne_true)
  refine PS.imp ps_pass fun D σ H ⟨ρ, S, τ, fl, S', rs, re, e, fin⟩ => ?_
  simp only [evS] at e
  cases e
  exact fin ρ _ H Fut.refl rs re
theorem snd_brk : ∀ (X : Cx) (c : Ck) (x : Stmt), Gd X C c → chkS .brk c x = true → PS X x (tS X.K C .brk) := by
  intro X c x g h
  cases x <;> try (exact absurd h Bool.false_ne_true)
  refine PS.imp ps_break fun D σ H ⟨ρ, S, τ, fl, S', rs, re, e, fin⟩ => ?_
  simp only [evS] at e
  cases e
  exact fin ρ _ H Fut.refl rs re
theorem snd_cnt : ∀ (X : Cx) (c : Ck) (x : Stmt), Gd X C c → chkS .cnt c x = true → PS X x (tS X.K C .cnt) := by
  intro X c x g h
  cases x <;> try (exact absurd h Bool.false_ne_true)
  refine PS.imp ps_continue fun D σ H ⟨ρ, S, τ, fl, S', rs, re, e, fin⟩ => ?_
  simp only [evS] at e
  cases e
  exact fin ρ _ H Fut.refl rs re
theorem snd_b_nul : ∀ (X : Cx) (c : Ck) (x : List Stmt), Gd X C c → chkB .nul c x = true → PSs X x (tB' X.K C .nul) := by
  intro X c x g h
  cases x with
  | cons s ss => simp only [chkB] at h; cases h
  | nil =>
    refine PSs.imp pss_nil fun D σ H ⟨ρ, S, τ, fl, S', rs, re, e, fin⟩ => ?_
    simp only [evB] at e
    cases e
    exact fin ρ _ H Fut.refl rs re
theorem snd_b_cns {a b : M} (ha : Snd C a) (hb : Snd C b) : ∀ (X : Cx) (c : Ck) (x : List Stmt), Gd X C c → chkB (.cns a b) c x = true → PSs X x (tB' X.K C (.cns a b)) := by
  intro X c x g h
  cases x with
  | nil => simp only [chkB] at h; cases h
  | cons s ss =>
    simp only [chkB, Bool.and_eq_true] at h
    refine PSs.imp (pss_cons (ha.s X c _ g h.1) (hb.b X c _ g h.2)) fun D σ H ⟨ρ, S, τ, fl, S', rs, re, e, fin⟩ => ?_
    simp only [evB] at e
    obtain ⟨fl1, S1, e1, e⟩ := Res.bind_eq_ok e
    refine ⟨ρ, S, τ, fl1, S1, rs, re, e1, ?_⟩
    cases fl1 with
    | nx τ1 => exact fun ρ1 σ1 H1 f1 r1 q1 => ⟨ρ1, S1, τ1, fl, S', r1, q1, e, fin.fut f1⟩
    | rt d => simp only at e; cases e; exact fin
    | bk τ1 => simp only at e; cases e; exact fin
    | ct τ1 => simp only at e; cases e; exact fin
end
end Mi

namespace Mi
open PySem L2
noncomputable def kd : M → Nat
  | .nul => 0 | .cns _ _ => 0
  | .rng _ => 2 | .rng2 _ _ => 2
  | .tvar _ => 3 | .ttup _ => 3 | .tsub _ _ => 3
  | .asg _ _ => 4 | .ifs _ _ _ => 4 | .forr _ _ _ => 4 | .whl _ _ => 4 | .ret _ => 4 | .retN => 4 | .exp _ => 4 | .pas => 4 | .brk => 4 | .cnt => 4 | .zipf _ _ _ _ => 4
  | _ => 1
theorem kd_E {m : M} {c : Ck} {x : Expr} (h : chkE m c x = true) : kd m = 1 := by
  cases m <;> first | rfl | (exact absurd h Bool.false_ne_true)
theorem kd_A {m : M} {c : Ck} {x : List Expr} (h : chkA m c x = true) : kd m = 0 := by
  cases m <;> first | rfl | (cases x <;> simp [chkA] at h)
theorem kd_O {m : M} {c : Ck} {x : Option Expr} (h : chkO m c x = true) : kd m = 0 := by
  cases m <;> first | rfl | (cases x <;> simp [chkO] at h)
theorem kd_C {m : M} {c : Ck} {x : List Expr} (h : chkC m c x = true) : kd m = 0 := by
  cases m <;> first | rfl | (cases x <;> simp [chkC] at h)
theorem kd_I {m : M} {c : Ck} {x : Expr} (h : chkI m c x = true) : kd m = 0 ∨ kd m = 2 := by
  cases m <;> first | exact .inl rfl | exact .inr rfl | (exact absurd h Bool.false_ne_true) | (cases x <;> exact absurd h Bool.false_ne_true)
theorem kd_G {m : M} {c : Ck} {x : Expr} (h : chkG m c x = true) : kd m = 3 := by
  cases m <;> first | rfl | (exact absurd h Bool.false_ne_true) | (cases x <;> exact absurd h Bool.false_ne_true)
theorem kd_Gs {m : M} {c : Ck} {x : List Expr} (h : chkGs m c x = true) : kd m = 0 := by
  cases m <;> first | rfl | (cases x <;> simp [chkGs] at h)
theorem kd_S {m : M} {c : Ck} {x : Stmt} (h : chkS m c x = true) : kd m = 4 := by
  cases m <;> first | rfl | (exact absurd h Bool.false_ne_true) | (cases x <;> exact absurd h Bool.false_ne_true)
theorem kd_B {m : M} {c : Ck} {x : List Stmt} (h : chkB m c x = true) : kd m = 0 := by
  cases m <;> first | rfl | (cases x <;> simp [chkB] at h)
section
variable {C : Pr}
theorem Snd.ofE {m : M} (hk : kd m = 1) (he : ∀ (X : Cx) (c : Ck) (x : Expr), Gd X C c → chkE m c x = true → PE X x (tE X.K C m)) (ht : ∀ (X : Cx) (c : Ck) (x : Expr), Gd X C c → chkE m c x = true → PT X x (tT X.K C m)) : Snd C m where
  e := he
  t := ht
  a := fun X c x g h => absurd ((kd_A h).symm.trans hk) (by decide)
  bv := fun X c w x p g h => absurd ((kd_A h).symm.trans hk) (by decide)
  bt := fun X c w x p g h => absurd ((kd_A h).symm.trans hk) (by decide)
  o := fun X c x g h => absurd ((kd_O h).symm.trans hk) (by decide)
  cd := fun X c x g h => absurd ((kd_C h).symm.trans hk) (by decide)
  i := fun X c tg x g h => (kd_I h).elim (fun z => absurd (z.symm.trans hk) (by decide)) (fun z => absurd (z.symm.trans hk) (by decide))
  g := fun X c x g h => absurd ((kd_G h).symm.trans hk) (by decide)
  gs := fun X c x g h => absurd ((kd_Gs h).symm.trans hk) (by decide)
  s := fun X c x g h => absurd ((kd_S h).symm.trans hk) (by decide)
  b := fun X c x g h => absurd ((kd_B h).symm.trans hk) (by decide)
theorem Snd.ofI {m : M} (hk : kd m = 2) (hi : ∀ (X : Cx) (c : Ck) (tg x : Expr), Gd X C c → chkI m c x = true → PI X tg x (tI X.K C m) ∧ ∀ v, foldedSetIterable x X.env v = pure v) : Snd C m where
  e := fun X c x g h => absurd ((kd_E h).symm.trans hk) (by decide)
  t := fun X c x g h => absurd ((kd_E h).symm.trans hk) (by decide)
  a := fun X c x g h => absurd ((kd_A h).symm.trans hk) (by decide)
  bv := fun X c w x p g h => absurd ((kd_A h).symm.trans hk) (by decide)
  bt := fun X c w x p g h => absurd ((kd_A h).symm.trans hk) (by decide)
  o := fun X c x g h => absurd ((kd_O h).symm.trans hk) (by decide)
  cd := fun X c x g h => absurd ((kd_C h).symm.trans hk) (by decide)
  i := hi
  g := fun X c x g h => absurd ((kd_G h).symm.trans hk) (by decide)
  gs := fun X c x g h => absurd ((kd_Gs h).symm.trans hk) (by decide)
  s := fun X c x g h => absurd ((kd_S h).symm.trans hk) (by decide)
  b := fun X c x g h => absurd ((kd_B h).symm.trans hk) (by decide)
theorem Snd.ofG {m : M} (hk : kd m = 3) (hg : ∀ (X : Cx) (c : Ck) (x : Expr), Gd X C c → chkG m c x = true → PG X x (tG X.K C m)) : Snd C m where
  e := fun X c x g h => absurd ((kd_E h).symm.trans hk) (by decide)
  t := fun X c x g h => absurd ((kd_E h).symm.trans hk) (by decide)
  a := fun X c x g h => absurd ((kd_A h).symm.trans hk) (by decide)
  bv := fun X c w x p g h => absurd ((kd_A h).symm.trans hk) (by decide)
  bt := fun X c w x p g h => absurd ((kd_A h).symm.trans hk) (by decide)
  o := fun X c x g h => absurd ((kd_O h).symm.trans hk) (by decide)
  cd := fun X c x g h => absurd ((kd_C h).symm.trans hk) (by decide)
  i := fun X c tg x g h => (kd_I h).elim (fun z => absurd (z.symm.trans hk) (by decide)) (fun z => absurd (z.symm.trans hk) (by decide))
  g := hg
  gs := fun X c x g h => absurd ((kd_Gs h).symm.trans hk) (by decide)
  s := fun X c x g h => absurd ((kd_S h).symm.trans hk) (by decide)
  b := fun X c x g h => absurd ((kd_B h).symm.trans hk) (by decide)
theorem Snd.ofS {m : M} (hk : kd m = 4) (hs : ∀ (X : Cx) (c : Ck) (x : Stmt), Gd X C c → chkS m c x = true → PS X x (tS X.K C m)) : Snd C m where
  e := fun X c x g h => absurd ((kd_E h).symm.trans hk) (by decide)
  t := fun X c x g h => absurd ((kd_E h).symm.trans hk) (by decide)
  a := fun X c x g h => absurd ((kd_A h).symm.trans hk) (by decide)
  bv := fun X c w x p g h => absurd ((kd_A h).symm.trans hk) (by decide)
  bt := fun X c w x p g h => absurd ((kd_A h).symm.trans hk) (by decide)
  o := fun X c x g h => absurd ((kd_O h).symm.trans hk) (by decide)
  cd := fun X c x g h => absurd ((kd_C h).symm.trans hk) (by decide)
  i := fun X c tg x g h => (kd_I h).elim (fun z => absurd (z.symm.trans hk) (by decide)) (fun z => absurd (z.symm.trans hk) (by decide))
  g := fun X c x g h => absurd ((kd_G h).symm.trans hk) (by decide)
  gs := fun X c x g h => absurd ((kd_Gs h).symm.trans hk) (by decide)
  s := hs
  b := fun X c x g h => absurd ((kd_B h).symm.trans hk) (by decide)
theorem snd_nul : Snd C .nul where
  e := fun X c x g h => absurd (kd_E h) (by decide)
  t := fun X c x g h => absurd (kd_E h) (by decide)
  a := fun X c x g h => by
    cases x with
    | cons e es => simp only [chkA] at h; cases h
    | nil =>
      refine PA.imp pa_nil fun σ H Q ⟨ρ, S, τ, ds, S', rs, re, e, fin⟩ => ?_
      simp only [evA] at e
      cases e
      exact fin ρ [] H Fut.refl rs RelDs.nil
  bv := fun X c w x p g h => pe_no fun σ H Q ⟨ρ, S, τ, ds, S', rs, re, e, fin⟩ => by simp only [evBV] at e; cases e
  bt := fun X c w x p g h => fun wh pins s σ H Q I ⟨ρ, S, τ, ds, S', rs, re, e, fin⟩ => by simp only [evBT] at e; cases e
  o := fun X c x g h => by
    cases x with
    | some e => simp only [chkO] at h; cases h
    | none =>
      refine PO.imp po_none fun σ H Q ⟨ρ, S, τ, ds, S', rs, re, e, fin⟩ => ?_
      simp only [evO] at e
      cases e
      exact fin ρ H Fut.refl rs
  cd := fun X c x g h => by
    cases x with
    | cons e es => simp only [chkC] at h; cases h
    | nil =>
      refine PTs.imp pts_nil fun σ H Q ⟨ρ, S, τ, ds, S', rs, re, e, fin⟩ => ?_
      simp only [evC] at e
      cases e
      exact fin ρ H Fut.refl rs
  i := fun X c tg x g h => by cases h
  g := fun X c x g h => absurd (kd_G h) (by decide)
  gs := snd_gs_nul
  s := fun X c x g h => absurd (kd_S h) (by decide)
  b := snd_b_nul
theorem snd_cns {a b : M} (ha : Snd C a) (hb : Snd C b) : Snd C (.cns a b) where
  e := fun X c x g h => absurd (kd_E h) (by simp [kd])
  t := fun X c x g h => absurd (kd_E h) (by simp [kd])
  a := fun X c x g h => by
    cases x with
    | nil => simp only [chkA] at h; cases h
    | cons e es =>
      simp only [chkA, Bool.and_eq_true] at h
      refine PA.imp (pa_cons (ha.e X c e g h.1) (hb.a X c es g h.2) (star_cons (noStar h.1))) fun σ H Q ⟨ρ, S, τ, ds, S', rs, re, e, fin⟩ => ?_
      simp only [evA] at e
      obtain ⟨x1, S1, e1, e⟩ := Res.bind_eq_ok e
      obtain ⟨xs, S2, e2, e⟩ := Res.bind_eq_ok e
      cases e
      refine ⟨ρ, S, τ, x1, S1, rs, re, e1, fun ρ1 v1 H1 f1 r1 q1 => ⟨ρ1, S1, τ, xs, S', r1, re.fut f1, e2, fun ρ2 vs H2 f2 r2 q2 => ?_⟩⟩
      exact fin ρ2 _ H2 (f1.trans f2) r2 (RelDs.cons (q1.fut f2) q2)
  bv := snd_bv ha hb
  bt := snd_bt ha hb
  o := fun X c x g h => by
    cases x with
    | none => cases b <;> simp only [chkO] at h <;> cases h
    | some e =>
      cases b <;> simp only [chkO] at h <;> try (exact absurd h Bool.false_ne_true)
      refine PO.imp (po_some (ha.e X c e g h)) fun σ H Q ⟨ρ, S, τ, o, S', rs, re, e, fin⟩ => ?_
      simp only [evO] at e
      obtain ⟨x1, S1, e1, e⟩ := Res.bind_eq_ok e
      refine ⟨ρ, S, τ, x1, S1, rs, re, e1, fun ρ1 v1 H1 f1 r1 q1 => ?_⟩
      cases x1 <;> simp only at e <;> try (cases e; done)
      cases e
      exact ⟨_, q1.int_inv, fin ρ1 H1 f1 r1⟩
  cd := fun X c x g h => by
    rcases x with _ | ⟨e, _ | ⟨e2, es⟩⟩ <;> cases b <;> simp only [chkC] at h <;> try (exact absurd h Bool.false_ne_true)
    refine PTs.imp (pts_one (ha.t X c e g h)) fun σ H Q ⟨ρ, S, τ, o, S', rs, re, e, fin⟩ => ?_
    simp only [evC] at e
    exact ⟨ρ, S, τ, o, S', rs, re, e, fin⟩
  i := fun X c tg x g h => by
    cases b <;> (try (exact absurd h Bool.false_ne_true)) <;> try simp only [cI_0, cI_1, cI_2] at h
    exact ⟨snd_i_seq ha X c tg x g h, foldset (noSet h)⟩
  g := fun X c x g h => absurd (kd_G h) (by simp [kd])
  gs := snd_gs_cns ha hb
  s := fun X c x g h => absurd (kd_S h) (by simp [kd])
  b := snd_b_cns ha hb
theorem snd (C : Pr) : ∀ m : M, Snd C m ∧ ∀ N k keep tg it cd el, m = .comp N k keep tg it cd el → Snd C tg ∧ Snd C it ∧ Snd C cd ∧ Snd C el := by
  intro m
  have noT : ∀ {m : M}, (∀ τ S, evT C m τ S = .bad) → ∀ (X : Cx) (c : Ck) (x : Expr), Gd X C c → chkE m c x = true → PT X x (tT X.K C m) := fun h X c x _ _ => pt_no (tT_no h)
  induction m with
  | nul => exact ⟨snd_nul, fun _ _ _ _ _ _ _ h => by cases h⟩
  | cns a b ha hb => exact ⟨snd_cns ha.1 hb.1, fun _ _ _ _ _ _ _ h => by cases h⟩
  | cst d => exact ⟨.ofE rfl snd_cst (noT fun τ S => by simp only [evT]), fun _ _ _ _ _ _ _ h => by cases h⟩
  | var i => exact ⟨.ofE rfl (fun X c x g h => (snd_var X c x g h).1) fun X c x g h => (snd_var X c x g h).2, fun _ _ _ _ _ _ _ h => by cases h⟩
  | glb x => exact ⟨.ofE rfl snd_glb (noT fun τ S => by simp only [evT]), fun _ _ _ _ _ _ _ h => by cases h⟩
  | bin o a b ha hb => exact ⟨.ofE rfl (snd_bin ha.1 hb.1) (noT fun τ S => by simp only [evT]), fun _ _ _ _ _ _ _ h => by cases h⟩
  | neg a ha => exact ⟨.ofE rfl (snd_neg ha.1) (noT fun τ S => by simp only [evT]), fun _ _ _ _ _ _ _ h => by cases h⟩
  | nott a ha => exact ⟨.ofE rfl (fun X c x g h => (snd_not ha.1 X c x g h).1) fun X c x g h => (snd_not ha.1 X c x g h).2, fun _ _ _ _ _ _ _ h => by cases h⟩
  | bo w as ha => exact ⟨.ofE rfl (fun X c x g h => (snd_bo ha.1 X c x g h).1) fun X c x g h => (snd_bo ha.1 X c x g h).2, fun _ _ _ _ _ _ _ h => by cases h⟩
  | cmp o a b ha hb => exact ⟨.ofE rfl (fun X c x g h => (snd_cmp ha.1 hb.1 X c x g h).1) fun X c x g h => (snd_cmp ha.1 hb.1 X c x g h).2, fun _ _ _ _ _ _ _ h => by cases h⟩
  | cmp2 o p a b d ha hb hd => exact ⟨.ofE rfl (fun X c x g h => (snd_cmp2 ha.1 hb.1 hd.1 X c x g h).1) fun X c x g h => (snd_cmp2 ha.1 hb.1 hd.1 X c x g h).2, fun _ _ _ _ _ _ _ h => by cases h⟩
  | ife t a b ht ha hb => exact ⟨.ofE rfl (snd_ife ht.1 ha.1 hb.1) (noT fun τ S => by simp only [evT]), fun _ _ _ _ _ _ _ h => by cases h⟩
  | tup as ha => exact ⟨.ofE rfl (snd_tup ha.1) (noT fun τ S => by simp only [evT]), fun _ _ _ _ _ _ _ h => by cases h⟩
  | lst as ha => exact ⟨.ofE rfl (snd_lst ha.1) (noT fun τ S => by simp only [evT]), fun _ _ _ _ _ _ _ h => by cases h⟩
  | idx a b ha hb => exact ⟨.ofE rfl (fun X c x g h => (snd_idx ha.1 hb.1 X c x g h).1) fun X c x g h => (snd_idx ha.1 hb.1 X c x g h).2, fun _ _ _ _ _ _ _ h => by cases h⟩
  | sli a l u ha hl hu => exact ⟨.ofE rfl (snd_sli ha.1 hl.1 hu.1) (noT fun τ S => by simp only [evT]), fun _ _ _ _ _ _ _ h => by cases h⟩
  | call f as ha => exact ⟨.ofE rfl (fun X c x g h => (snd_call ha.1 X c x g h).1) fun X c x g h => (snd_call ha.1 X c x g h).2, fun _ _ _ _ _ _ _ h => by cases h⟩
  | prim p as ha => exact ⟨.ofE rfl (fun X c x g h => (snd_prim ha.1 X c x g h).1) fun X c x g h => (snd_prim ha.1 X c x g h).2, fun _ _ _ _ _ _ _ h => by cases h⟩
  | isi a t ha => exact ⟨.ofE rfl (fun X c x g h => (snd_isi ha.1 X c x g h).1) fun X c x g h => (snd_isi ha.1 X c x g h).2, fun _ _ _ _ _ _ _ h => by cases h⟩
  | meth p o as ho ha => exact ⟨.ofE rfl (snd_meth ho.1 ha.1) (noT fun τ S => by simp only [evT]), fun _ _ _ _ _ _ _ h => by cases h⟩
  | comp N k keep tg it cd el hg hi hc he => exact ⟨.ofE rfl (snd_comp hg.1 hi.1 hc.1 he.1) (noT fun τ S => by simp only [evT]), fun _ _ _ _ _ _ _ h => by cases h; exact ⟨hg.1, hi.1, hc.1, he.1⟩⟩
  | rng a ha => exact ⟨.ofI rfl fun X c tg x g h => ⟨snd_i_rng ha.1 X c tg x g h, foldset fun a b p z => by subst z; cases h⟩, fun _ _ _ _ _ _ _ h => by cases h⟩
  | rng2 a b ha hb => exact ⟨.ofI rfl fun X c tg x g h => ⟨snd_i_rng2 ha.1 hb.1 X c tg x g h, foldset fun a b p z => by subst z; cases h⟩, fun _ _ _ _ _ _ _ h => by cases h⟩
  | tvar i => exact ⟨.ofG rfl snd_g_var, fun _ _ _ _ _ _ _ h => by cases h⟩
  | ttup ts ha => exact ⟨.ofG rfl (snd_g_tup ha.1), fun _ _ _ _ _ _ _ h => by cases h⟩
  | tsub a b ha hb => exact ⟨.ofG rfl (snd_g_sub ha.1 hb.1), fun _ _ _ _ _ _ _ h => by cases h⟩
  | asg t e ht he => exact ⟨.ofS rfl (snd_asg ht.1 he.1 he.2), fun _ _ _ _ _ _ _ h => by cases h⟩
  | ifs t a b ht ha hb => exact ⟨.ofS rfl (snd_ifs ht.1 ha.1 hb.1), fun _ _ _ _ _ _ _ h => by cases h⟩
  | forr t i b ht hi hb => exact ⟨.ofS rfl (snd_for ht.1 hi.1 hb.1), fun _ _ _ _ _ _ _ h => by cases h⟩
  | whl t b ht hb => exact ⟨.ofS rfl (snd_whl ht.1 hb.1), fun _ _ _ _ _ _ _ h => by cases h⟩
  | zipf t a b d ht ha hb hd => exact ⟨.ofS rfl (snd_zipf ht.1 ha.1 hb.1 hd.1), fun _ _ _ _ _ _ _ h => by cases h⟩
  | ret a ha => exact ⟨.ofS rfl (snd_ret ha.1), fun _ _ _ _ _ _ _ h => by cases h⟩
  | retN => exact ⟨.ofS rfl snd_retN, fun _ _ _ _ _ _ _ h => by cases h⟩
  | exp a ha => exact ⟨.ofS rfl (snd_exp ha.1), fun _ _ _ _ _ _ _ h => by cases h⟩
  | pas => exact ⟨.ofS rfl snd_pas, fun _ _ _ _ _ _ _ h => by cases h⟩
  | brk => exact ⟨.ofS rfl snd_brk, fun _ _ _ _ _ _ _ h => by cases h⟩
  | cnt => exact ⟨.ofS rfl snd_cnt, fun _ _ _ _ _ _ _ h => by cases h⟩
end
end Mi

namespace Mi
open PySem L2
noncomputable def Cn (T : Tb) (G : String → Option D) (W n : Nat) : Pr := ⟨callN T G W n, G, W⟩
structure FnF (K : PySem.W.Frag) (mg : Str → Option Value) (T : Tb) (B F : List String) (f : String) (a : Addr) (fd : FuncData) : Prop where
  ex : ∃ (FN : Fn) (st : Stmt), T f = some FN ∧ Fun K (Str.ofString f) (Str.ofString f) st a fd ∧ FnScope (FN.N.map Str.ofString) (FN.ps.map Str.ofString) (defScope st) ∧
    chkB FN.body ⟨FN.N.map Str.ofString, (defScope st).names, true, B, F⟩ (defBody st) = true ∧ ∀ us : List Value, us.length = (FN.ps.map Str.ofString).length → bindArgs fd ⟨us, []⟩ = pure ((FN.ps.map Str.ofString).zip us)
  mg : mg (Str.ofString f) = some (.ref a)
structure Txt (K : PySem.W.Frag) (mg : Str → Option Value) (T : Tb) (G : String → Option D) (B F : List String) : Prop where
  fns : ∀ f ∈ F, ∃ a fd, FnF K mg T B F f a fd
  blt : ∀ x ∈ B, mg (Str.ofString x) = none
  gl : ∀ x d, G x = some d → ∃ v u, mg (Str.ofString x) = some u ∧ RelV v u ∧ (∀ ρ H, RelD K ρ H d v) ∧ ∀ ds, d = .tup ds → ∃ a o, v = .ref a ∧ K.lookup a = some o ∧ o.cls = .type "tuple" ∧ o.dict = none
section
variable {P : Program} {w : World} {K : PySem.W.Frag} {mg : Str → Option Value} {base : Heap} {T : Tb} {G : String → Option D} {B F : List String}
theorem RelE.start {ρ : List Addr} {H : Hp} {ds : List D} {vs : List V} {N : List Str} {k : Nat} (r : RelDs K ρ H ds vs) (hk : k = N.length - ds.length) : RelE K ρ H (ds.map some ++ List.replicate k none) (L2.start N vs) := by
  unfold L2.start
  rw [← r.length, ← hk]
  refine ⟨by simp [r.length], fun i d h => ?_⟩
  by_cases hi : i < ds.length
  · rw [List.getElem?_append_left (by simpa using hi), List.getElem?_map] at h
    rw [List.getElem?_append_left (by rw [List.length_map, ← r.length]; exact hi), List.getElem?_map]
    cases e : ds[i]? with
    | none => rw [e] at h; cases h
    | some d' =>
      rw [e] at h
      have h : d' = d := by simpa using h
      subst h
      obtain ⟨v, hv, q⟩ := r.get e
      exact ⟨v, by rw [hv]; rfl, q⟩
  · rw [List.getElem?_append_right (by simpa using hi), List.getElem?_replicate] at h
    split at h <;> cases h
theorem fn_ok (t : Txt K mg T G B F) (W : Nat) : ∀ (n : Nat) (f : String) (a : Addr) (fd : FuncData), FnF K mg T B F f a fd → ∀ FN, T f = some FN → FnOk P w K mg base CX0 n a fd (FN.ps.map Str.ofString) (spM K (Cn T G W n) f) := by
  intro n
  induction n with
  | zero =>
    intro f a fd hf FN hT
    exact ⟨fun vs H Q E ⟨ρ, S, ds, d, S', _, _, e, _⟩ => (by simp only [Cn, callN] at e; cases e), fun A outer s H args us vs Q E _ _ _ _ ⟨ρ, S, ds, d, S', _, _, e, _⟩ => (by simp only [Cn, callN] at e; cases e)⟩
  | succ n ih =>
    intro f a fd hf FN hT
    obtain ⟨FN', st, hT', FU, sc, ck, bd⟩ := hf.ex
    rw [hT] at hT'
    cases hT'
    refine FU.ok sc (fun vs H Q E ⟨ρ, S, ds, d, S', _, rd, e, _⟩ => ?_) (fun cdv A outer s H vs Q E hr ⟨ρ, S, ds, d, S', rs, rd, e, fin⟩ => ?_)
    · simp only [Cn, callN] at e
      rw [hT] at e
      simp only at e
      split at e
      · rename_i hl
        rw [← rd.length, hl, List.length_map]
      · cases e
    · refine ⟨_, ((snd (Cn T G W n) FN.body).1.b _ ⟨FN.N.map Str.ofString, (defScope st).names, true, B, F⟩ _ ⟨rfl, sc.nd, rfl, sc.kind, fun _ => rfl, rfl, rfl, ?_⟩ ck), ?_⟩
      · refine ⟨fun g hg => ?_, t.blt, t.gl, Nat.lt_of_le_of_lt (Nat.le_refl _) hr.units⟩
        obtain ⟨b, fd2, hb⟩ := t.fns g hg
        obtain ⟨FN2, st2, hT2, FU2, sc2, ck2, bd2⟩ := id hb.ex
        exact ⟨n, b, fd2, _, hr, hb.mg, ih g b fd2 hb FN2 hT2, .all bd2, FU2.kp⟩
      · simp only [Cn, callN] at e
        rw [hT] at e
        simp only at e
        split at e
        · rename_i hl
          obtain ⟨fl, S1, e1, e⟩ := Res.bind_eq_ok e
          refine ⟨ρ, S, _, fl, S1, rs, RelE.start rd (by rw [List.length_map]), e1, ?_⟩
          cases fl with
          | nx τ => simp only at e; cases e; exact fun ρ1 σ1 H1 f1 r1 q1 => fin ρ1 _ H1 f1 r1 RelD.non
          | rt d => simp only at e; cases e; exact fin
          | bk τ => simp only at e; cases e
          | ct τ => simp only at e; cases e
        · cases e
theorem law_sp {T : Tb} {G : String → Option D} {W n : Nat} (h : ∀ ns : List Int, ns.length ≤ 63 → ∃ S', callN T G W n "law" [.kl (ns.map D.int)] [] = .ok (.bl true) S') (H : Hp) (a : Addr) (ns : List Int) (hl : ns.length ≤ 63) (hO : Only H) (hS : SqL K H a (ns.map V.int)) (E : XK) :
    spM K (Cn T G W n) "law" [.ref a] H (fun v _ => v = .bl true) E := by
  obtain ⟨S', e⟩ := h ns hl
  have allI : ∀ (ns : List Int), RelDs K [] H (ns.map D.int) (ns.map V.int) := by
    intro ns
    induction ns with
    | nil => exact RelDs.nil
    | cons i r ih => exact RelDs.cons (RelD.int i) ih
  have sf : SqF K H a (ns.map V.int) := by
    rcases hS with (h | h) | h
    · rcases hO a with z | ⟨o, xs, z⟩
      · rw [h] at z; cases z
      · rw [h] at z; cases z
    · exact .inl h
    · exact .inr h
  refine ⟨[], [], [.kl (ns.map D.int)], .bl true, S', ⟨rfl, List.nodup_nil, fun l b o h => by simp at h⟩, RelDs.cons ?_ RelDs.nil, e, fun ρ' v H' _ _ q => q.bl_inv⟩
  simp only [RelD]
  exact ⟨a, _, rfl, sf, allI ns⟩
end
theorem walk {l : PySem.W.OpenLaw} {q : Program} {loose : List Str} {XP : (Str → Option Value) → Heap → Prop} {YP : World → Heap → Prop} {d : DefRec} {K : Params → PySem.W.Frag} {T : Tb} {G : String → Option D} {B F : List String} {x : String} {W n : Nat} (hn : l.most = some 63) (hdf : d.params.defaults = [])
    (hY : ∀ (w : World) (h : Heap), YP w h → (K w.params).In h) (hr : Room n callerA) (hd : d.name = Str.ofString "law") (hlaw : "law" ∈ F) (hT : ∃ FN, T "law" = some FN ∧ FN.ps = [x])
    (X : ∀ (w : World) (mg : Str → Option Value) (h : Heap), (K w.params).In h → h.Ns mainGlobals mg → Txt (K w.params) mg T G B F)
    (run : ∀ ns : List Int, ns.length ≤ 63 → ∃ S', callN T G W n "law" [.kl (ns.map D.int)] [] = .ok (.bl true) S') :
    PySem.W.WalkO q loose XP YP l.row.toRowW d [] (fun f vs => PySem.call f vs) := by
  refine L2.walk_of (n := 63) (k := n) (x := Str.ofString x) (CX := fun _ => CX0) (sp := fun w => spM (K w.params) (Cn T G W n) "law") hn (by decide) hdf hr hY (fun w mg fa h KX hns hmg => ?_) (fun w H a ns hl hO hS => law_sp run H a ns hl hO hS _) fun _ _ _ _ _ z => z
  have t := X w mg h KX hns
  obtain ⟨a, fd, hf⟩ := t.fns "law" hlaw
  obtain ⟨FN, hT, hps⟩ := hT
  obtain ⟨FN', st, hT', FU, sc, ck, bd⟩ := id hf.ex
  rw [hT] at hT'
  cases hT'
  rw [hd, hf.mg] at hmg
  cases hmg
  refine ⟨fd, fun s u => ?_, fun base kb nb => ?_⟩
  · have := bd [u] (by rw [hps]; rfl)
    rw [hps] at this
    exact .of_eq this
  · have := fn_ok (P := l.prog) (w := w) (base := base) t W n "law" fa fd hf FN hT
    rw [hps] at this
    exact this
end Mi

namespace Mi
open PySem L2
structure FE (K : PySem.W.Frag) (x : Str) (st : Stmt) : Prop where
  ex : ∃ (f : Addr) (oc : Value) (od : Option Addr) (kV doc pm : Value) (an : Option Addr) (cdv ct : Value) (sl : Array (Option Value)), PySem.W.nsIn K mainGlobals x = some (some (.ref f)) ∧
    K.lookup f = some ⟨oc, od, .func (PySem.W.fnOf x x (defArgs st) (defBody st) (defScope st) .none kV doc pm an cdv ct), sl⟩ ∧ PySem.W.codeIn K cdv x = true ∧ PySem.W.keepIn K (.ref f) = true
theorem fe_mk {K : PySem.W.Frag} {x : Str} {st : Stmt} {f : Addr} {oc : Value} {od : Option Addr} {kV doc pm : Value} {an : Option Addr} {cdv ct : Value} {sl : Array (Option Value)} (a : PySem.W.nsIn K mainGlobals x = some (some (.ref f)))
    (l : K.lookup f = some ⟨oc, od, .func (PySem.W.fnOf x x (defArgs st) (defBody st) (defScope st) .none kV doc pm an cdv ct), sl⟩) (c : PySem.W.codeIn K cdv x = true) (k : PySem.W.keepIn K (.ref f) = true) : FE K x st := ⟨_, _, _, _, _, _, _, _, _, _, a, l, c, k⟩
section
variable {K : PySem.W.Frag} {mg : Str → Option Value} {h : Heap} {T : Tb} {G : String → Option D} {B F : List String}
theorem fnf_of (KX : K.In h) (hG : h.Ns mainGlobals mg) {f : String} {FN : Fn} {st : Stmt} (e : FE K (Str.ofString f) st) (hT : T f = some FN) (sc : FnScope (FN.N.map Str.ofString) (FN.ps.map Str.ofString) (defScope st))
    (ck : chkB FN.body ⟨FN.N.map Str.ofString, (defScope st).names, true, B, F⟩ (defBody st) = true)
    (bd : ∀ (kV doc pm : Value) (an : Option Addr) (cdv ct : Value) (us : List Value), us.length = (FN.ps.map Str.ofString).length → bindArgs (PySem.W.fnOf (Str.ofString f) (Str.ofString f) (defArgs st) (defBody st) (defScope st) .none kV doc pm an cdv ct) ⟨us, []⟩ = pure ((FN.ps.map Str.ofString).zip us)) :
    ∃ a fd, FnF K mg T B F f a fd := by
  obtain ⟨a, oc, od, kV, doc, pm, an, cdv, ct, sl, h1, h2, h3, h4⟩ := e.ex
  exact ⟨a, _, ⟨FN, st, hT, fun_mk (st := st) h2 h3 h4, sc, ck, bd kV doc pm an cdv ct⟩, PySem.W.mg_of KX hG h1⟩
theorem gb_of (KX : K.In h) (hG : h.Ns mainGlobals mg) {x : String} (e : PySem.W.nsIn K mainGlobals (Str.ofString x) = some none) : mg (Str.ofString x) = none := PySem.W.mg_none_of KX hG e
end
end Mi

namespace Mi
open PySem L2
noncomputable def Sat {α : Type} (r : Res α) (P : α → Store → Prop) : Prop := ∃ a S, r = .ok a S ∧ P a S
theorem Sat.ok {α : Type} {a : α} {S : Store} {P : α → Store → Prop} (h : P a S) : Sat (.ok a S) P := ⟨a, S, rfl, h⟩
@[simp] theorem Sat_ok {α : Type} {a : α} {S : Store} {P : α → Store → Prop} : Sat (.ok a S) P ↔ P a S := ⟨fun ⟨_, _, e, h⟩ => by cases e; exact h, Sat.ok⟩
theorem Sat.bind {α β : Type} {r : Res α} {f : α → Store → Res β} {P : β → Store → Prop} (h : Sat r fun a S => Sat (f a S) P) : Sat (r.bind f) P := by
  obtain ⟨a, S, rfl, h⟩ := h
  exact h
theorem Sat.mono {α : Type} {r : Res α} {P Q : α → Store → Prop} (h : Sat r P) (hq : ∀ a S, P a S → Q a S) : Sat r Q := by
  obtain ⟨a, S, e, h⟩ := h
  exact ⟨a, S, e, hq a S h⟩
theorem Sat.call {α β : Type} {r : Res α} {f : α → Store → Res β} {P : α → Store → Prop} {Q : β → Store → Prop} (h : Sat r P) (hq : ∀ a S, P a S → Sat (f a S) Q) : Sat (r.bind f) Q := .bind (h.mono hq)
noncomputable def finF (fl : Fl) (S : Store) : Res D := match fl with
  | .rt d => .ok d S
  | .nx _ => .ok .non S
  | _ => .bad
theorem callN_eq {T : Tb} {G : String → Option D} {W n : Nat} {f : String} {FN : Fn} {ds : List D} {S : Store} (hT : T f = some FN) (hl : ds.length = FN.ps.length) :
    callN T G W (n + 1) f ds S = (evB (Cn T G W n) FN.body (ds.map some ++ List.replicate (FN.N.length - ds.length) none) S).bind finF := by
  simp only [callN, hT, if_pos hl]
  rfl
@[simp] theorem Cn_call {T : Tb} {G : String → Option D} {W n : Nat} : (Cn T G W n).call = callN T G W n := rfl
@[simp] theorem Cn_glob {T : Tb} {G : String → Option D} {W n : Nat} : (Cn T G W n).glob = G := rfl
@[simp] theorem Cn_W {T : Tb} {G : String → Option D} {W n : Nat} : (Cn T G W n).W = W := rfl
theorem forL_none {turn : D → En → Store → Res Fl} {ds : List D} {P : Fl → Store → Prop} (I : Nat → En → Store → Prop) (hend : ∀ τ S, I ds.length τ S → P (.nx τ) S)
    (hturn : ∀ i d τ S, ds[i]? = some d → I i τ S → Sat (turn d τ S) fun fl S1 => match fl with | .nx τ1 => I (i + 1) τ1 S1 | .ct τ1 => I (i + 1) τ1 S1 | .bk τ1 => P (.nx τ1) S1 | .rt d => P (.rt d) S1) :
    ∀ (n i : Nat) (τ : En) (S : Store), i + n = ds.length → I i τ S → Sat (forL turn none ds n i τ S) P := by
  intro n
  induction n with
  | zero =>
    intro i τ S hi h
    have : i = ds.length := by omega
    subst this
    simp only [forL, sameAt, if_true]
    exact .ok (hend τ S h)
  | succ n ih =>
    intro i τ S hi h
    have hlt : i < ds.length := by omega
    have e : ds[i]? = some ds[i] := List.getElem?_eq_getElem hlt
    simp only [forL, sameAt, if_true, nth, e]
    refine .bind ((hturn i _ τ S e h).mono fun fl S1 q => ?_)
    cases fl with
    | nx τ1 => exact ih (i + 1) τ1 S1 (by omega) q
    | ct τ1 => exact ih (i + 1) τ1 S1 (by omega) q
    | bk τ1 => exact .ok q
    | rt d => exact .ok q
theorem forL_some {turn : D → En → Store → Res Fl} {l : Nat} {ds : List D} {P : Fl → Store → Prop} (I : Nat → En → Store → Prop) (hst : ∀ i τ S, I i τ S → S[l]? = some (.lst ds)) (hend : ∀ τ S, I ds.length τ S → P (.nx τ) S)
    (hturn : ∀ i d τ S, ds[i]? = some d → I i τ S → Sat (turn d τ S) fun fl S1 => match fl with | .nx τ1 => I (i + 1) τ1 S1 | .ct τ1 => I (i + 1) τ1 S1 | .bk τ1 => P (.nx τ1) S1 | .rt d => P (.rt d) S1) :
    ∀ (n i : Nat) (τ : En) (S : Store), i + n = ds.length → I i τ S → Sat (forL turn (some l) ds n i τ S) P := by
  intro n
  induction n with
  | zero =>
    intro i τ S hi h
    have : i = ds.length := by omega
    subst this
    have hs := hst _ τ S h
    simp only [forL, sameAt, hs, beq_self_eq_true, if_true]
    exact .ok (hend τ S h)
  | succ n ih =>
    intro i τ S hi h
    have hlt : i < ds.length := by omega
    have e : ds[i]? = some ds[i] := List.getElem?_eq_getElem hlt
    have hs := hst _ τ S h
    simp only [forL, sameAt, hs, beq_self_eq_true, if_true, nth, seqAt, e]
    refine .bind ((hturn i _ τ S e h).mono fun fl S1 q => ?_)
    cases fl with
    | nx τ1 => exact ih (i + 1) τ1 S1 (by omega) q
    | ct τ1 => exact ih (i + 1) τ1 S1 (by omega) q
    | bk τ1 => exact .ok q
    | rt d => exact .ok q
theorem compL_none {turn : D → En → Store → Res (Option D)} {ds : List D} {P : List D → Store → Prop} {τ : En} (I : Nat → List D → Store → Prop) (hl : ds.length ≤ Line) (hI : ∀ i acc S, I i acc S → acc.length ≤ i) (hend : ∀ acc S, I ds.length acc S → P acc S)
    (hturn : ∀ i d acc S, ds[i]? = some d → I i acc S → Sat (turn d τ S) fun o S1 => match o with | some y => I (i + 1) (acc ++ [y]) S1 | none => I (i + 1) acc S1) :
    ∀ (n i : Nat) (acc : List D) (S : Store), i + n = ds.length → I i acc S → Sat (compL turn none ds n i τ S acc) P := by
  intro n
  induction n with
  | zero =>
    intro i acc S hi h
    have : i = ds.length := by omega
    subst this
    simp only [compL, sameAt, if_true]
    exact .ok (hend acc S h)
  | succ n ih =>
    intro i acc S hi h
    have hlt : i < ds.length := by omega
    have e : ds[i]? = some ds[i] := List.getElem?_eq_getElem hlt
    simp only [compL, sameAt, if_true, nth, e]
    refine .bind ((hturn i _ acc S e h).mono fun o S1 q => ?_)
    cases o with
    | none => exact ih (i + 1) acc S1 (by omega) q
    | some y =>
      have := hI _ _ _ h
      have hlt' : acc.length < Line := by omega
      simp only [if_pos hlt']
      exact ih (i + 1) _ S1 (by omega) q
theorem compL_some {turn : D → En → Store → Res (Option D)} {l : Nat} {ds : List D} {P : List D → Store → Prop} {τ : En} (I : Nat → List D → Store → Prop) (hl : ds.length ≤ Line) (hI : ∀ i acc S, I i acc S → acc.length ≤ i ∧ S[l]? = some (.lst ds)) (hend : ∀ acc S, I ds.length acc S → P acc S)
    (hturn : ∀ i d acc S, ds[i]? = some d → I i acc S → Sat (turn d τ S) fun o S1 => match o with | some y => I (i + 1) (acc ++ [y]) S1 | none => I (i + 1) acc S1) :
    ∀ (n i : Nat) (acc : List D) (S : Store), i + n = ds.length → I i acc S → Sat (compL turn (some l) ds n i τ S acc) P := by
  intro n
  induction n with
  | zero =>
    intro i acc S hi h
    have : i = ds.length := by omega
    subst this
    have hs := (hI _ _ _ h).2
    simp only [compL, sameAt, hs, beq_self_eq_true, if_true]
    exact .ok (hend acc S h)
  | succ n ih =>
    intro i acc S hi h
    have hlt : i < ds.length := by omega
    have e : ds[i]? = some ds[i] := List.getElem?_eq_getElem hlt
    have hs := (hI _ _ _ h).2
    simp only [compL, sameAt, hs, beq_self_eq_true, if_true, nth, seqAt, e]
    refine .bind ((hturn i _ acc S e h).mono fun o S1 q => ?_)
    cases o with
    | none => exact ih (i + 1) acc S1 (by omega) q
    | some y =>
      have := (hI _ _ _ h).1
      have hlt' : acc.length < Line := by omega
      simp only [if_pos hlt']
      exact ih (i + 1) _ S1 (by omega) q
end Mi

namespace Mi
open PySem L2
section
variable {S : Store} {i j : Int} {a b : Bool} {x y : Str} {ds es : List D}
@[simp] theorem bop_add_int : bop .add (.int i) (.int j) S = .ok (.int (i + j)) S := rfl
@[simp] theorem bop_sub_int : bop .sub (.int i) (.int j) S = .ok (.int (i - j)) S := rfl
theorem bop_mul_int (h : (small i || small j || (mid i && mid j)) = true) : bop .mul (.int i) (.int j) S = .ok (.int (i * j)) S := by
  unfold bop
  exact if_pos h
@[simp] theorem bop_mul_r (h : small j = true) : bop .mul (.int i) (.int j) S = .ok (.int (i * j)) S := bop_mul_int (by rw [h, Bool.or_true]; rfl)
@[simp] theorem bop_mod_int (h : 0 < j) : bop .mod (.int i) (.int j) S = .ok (.int (i % j)) S := by
  unfold bop
  exact if_pos h
theorem big_of {j : Int} (h1 : 0 < j) (h2 : j < 2 ^ 250) : 0 < j ∧ j.natAbs < 2 ^ 4096 := by
  refine ⟨h1, ?_⟩
  have h3 : j.natAbs < 2 ^ 250 := by
    have : (j.natAbs : Int) < (2 ^ 250 : Nat) := by
      rw [Int.natAbs_of_nonneg (by omega)]
      exact_mod_cast h2
    exact_mod_cast this
  exact Nat.lt_trans h3 (Nat.pow_lt_pow_right (by decide) (by decide))
@[simp] theorem bop_fdiv_int (h1 : 0 < j) (h2 : j < 2 ^ 250) : bop .fdiv (.int i) (.int j) S = .ok (.int (i / j)) S := by
  unfold bop
  exact if_pos (big_of h1 h2)
theorem bop_pow_int (h : (decide (0 ≤ j) && decide (j ≤ 1000000) && decide (i.natAbs < 2 ^ 64)) = true) : bop .pow (.int i) (.int j) S = .ok (.int (i ^ j.toNat)) S := by
  unfold bop
  exact if_pos h
theorem deep_eq : Deep = 11 + 1 := rfl
@[simp] theorem cop_eq_int : cop .eq (.int i) (.int j) S = some (decide (i = j)) := by
  simp only [cop, deep_eq, eqD, scalV, eqV]
  congr 1
@[simp] theorem cop_eq_bl : cop .eq (.bl a) (.bl b) S = some (a == b) := by
  simp only [cop, deep_eq, eqD, scalV, eqV]
@[simp] theorem cop_ne_int : cop .ne (.int i) (.int j) S = some (!decide (i = j)) := by
  have := cop_eq_int (i := i) (j := j) (S := S)
  simp only [cop] at this ⊢
  rw [this]
  rfl
@[simp] theorem cop_ne_bl : cop .ne (.bl a) (.bl b) S = some (!(a == b)) := by
  have := cop_eq_bl (a := a) (b := b) (S := S)
  simp only [cop] at this ⊢
  rw [this]
  rfl
@[simp] theorem cop_lt_int : cop .lt (.int i) (.int j) S = some (decide (i < j)) := rfl
@[simp] theorem cop_le_int : cop .le (.int i) (.int j) S = some (decide (i ≤ j)) := rfl
@[simp] theorem cop_gt_int : cop .gt (.int i) (.int j) S = some (decide (j < i)) := rfl
@[simp] theorem cop_ge_int : cop .ge (.int i) (.int j) S = some (decide (j ≤ i)) := rfl
@[simp] theorem cop_isc_non : cop .isc .non .non S = some true := rfl
@[simp] theorem cop_isc_bl : cop .isc (.bl a) (.bl b) S = some (a == b) := rfl
@[simp] theorem cop_isnc_bl : cop .isnc (.bl a) (.bl b) S = some (!(a == b)) := rfl
@[simp] theorem prim_abs : primD .abs [.int i] S = .ok (.int (if i < 0 then -i else i)) S := rfl
@[simp] theorem prim_max : primD .max2 [.int i, .int j] S = .ok (.int (if j > i then j else i)) S := rfl
@[simp] theorem prim_min : primD .min2 [.int i, .int j] S = .ok (.int (if j < i then j else i)) S := rfl
@[simp] theorem prim_int_int : primD .int1 [.int i] S = .ok (.int i) S := rfl
@[simp] theorem prim_int_bl : primD .int1 [.bl b] S = .ok (.int (if b then 1 else 0)) S := rfl
@[simp] theorem prim_len_tup : primD .len [.tup ds] S = .ok (.int ds.length) S := rfl
@[simp] theorem prim_len_kl : primD .len [.kl ds] S = .ok (.int ds.length) S := rfl
theorem prim_len_loc {l : Nat} (h : S[l]? = some (.lst ds)) : primD .len [.loc l] S = .ok (.int ds.length) S := by simp only [primD, seqOf, seqAt, h]
@[simp] theorem prim_tuple_tup : primD .tuple1 [.tup ds] S = .ok (.tup ds) S := rfl
@[simp] theorem prim_tuple_kl : primD .tuple1 [.kl ds] S = .ok (.tup ds) S := rfl
theorem prim_tuple_loc {l : Nat} (h : S[l]? = some (.lst ds)) : primD .tuple1 [.loc l] S = .ok (.tup ds) S := by simp only [primD, seqOf, seqAt, h]
@[simp] theorem prim_list_tup : primD .list1 [.tup ds] S = .ok (.loc S.length) (S ++ [.lst ds]) := rfl
@[simp] theorem prim_list_kl : primD .list1 [.kl ds] S = .ok (.loc S.length) (S ++ [.lst ds]) := rfl
theorem allB_map {α : Type} (p : α → Bool) : ∀ xs : List α, allB (xs.map fun x => D.bl (p x)) = some (xs.all p)
  | [] => rfl
  | x :: xs => by simp only [List.map_cons, allB, allB_map p xs, List.all_cons, Option.map_some]
theorem sumI_map {α : Type} (p : α → Int) : ∀ xs : List α, sumI (xs.map fun x => D.int (p x)) = some (xs.map p).sum
  | [] => rfl
  | x :: xs => by simp only [List.map_cons, sumI, sumI_map p xs, List.sum_cons, Option.map_some]
theorem prim_sum_new {α : Type} (p : α → Int) (xs : List α) : primD .sum1 [.loc S.length] (S ++ [.lst (xs.map fun x => D.int (p x))]) = .ok (.int (xs.map p).sum) (S ++ [.lst (xs.map fun x => D.int (p x))]) := by
  have h : (S ++ [Obj.lst (xs.map fun x => D.int (p x))])[S.length]? = some (.lst (xs.map fun x => D.int (p x))) := by
    rw [List.getElem?_append_right (Nat.le_refl _), Nat.sub_self]; rfl
  simp only [primD, seqOf, seqAt, h, sumI_map]
@[simp] theorem new_get {o : Obj} : (S ++ [o])[S.length]? = some o := by
  rw [List.getElem?_append_right (Nat.le_refl _), Nat.sub_self]; rfl
theorem old_get {l : Nat} {o : Obj} {X : Store} (h : S[l]? = some o) : (S ++ X)[l]? = some o := by
  rw [List.getElem?_append_left (List.getElem?_eq_some_iff.mp h).1]; exact h
theorem idx_tup {d : D} (h : atI ds i = some d) : idxD (.tup ds) (.int i) S = some d := by simp only [idxD, seqOf, h]
theorem idx_loc {l : Nat} {d : D} (hl : S[l]? = some (.lst ds)) (h : atI ds i = some d) : idxD (.loc l) (.int i) S = some d := by simp only [idxD, seqOf, seqAt, hl, h]
theorem idx_kl {d : D} (h : atI ds i = some d) : idxD (.kl ds) (.int i) S = some d := by simp only [idxD, seqOf, h]
theorem atI_lt {α : Type} {xs : List α} {i : Int} (h0 : 0 ≤ i) (h1 : i < xs.length) : ∃ x, atI xs i = some x ∧ x ∈ xs ∧ xs[i.toNat]? = some x := by
  have hl : i.toNat < xs.length := by omega
  refine ⟨xs[i.toNat], ?_, List.getElem_mem hl, List.getElem?_eq_getElem hl⟩
  simp only [atI, ixN, if_pos h0, if_pos h1, Option.bind_some]
  exact List.getElem?_eq_getElem hl
theorem meth_append {l : Nat} {d : D} (h : S[l]? = some (.lst ds)) (hl : ds.length < Line) : methD .append (.loc l) [d] S = .ok .non (S.set l (.lst (ds ++ [d]))) := by simp only [methD, h, if_pos hl]
theorem set_sub {l : Nat} {d : D} {k : Nat} (h : S[l]? = some (.lst ds)) (hk : ixN ds.length i = some k) : setS (.loc l) (.int i) d S = .ok () (S.set l (.lst (ds.set k d))) := by simp only [setS, h, hk]
theorem line_big {n : Nat} (h : n ≤ 1000000) : n ≤ Line := by unfold Line; omega
theorem line_lt {n : Nat} (h : n ≤ 1000000) : n < Line := by unfold Line; omega
end
end Mi

namespace Mi
open PySem L2
noncomputable def kVar (o : Option (Option D)) (S : Store) : Res D := match o with | some (some d) => .ok d S | _ => .bad
noncomputable def kGlb (o : Option D) (S : Store) : Res D := match o with | some d => .ok d S | none => .bad
noncomputable def kBin (C : Pr) (o : Bop) (b : M) (τ : En) (x : D) (S : Store) : Res D := (evE C b τ S).bind (bop o x)
noncomputable def kNeg (x : D) (S : Store) : Res D := match x with | .int i => .ok (.int (-i)) S | _ => .bad
noncomputable def kNot (x : D) (S : Store) : Res D := match tru S x with | some b => .ok (.bl (!b)) S | none => .bad
noncomputable def kCmp2 (o : Cop) (x y : D) (S : Store) : Res D := match cop o x y S with | some k => .ok (.bl k) S | none => .bad
noncomputable def kCmp (C : Pr) (o : Cop) (b : M) (τ : En) (x : D) (S : Store) : Res D := (evE C b τ S).bind (kCmp2 o x)
noncomputable def kChn2 (C : Pr) (o p : Cop) (c : M) (τ : En) (x y : D) (S : Store) : Res D := match cop o x y S with
  | some k => if k then (evE C c τ S).bind (kCmp2 p y) else .ok (.bl false) S
  | none => .bad
noncomputable def kChn (C : Pr) (o p : Cop) (b c : M) (τ : En) (x : D) (S : Store) : Res D := (evE C b τ S).bind (kChn2 C o p c τ x)
noncomputable def kIfe (C : Pr) (a b : M) (τ : En) (k : Bool) (S : Store) : Res D := if k then evE C a τ S else evE C b τ S
noncomputable def kTup (ds : List D) (S : Store) : Res D := if ds.length ≤ Line then .ok (.tup ds) S else .bad
noncomputable def kLst (ds : List D) (S : Store) : Res D := if ds.length ≤ Line then .ok (.loc S.length) (S ++ [.lst ds]) else .bad
noncomputable def kIdx2 (x y : D) (S : Store) : Res D := match idxD x y S with | some d => .ok d S | none => .bad
noncomputable def kIdx (C : Pr) (b : M) (τ : En) (x : D) (S : Store) : Res D := (evE C b τ S).bind (kIdx2 x)
noncomputable def kSli2 (C : Pr) (hi : M) (τ : En) (x : D) (l : Option Int) (S : Store) : Res D := (evO C hi τ S).bind (sliD x l)
noncomputable def kSli (C : Pr) (lo hi : M) (τ : En) (x : D) (S : Store) : Res D := (evO C lo τ S).bind (kSli2 C hi τ x)
noncomputable def kIsi (t : String) (x : D) (S : Store) : Res D := match tyD S x with | some y => .ok (.bl (isiD y t)) S | none => .bad
noncomputable def kMeth (C : Pr) (p : Meth) (as : M) (τ : En) (x : D) (S : Store) : Res D := (evA C as τ S).bind (methD p x)
noncomputable def kTru (d : D) (S : Store) : Res Bool := match tru S d with | some b => .ok b S | none => .bad
noncomputable def tVar' (o : Option (Option D)) (S : Store) : Res Bool := match o with | some (some d) => kTru d S | _ => .bad
noncomputable def tNotB (b : Bool) (S : Store) : Res Bool := .ok (!b) S
noncomputable def tCmp2 (o : Cop) (x y : D) (S : Store) : Res Bool := match cop o x y S with | some k => .ok k S | none => .bad
noncomputable def tCmp' (C : Pr) (o : Cop) (b : M) (τ : En) (x : D) (S : Store) : Res Bool := (evE C b τ S).bind (tCmp2 o x)
noncomputable def tChn2 (C : Pr) (o p : Cop) (c : M) (τ : En) (x y : D) (S : Store) : Res Bool := match cop o x y S with
  | some k => if k then (evE C c τ S).bind (tCmp2 p y) else .ok false S
  | none => .bad
noncomputable def tChn (C : Pr) (o p : Cop) (b c : M) (τ : En) (x : D) (S : Store) : Res Bool := (evE C b τ S).bind (tChn2 C o p c τ x)
noncomputable def tIdx2 (x y : D) (S : Store) : Res Bool := match idxD x y S with | some d => kTru d S | none => .bad
noncomputable def tIdx (C : Pr) (b : M) (τ : En) (x : D) (S : Store) : Res Bool := (evE C b τ S).bind (tIdx2 x)
noncomputable def tCal (C : Pr) (f : String) (ds : List D) (S : Store) : Res Bool := (C.call f ds S).bind kTru
noncomputable def tPri (p : Prim) (ds : List D) (S : Store) : Res Bool := (primD p ds S).bind kTru
noncomputable def tIsi (t : String) (x : D) (S : Store) : Res Bool := match tyD S x with | some y => .ok (isiD y t) S | none => .bad
noncomputable def kBV (C : Pr) (w : Bool) (r : M) (τ : En) (x : D) (S : Store) : Res D := match x with | .bl c => if c = w then evBV C w r τ S else .ok (.bl (!w)) S | _ => .bad
noncomputable def kBT (C : Pr) (w : Bool) (r : M) (τ : En) (c : Bool) (S : Store) : Res Bool := if c = w then evBT C w r τ S else .ok (!w) S
noncomputable def kCons (x : D) (xs : List D) (S : Store) : Res (List D) := .ok (x :: xs) S
noncomputable def kArg (C : Pr) (b : M) (τ : En) (x : D) (S : Store) : Res (List D) := (evA C b τ S).bind (kCons x)
noncomputable def kOpt (x : D) (S : Store) : Res (Option Int) := match x with | .int i => .ok (some i) S | _ => .bad
noncomputable def kRng (x : D) (S : Store) : Res (Option Nat × List D) := match x with
  | .int j => if decide (-(2 ^ 62) ≤ j) && decide (j < 2 ^ 62) then .ok (none, (List.range j.toNat).map fun (i : Nat) => .int i) S else .bad
  | _ => .bad
noncomputable def kRng2 (x y : D) (S : Store) : Res (Option Nat × List D) := match x, y with
  | .int i, .int j => if decide (-(2 ^ 62) ≤ i) && decide (i < 2 ^ 62) && decide (-(2 ^ 62) ≤ j) && decide (j < 2 ^ 62) then .ok (none, (List.range (j - i).toNat).map fun (n : Nat) => .int (i + n)) S else .bad
  | _, _ => .bad
noncomputable def kRngB (C : Pr) (b : M) (τ : En) (x : D) (S : Store) : Res (Option Nat × List D) := (evE C b τ S).bind (kRng2 x)
noncomputable def kSeq (x : D) (S : Store) : Res (Option Nat × List D) := match x with
  | .tup ds => .ok (none, ds) S
  | .kl ds => .ok (none, ds) S
  | .loc l => (match seqAt S l with | some ds => .ok (some l, ds) S | none => .bad)
  | _ => .bad
noncomputable def kEn (τ : En) (_ : Unit) (S : Store) : Res En := .ok τ S
noncomputable def kSub2 (d : D) (τ : En) (o i : D) (S : Store) : Res En := (setS o i d S).bind (kEn τ)
noncomputable def kSub (C : Pr) (b : M) (d : D) (τ : En) (o : D) (S : Store) : Res En := (evE C b τ S).bind (kSub2 d τ o)
noncomputable def kGs (C : Pr) (ts : M) (r : List D) (τ : En) (S : Store) : Res En := evGs C ts r τ S
noncomputable def kNx (τ : En) (S : Store) : Res Fl := .ok (.nx τ) S
noncomputable def kAsg (C : Pr) (t : M) (τ : En) (d : D) (S : Store) : Res Fl := (evG C t d τ S).bind kNx
noncomputable def kIfs (C : Pr) (a b : M) (τ : En) (k : Bool) (S : Store) : Res Fl := if k then evB C a τ S else evB C b τ S
noncomputable def kRet (d : D) (S : Store) : Res Fl := .ok (.rt d) S
noncomputable def kExp (τ : En) (_ : D) (S : Store) : Res Fl := .ok (.nx τ) S
noncomputable def kB (C : Pr) (r : M) (fl : Fl) (S : Store) : Res Fl := match fl with
  | .nx τ1 => evB C r τ1 S
  | .rt d => .ok (.rt d) S
  | .bk τ1 => .ok (.bk τ1) S
  | .ct τ1 => .ok (.ct τ1) S
noncomputable def turnF (C : Pr) (t b : M) (d : D) (τ : En) (S : Store) : Res Fl := (evG C t d τ S).bind (evB C b)
noncomputable def kFor (C : Pr) (t b : M) (τ : En) (w : Option Nat × List D) (S : Store) : Res Fl := forL (turnF C t b) w.1 w.2 w.2.length 0 τ S
noncomputable def kComp1 (ys : List D) (S : Store) : Res D := .ok (.loc S.length) (S ++ [.lst ys])
noncomputable def kComp (C : Pr) (k : Nat) (keep : List Nat) (tg cd el : M) (τ : En) (w : Option Nat × List D) (S : Store) : Res D := (compL (turnC C tg cd el) w.1 w.2 w.2.length 0 (inEn k keep τ) S []).bind kComp1
noncomputable def kZp2 (C : Pr) (t c : M) (τ : En) (x y : D) (S : Store) : Res Fl := match x, y with
  | .loc l, .loc k => (match seqAt S l, seqAt S k with
    | some xs, some ys => zipL (turnF C t c) l k (min xs.length ys.length) 0 τ S
    | _, _ => .bad)
  | _, _ => .bad
noncomputable def kZp (C : Pr) (t b c : M) (τ : En) (x : D) (S : Store) : Res Fl := (evE C b τ S).bind (kZp2 C t c τ x)
section
variable {C : Pr} {τ : En} {S : Store} {w : Bool} {d : D} {ds : List D} {i k : Nat} {keep : List Nat} {N : List String} {x f t : String} {a b c r as lo hi e s ts t' : M} {it tg cd el : M} {o p : Cop} {q : Bop} {pr : Prim} {me : Meth}
theorem v_cst : evE C (.cst d) τ S = .ok d S := by simp only [evE]
theorem v_var : evE C (.var i) τ S = kVar τ[i]? S := by simp only [evE]; rfl
theorem v_glb : evE C (.glb x) τ S = kGlb (C.glob x) S := by simp only [evE]; rfl
theorem v_bin : evE C (.bin q a b) τ S = (evE C a τ S).bind (kBin C q b τ) := by simp only [evE]; rfl
theorem v_neg : evE C (.neg a) τ S = (evE C a τ S).bind kNeg := by simp only [evE]; rfl
theorem v_nott : evE C (.nott a) τ S = (evE C a τ S).bind kNot := by simp only [evE]; rfl
theorem v_bo : evE C (.bo w as) τ S = evBV C w as τ S := by simp only [evE]
theorem v_cmp : evE C (.cmp o a b) τ S = (evE C a τ S).bind (kCmp C o b τ) := by simp only [evE]; rfl
theorem v_cmp2 : evE C (.cmp2 o p a b c) τ S = (evE C a τ S).bind (kChn C o p b c τ) := by
  simp only [evE]
  congr 1; funext x S1
  simp only [kChn]
  congr 1; funext y S2
  simp only [kChn2]
  cases cop o x y S2 with
  | none => rfl
  | some k => cases k <;> rfl
theorem v_ife : evE C (.ife c a b) τ S = (evT C c τ S).bind (kIfe C a b τ) := by simp only [evE]; rfl
theorem v_tup : evE C (.tup as) τ S = (evA C as τ S).bind kTup := by simp only [evE]; rfl
theorem v_lst : evE C (.lst as) τ S = (evA C as τ S).bind kLst := by simp only [evE]; rfl
theorem v_idx : evE C (.idx a b) τ S = (evE C a τ S).bind (kIdx C b τ) := by simp only [evE]; rfl
theorem v_sli : evE C (.sli a lo hi) τ S = (evE C a τ S).bind (kSli C lo hi τ) := by simp only [evE]; rfl
theorem v_call : evE C (.call f as) τ S = (evA C as τ S).bind (C.call f) := by simp only [evE]
theorem v_prim : evE C (.prim pr as) τ S = (evA C as τ S).bind (primD pr) := by simp only [evE]
theorem v_isi : evE C (.isi a t) τ S = (evE C a τ S).bind (kIsi t) := by simp only [evE]; rfl
theorem v_meth : evE C (.meth me a as) τ S = (evE C a τ S).bind (kMeth C me as τ) := by simp only [evE]; rfl
theorem v_comp : evE C (.comp N k keep tg it cd el) τ S = (evI C it τ S).bind (kComp C k keep tg cd el τ) := by simp only [evE]; rfl
theorem w_nott : evT C (.nott a) τ S = (evT C a τ S).bind tNotB := by simp only [evT]; rfl
theorem w_bo : evT C (.bo w as) τ S = evBT C w as τ S := by simp only [evT]
theorem w_cmp : evT C (.cmp o a b) τ S = (evE C a τ S).bind (tCmp' C o b τ) := by simp only [evT]; rfl
theorem w_cmp2 : evT C (.cmp2 o p a b c) τ S = (evE C a τ S).bind (tChn C o p b c τ) := by
  simp only [evT]
  congr 1; funext x S1
  simp only [tChn]
  congr 1; funext y S2
  simp only [tChn2]
  cases cop o x y S2 with
  | none => rfl
  | some k => cases k <;> rfl
theorem w_var : evT C (.var i) τ S = tVar' τ[i]? S := by simp only [evT]; rfl
theorem w_idx : evT C (.idx a b) τ S = (evE C a τ S).bind (tIdx C b τ) := by simp only [evT]; rfl
theorem w_call : evT C (.call f as) τ S = (evA C as τ S).bind (tCal C f) := by simp only [evT]; rfl
theorem w_prim : evT C (.prim pr as) τ S = (evA C as τ S).bind (tPri pr) := by simp only [evT]; rfl
theorem w_isi : evT C (.isi a t) τ S = (evE C a τ S).bind (tIsi t) := by simp only [evT]; rfl
theorem v_bv1 : evBV C w (.cns a .nul) τ S = evE C a τ S := by simp only [evBV]
theorem v_bv2 : evBV C w (.cns a (.cns b r)) τ S = (evE C a τ S).bind (kBV C w (.cns b r) τ) := by simp only [evBV]; rfl
theorem v_bt1 : evBT C w (.cns a .nul) τ S = evT C a τ S := by simp only [evBT]
theorem v_bt2 : evBT C w (.cns a (.cns b r)) τ S = (evT C a τ S).bind (kBT C w (.cns b r) τ) := by simp only [evBT]; rfl
theorem v_c0 : evC C .nul τ S = .ok true S := by simp only [evC]
theorem v_c1 : evC C (.cns c .nul) τ S = evT C c τ S := by simp only [evC]
theorem v_a0 : evA C .nul τ S = .ok [] S := by simp only [evA]
theorem v_a1 : evA C (.cns a b) τ S = (evE C a τ S).bind (kArg C b τ) := by simp only [evA]; rfl
theorem v_o0 : evO C .nul τ S = .ok none S := by simp only [evO]
theorem v_o1 : evO C (.cns a .nul) τ S = (evE C a τ S).bind kOpt := by simp only [evO]; rfl
theorem v_rng : evI C (.rng a) τ S = (evE C a τ S).bind kRng := by simp only [evI]; rfl
theorem v_rng2 : evI C (.rng2 a b) τ S = (evE C a τ S).bind (kRngB C b τ) := by simp only [evI]; rfl
theorem v_seq : evI C (.cns a .nul) τ S = (evE C a τ S).bind kSeq := by simp only [evI]; rfl
theorem v_tvar : evG C (.tvar i) d τ S = if i < τ.length then .ok (τ.set i (some d)) S else .bad := by simp only [evG]
theorem v_ttup : evG C (.ttup ts) (.tup ds) τ S = evGs C ts ds τ S := by simp only [evG]
theorem v_tsub : evG C (.tsub a b) d τ S = (evE C a τ S).bind (kSub C b d τ) := by simp only [evG]; rfl
theorem v_gs0 : evGs C .nul [] τ S = .ok τ S := by simp only [evGs]
theorem v_gs1 : evGs C (.cns t' ts) (d :: ds) τ S = (evG C t' d τ S).bind (evGs C ts ds) := by simp only [evGs]
theorem v_asg : evS C (.asg t' e) τ S = (evE C e τ S).bind (kAsg C t' τ) := by simp only [evS]; rfl
theorem v_ifs : evS C (.ifs c a b) τ S = (evT C c τ S).bind (kIfs C a b τ) := by simp only [evS]; rfl
theorem v_ret : evS C (.ret e) τ S = (evE C e τ S).bind kRet := by simp only [evS]; rfl
theorem v_retN : evS C .retN τ S = .ok (.rt .non) S := by simp only [evS]
theorem v_exp : evS C (.exp e) τ S = (evE C e τ S).bind (kExp τ) := by simp only [evS]; rfl
theorem v_pas : evS C .pas τ S = .ok (.nx τ) S := by simp only [evS]
theorem v_brk : evS C .brk τ S = .ok (.bk τ) S := by simp only [evS]
theorem v_cnt : evS C .cnt τ S = .ok (.ct τ) S := by simp only [evS]
theorem v_for : evS C (.forr t' it b) τ S = (evI C it τ S).bind (kFor C t' b τ) := by simp only [evS]; rfl
theorem v_zipf : evS C (.zipf t' a b c) τ S = (evE C a τ S).bind (kZp C t' b c τ) := by simp only [evS]; rfl
theorem v_whl : evS C (.whl c b) τ S = whlL (evT C c) (evB C b) C.W τ S := by simp only [evS]
theorem v_b0 : evB C .nul τ S = .ok (.nx τ) S := by simp only [evB]
theorem v_b1 : evB C (.cns s r) τ S = (evS C s τ S).bind (kB C r) := by simp only [evB]; rfl
theorem turnF_eq {t b : M} : turnF C t b d τ S = (evG C t d τ S).bind (evB C b) := rfl
noncomputable def kEl1 (y : D) (S : Store) : Res (Option D) := .ok (some y) S
noncomputable def kEl (C : Pr) (el : M) (τ : En) (b : Bool) (S : Store) : Res (Option D) := if b then (evE C el τ S).bind kEl1 else .ok none S
noncomputable def kCd (C : Pr) (cd el : M) (τ : En) (S : Store) : Res (Option D) := (evC C cd τ S).bind (kEl C el τ)
theorem turnC_eq : turnC C tg cd el d τ S = (evG C tg d τ S).bind (kCd C cd el) := rfl
theorem kRng_of {j : Int} (h0 : -(2 ^ 62) ≤ j) (h1 : j < 2 ^ 62) : kRng (.int j) S = .ok (none, (List.range j.toNat).map fun (i : Nat) => .int i) S := by
  simp only [kRng]
  rw [if_pos (by simp only [Bool.and_eq_true, decide_eq_true_eq]; exact ⟨h0, h1⟩)]
theorem kFor_none {t b : M} {P : Fl → Store → Prop} (I : Nat → En → Store → Prop) (h0 : I 0 τ S) (hturn : ∀ i d τ S, ds[i]? = some d → I i τ S → Sat (turnF C t b d τ S) fun fl S1 => match fl with | .nx τ1 => I (i + 1) τ1 S1 | .ct τ1 => I (i + 1) τ1 S1 | .bk τ1 => P (.nx τ1) S1 | .rt d => P (.rt d) S1)
    (hend : ∀ τ S, I ds.length τ S → P (.nx τ) S) : Sat (kFor C t b τ (none, ds) S) P := forL_none I hend hturn _ 0 τ S (by simp) h0
theorem kFor_some {t b : M} {l : Nat} {P : Fl → Store → Prop} (I : Nat → En → Store → Prop) (h0 : I 0 τ S) (hst : ∀ i τ S, I i τ S → S[l]? = some (.lst ds)) (hturn : ∀ i d τ S, ds[i]? = some d → I i τ S → Sat (turnF C t b d τ S) fun fl S1 => match fl with | .nx τ1 => I (i + 1) τ1 S1 | .ct τ1 => I (i + 1) τ1 S1 | .bk τ1 => P (.nx τ1) S1 | .rt d => P (.rt d) S1)
    (hend : ∀ τ S, I ds.length τ S → P (.nx τ) S) : Sat (kFor C t b τ (some l, ds) S) P := forL_some I hst hend hturn _ 0 τ S (by simp) h0
end
end Mi

namespace Mi
open PySem L2
theorem Sat.p0 {α0 : Type} {r : Res α0} {Q P : α0 → Store → Prop} (h : Sat r Q) (k : ∀ a S, Q a S → Sat (.ok a S) P) : Sat r P := by
  obtain ⟨a, S, e, h⟩ := h
  rw [e]
  exact k a S h
theorem Sat.p1 {α0 α1 : Type} {r : Res α0} {f1 : α0 → Store → Res α1} {Q : α0 → Store → Prop} {P : α1 → Store → Prop} (h : Sat r Q) (k : ∀ a S, Q a S → Sat (((.ok a S : Res α0)).bind f1) P) : Sat ((r).bind f1) P := by
  obtain ⟨a, S, e, h⟩ := h
  rw [e]
  exact k a S h
theorem Sat.p2 {α0 α1 α2 : Type} {r : Res α0} {f1 : α0 → Store → Res α1} {f2 : α1 → Store → Res α2} {Q : α0 → Store → Prop} {P : α2 → Store → Prop} (h : Sat r Q) (k : ∀ a S, Q a S → Sat ((((.ok a S : Res α0)).bind f1).bind f2) P) : Sat (((r).bind f1).bind f2) P := by
  obtain ⟨a, S, e, h⟩ := h
  rw [e]
  exact k a S h
theorem Sat.p3 {α0 α1 α2 α3 : Type} {r : Res α0} {f1 : α0 → Store → Res α1} {f2 : α1 → Store → Res α2} {f3 : α2 → Store → Res α3} {Q : α0 → Store → Prop} {P : α3 → Store → Prop} (h : Sat r Q) (k : ∀ a S, Q a S → Sat (((((.ok a S : Res α0)).bind f1).bind f2).bind f3) P) : Sat ((((r).bind f1).bind f2).bind f3) P := by
  obtain ⟨a, S, e, h⟩ := h
  rw [e]
  exact k a S h
theorem Sat.p4 {α0 α1 α2 α3 α4 : Type} {r : Res α0} {f1 : α0 → Store → Res α1} {f2 : α1 → Store → Res α2} {f3 : α2 → Store → Res α3} {f4 : α3 → Store → Res α4} {Q : α0 → Store → Prop} {P : α4 → Store → Prop} (h : Sat r Q) (k : ∀ a S, Q a S → Sat ((((((.ok a S : Res α0)).bind f1).bind f2).bind f3).bind f4) P) : Sat (((((r).bind f1).bind f2).bind f3).bind f4) P := by
  obtain ⟨a, S, e, h⟩ := h
  rw [e]
  exact k a S h
theorem Sat.p5 {α0 α1 α2 α3 α4 α5 : Type} {r : Res α0} {f1 : α0 → Store → Res α1} {f2 : α1 → Store → Res α2} {f3 : α2 → Store → Res α3} {f4 : α3 → Store → Res α4} {f5 : α4 → Store → Res α5} {Q : α0 → Store → Prop} {P : α5 → Store → Prop} (h : Sat r Q) (k : ∀ a S, Q a S → Sat (((((((.ok a S : Res α0)).bind f1).bind f2).bind f3).bind f4).bind f5) P) : Sat ((((((r).bind f1).bind f2).bind f3).bind f4).bind f5) P := by
  obtain ⟨a, S, e, h⟩ := h
  rw [e]
  exact k a S h
theorem Sat.p6 {α0 α1 α2 α3 α4 α5 α6 : Type} {r : Res α0} {f1 : α0 → Store → Res α1} {f2 : α1 → Store → Res α2} {f3 : α2 → Store → Res α3} {f4 : α3 → Store → Res α4} {f5 : α4 → Store → Res α5} {f6 : α5 → Store → Res α6} {Q : α0 → Store → Prop} {P : α6 → Store → Prop} (h : Sat r Q) (k : ∀ a S, Q a S → Sat ((((((((.ok a S : Res α0)).bind f1).bind f2).bind f3).bind f4).bind f5).bind f6) P) : Sat (((((((r).bind f1).bind f2).bind f3).bind f4).bind f5).bind f6) P := by
  obtain ⟨a, S, e, h⟩ := h
  rw [e]
  exact k a S h
theorem Sat.p7 {α0 α1 α2 α3 α4 α5 α6 α7 : Type} {r : Res α0} {f1 : α0 → Store → Res α1} {f2 : α1 → Store → Res α2} {f3 : α2 → Store → Res α3} {f4 : α3 → Store → Res α4} {f5 : α4 → Store → Res α5} {f6 : α5 → Store → Res α6} {f7 : α6 → Store → Res α7} {Q : α0 → Store → Prop} {P : α7 → Store → Prop} (h : Sat r Q) (k : ∀ a S, Q a S → Sat (((((((((.ok a S : Res α0)).bind f1).bind f2).bind f3).bind f4).bind f5).bind f6).bind f7) P) : Sat ((((((((r).bind f1).bind f2).bind f3).bind f4).bind f5).bind f6).bind f7) P := by
  obtain ⟨a, S, e, h⟩ := h
  rw [e]
  exact k a S h
theorem Sat.p8 {α0 α1 α2 α3 α4 α5 α6 α7 α8 : Type} {r : Res α0} {f1 : α0 → Store → Res α1} {f2 : α1 → Store → Res α2} {f3 : α2 → Store → Res α3} {f4 : α3 → Store → Res α4} {f5 : α4 → Store → Res α5} {f6 : α5 → Store → Res α6} {f7 : α6 → Store → Res α7} {f8 : α7 → Store → Res α8} {Q : α0 → Store → Prop} {P : α8 → Store → Prop} (h : Sat r Q) (k : ∀ a S, Q a S → Sat ((((((((((.ok a S : Res α0)).bind f1).bind f2).bind f3).bind f4).bind f5).bind f6).bind f7).bind f8) P) : Sat (((((((((r).bind f1).bind f2).bind f3).bind f4).bind f5).bind f6).bind f7).bind f8) P := by
  obtain ⟨a, S, e, h⟩ := h
  rw [e]
  exact k a S h
theorem Sat.p9 {α0 α1 α2 α3 α4 α5 α6 α7 α8 α9 : Type} {r : Res α0} {f1 : α0 → Store → Res α1} {f2 : α1 → Store → Res α2} {f3 : α2 → Store → Res α3} {f4 : α3 → Store → Res α4} {f5 : α4 → Store → Res α5} {f6 : α5 → Store → Res α6} {f7 : α6 → Store → Res α7} {f8 : α7 → Store → Res α8} {f9 : α8 → Store → Res α9} {Q : α0 → Store → Prop} {P : α9 → Store → Prop} (h : Sat r Q) (k : ∀ a S, Q a S → Sat (((((((((((.ok a S : Res α0)).bind f1).bind f2).bind f3).bind f4).bind f5).bind f6).bind f7).bind f8).bind f9) P) : Sat ((((((((((r).bind f1).bind f2).bind f3).bind f4).bind f5).bind f6).bind f7).bind f8).bind f9) P := by
  obtain ⟨a, S, e, h⟩ := h
  rw [e]
  exact k a S h
theorem Sat.p10 {α0 α1 α2 α3 α4 α5 α6 α7 α8 α9 α10 : Type} {r : Res α0} {f1 : α0 → Store → Res α1} {f2 : α1 → Store → Res α2} {f3 : α2 → Store → Res α3} {f4 : α3 → Store → Res α4} {f5 : α4 → Store → Res α5} {f6 : α5 → Store → Res α6} {f7 : α6 → Store → Res α7} {f8 : α7 → Store → Res α8} {f9 : α8 → Store → Res α9} {f10 : α9 → Store → Res α10} {Q : α0 → Store → Prop} {P : α10 → Store → Prop} (h : Sat r Q) (k : ∀ a S, Q a S → Sat ((((((((((((.ok a S : Res α0)).bind f1).bind f2).bind f3).bind f4).bind f5).bind f6).bind f7).bind f8).bind f9).bind f10) P) : Sat (((((((((((r).bind f1).bind f2).bind f3).bind f4).bind f5).bind f6).bind f7).bind f8).bind f9).bind f10) P := by
  obtain ⟨a, S, e, h⟩ := h
  rw [e]
  exact k a S h
noncomputable def Ext (S S' : Store) : Prop := ∃ X, S' = S ++ X
theorem Ext.refl (S : Store) : Ext S S := ⟨[], by simp⟩
theorem Ext.trans {S S1 S2 : Store} (a : Ext S S1) (b : Ext S1 S2) : Ext S S2 := by
  obtain ⟨X, rfl⟩ := a
  obtain ⟨Y, rfl⟩ := b
  exact ⟨X ++ Y, by rw [List.append_assoc]⟩
theorem Ext.new (S X : Store) : Ext S (S ++ X) := ⟨X, rfl⟩
theorem Ext.more {S S1 : Store} (a : Ext S S1) (X : Store) : Ext S (S1 ++ X) := a.trans (.new _ _)
theorem Ext.get {S S' : Store} {l : Nat} {o : Obj} (e : Ext S S') (h : S[l]? = some o) : S'[l]? = some o := by
  obtain ⟨X, rfl⟩ := e
  exact old_get h
theorem Ext.len {S S' : Store} (e : Ext S S') : S.length ≤ S'.length := by
  obtain ⟨X, rfl⟩ := e
  simp
theorem Ext.set {S S' : Store} (e : Ext S S') {l : Nat} (h : S.length ≤ l) (o : Obj) : Ext S (S'.set l o) := by
  obtain ⟨X, rfl⟩ := e
  refine ⟨X.set (l - S.length) o, ?_⟩
  rw [List.set_append_right _ _ h]
theorem get_lt {S : Store} {l : Nat} {o : Obj} (h : S[l]? = some o) : l < S.length := (List.getElem?_eq_some_iff.mp h).1
theorem set_get {S : Store} {l : Nat} {o o' : Obj} (h : S[l]? = some o) : (S.set l o')[l]? = some o' := List.getElem?_set_self (get_lt h)
theorem app_get (S X : Store) (k : Nat) : (S ++ X)[S.length + k]? = X[k]? := by
  rw [List.getElem?_append_right (Nat.le_add_right _ _), Nat.add_sub_cancel_left]
@[simp] theorem app_get1 {S X : Store} {a0 a1 : Obj} : (S ++ (a0 :: a1 :: X))[S.length + 1]? = some a1 := by rw [app_get]; rfl
@[simp] theorem app_get0 {S X : Store} {a0 : Obj} : (S ++ (a0 :: X))[S.length]? = some a0 := app_get S (a0 :: X) 0
noncomputable def Lsts (S S' : Store) : Prop := ∀ (l : Nat) (ds : List D), S[l]? = some (.lst ds) → ∃ es, S'[l]? = some (.lst es)
theorem Lsts.ext {S S' : Store} (e : Ext S S') : Lsts S S' := fun l ds h => ⟨ds, e.get h⟩
theorem Lsts.trans {S S1 S2 : Store} (a : Lsts S S1) (b : Lsts S1 S2) : Lsts S S2 := fun l ds h => let ⟨_, h1⟩ := a l ds h; b l _ h1
theorem Lsts.set {S : Store} (l : Nat) (es : List D) : Lsts S (S.set l (.lst es)) := fun k ds h => by
  by_cases e : l = k
  · subst e; exact ⟨es, set_get h⟩
  · exact ⟨ds, by rw [List.getElem?_set_ne e]; exact h⟩
section
variable {S : Store} {ds : List D} {i : Int} {l : Nat}
theorem sat_idx_loc (hl : S[l]? = some (.lst ds)) (h0 : 0 ≤ i) (h1 : i < ds.length) : Sat (kIdx2 (.loc l) (.int i) S) fun x S1 => x ∈ ds ∧ S1 = S ∧ ds[i.toNat]? = some x := by
  obtain ⟨x, e, hm, hg⟩ := atI_lt h0 h1
  refine ⟨x, S, ?_, hm, rfl, hg⟩
  simp only [kIdx2, idx_loc hl e]
theorem sat_idx_kl (h0 : 0 ≤ i) (h1 : i < ds.length) : Sat (kIdx2 (.kl ds) (.int i) S) fun x S1 => x ∈ ds ∧ S1 = S ∧ ds[i.toNat]? = some x := by
  obtain ⟨x, e, hm, hg⟩ := atI_lt h0 h1
  refine ⟨x, S, ?_, hm, rfl, hg⟩
  simp only [kIdx2, idx_kl e]
@[simp] theorem kIdx2_t0 {a : D} : kIdx2 (.tup (a :: ds)) (.int 0) S = .ok a S := by
  have e : atI (a :: ds) (0 : Int) = some a := by
    simp only [atI, ixN, List.length_cons]
    rw [if_pos (by decide), if_pos (by omega)]
    rfl
  simp only [kIdx2, idx_tup e]
@[simp] theorem kIdx2_t1 {a b : D} : kIdx2 (.tup (a :: b :: ds)) (.int 1) S = .ok b S := by
  have e : atI (a :: b :: ds) (1 : Int) = some b := by
    simp only [atI, ixN, List.length_cons]
    rw [if_pos (by decide), if_pos (by omega)]
    rfl
  simp only [kIdx2, idx_tup e]
@[simp] theorem kIdx2_t2 {a b c : D} : kIdx2 (.tup (a :: b :: c :: ds)) (.int 2) S = .ok c S := by
  have e : atI (a :: b :: c :: ds) (2 : Int) = some c := by
    simp only [atI, ixN, List.length_cons]
    rw [if_pos (by decide), if_pos (by omega)]
    rfl
  simp only [kIdx2, idx_tup e]
theorem sat_set {d : D} (hl : S[l]? = some (.lst ds)) (h0 : 0 ≤ i) (h1 : i < ds.length) : setS (.loc l) (.int i) d S = .ok () (S.set l (.lst (ds.set i.toNat d))) := by
  refine set_sub hl ?_
  simp only [ixN, if_pos h0, if_pos h1]
end
noncomputable def noB : En → Store → Prop := fun _ _ => False
noncomputable def noR : D → Store → Prop := fun _ _ => False
noncomputable def FlP (I B : En → Store → Prop) (R : D → Store → Prop) (fl : Fl) (S : Store) : Prop := match fl with
  | .nx τ => I τ S
  | .ct τ => I τ S
  | .bk τ => B τ S
  | .rt d => R d S
noncomputable def OutP (I B : En → Store → Prop) (R : D → Store → Prop) (fl : Fl) (S : Store) : Prop := match fl with
  | .nx τ => I τ S ∨ B τ S
  | .rt d => R d S
  | _ => False
section
variable {I B : En → Store → Prop} {R : D → Store → Prop} {fl : Fl} {S : Store} {τ : En} {d : D}
@[simp] theorem FlP_nx : FlP I B R (.nx τ) S ↔ I τ S := Iff.rfl
@[simp] theorem FlP_ct : FlP I B R (.ct τ) S ↔ I τ S := Iff.rfl
@[simp] theorem FlP_bk : FlP I B R (.bk τ) S ↔ B τ S := Iff.rfl
@[simp] theorem FlP_rt : FlP I B R (.rt d) S ↔ R d S := Iff.rfl
theorem OutP.nx (h : OutP I noB noR fl S) : ∃ τ, fl = .nx τ ∧ I τ S := by
  cases fl with
  | nx τ => exact ⟨τ, rfl, h.elim id False.elim⟩
  | _ => exact False.elim h
end
section
variable {C : Pr} {t b c : M} {ds : List D} {S : Store} {τ : En} {B : En → Store → Prop} {R : D → Store → Prop}
theorem loop (I : Nat → En → Store → Prop) (B : En → Store → Prop) (R : D → Store → Prop) (h0 : I 0 τ S) (hturn : ∀ i d τ S, ds[i]? = some d → I i τ S → Sat (turnF C t b d τ S) (FlP (I (i + 1)) B R)) : Sat (kFor C t b τ (none, ds) S) (OutP (I ds.length) B R) :=
  kFor_none I h0 (fun i d τ S e h => (hturn i d τ S e h).mono fun fl S1 q => by
    cases fl with
    | nx τ1 => exact q
    | ct τ1 => exact q
    | bk τ1 => exact .inr q
    | rt d => exact q) fun τ S h => .inl h
theorem loopS {l : Nat} (I : Nat → En → Store → Prop) (B : En → Store → Prop) (R : D → Store → Prop) (h0 : I 0 τ S) (hst : ∀ i τ S, I i τ S → S[l]? = some (.lst ds)) (hturn : ∀ i d τ S, ds[i]? = some d → I i τ S → Sat (turnF C t b d τ S) (FlP (I (i + 1)) B R)) : Sat (kFor C t b τ (some l, ds) S) (OutP (I ds.length) B R) :=
  kFor_some I h0 hst (fun i d τ S e h => (hturn i d τ S e h).mono fun fl S1 q => by
    cases fl with
    | nx τ1 => exact q
    | ct τ1 => exact q
    | bk τ1 => exact .inr q
    | rt d => exact q) fun τ S h => .inl h
theorem loopZ {l k : Nat} {xs ys : List D} (I : Nat → En → Store → Prop) (B : En → Store → Prop) (R : D → Store → Prop) (h0 : I 0 τ S) (hst : ∀ i τ S, I i τ S → S[l]? = some (.lst xs) ∧ S[k]? = some (.lst ys))
    (hturn : ∀ i x y τ S, xs[i]? = some x → ys[i]? = some y → I i τ S → Sat (turnF C t b (.tup [x, y]) τ S) (FlP (I (i + 1)) B R)) : Sat (kZp2 C t b τ (.loc l) (.loc k) S) (OutP (I (min xs.length ys.length)) B R) := by
  have main : ∀ (m i : Nat) (τ : En) (S : Store), i + m = min xs.length ys.length → I i τ S → Sat (zipL (turnF C t b) l k m i τ S) (OutP (I (min xs.length ys.length)) B R) := by
    intro m
    induction m with
    | zero =>
      intro i τ S hi h
      obtain ⟨e1, e2⟩ := hst i τ S h
      have : xs.length ≤ i ∨ ys.length ≤ i := by omega
      simp only [zipL, seqAt, e1, e2, if_pos this]
      have hi' : i = min xs.length ys.length := by omega
      exact .ok (.inl (hi' ▸ h))
    | succ m ih =>
      intro i τ S hi h
      obtain ⟨e1, e2⟩ := hst i τ S h
      have l1 : i < xs.length := by omega
      have l2 : i < ys.length := by omega
      simp only [zipL, seqAt, e1, e2, List.getElem?_eq_getElem l1, List.getElem?_eq_getElem l2]
      refine .bind ((hturn i _ _ τ S (List.getElem?_eq_getElem l1) (List.getElem?_eq_getElem l2) h).mono fun fl S1 q => ?_)
      cases fl with
      | nx τ1 => exact ih (i + 1) τ1 S1 (by omega) q
      | ct τ1 => exact ih (i + 1) τ1 S1 (by omega) q
      | bk τ1 => exact .ok (.inr q)
      | rt d => exact .ok q
  obtain ⟨e1, e2⟩ := hst 0 τ S h0
  simp only [kZp2, seqAt, e1, e2]
  exact main _ 0 τ S (by omega) h0
end
@[simp] theorem tru_bl {S : Store} {b : Bool} : tru S (.bl b) = some b := rfl
@[simp] theorem tru_int {S : Store} {i : Int} : tru S (.int i) = some (i != 0) := rfl
@[simp] theorem tru_non {S : Store} : tru S .non = some false := rfl
@[simp] theorem tru_tup {S : Store} {ds : List D} : tru S (.tup ds) = some (!ds.isEmpty) := rfl
section
variable {S : Store} {l : Nat} {ds : List D} {d : D}
theorem kIdx_loc {i : Int} (h : S[l]? = some (.lst ds)) (e : atI ds i = some d) : kIdx2 (.loc l) (.int i) S = .ok d S := by simp only [kIdx2, idx_loc h e]
theorem set_same {o : Obj} (h : S[l]? = some o) : S.set l o = S := by
  obtain ⟨h1, rfl⟩ := List.getElem?_eq_some_iff.mp h
  exact List.set_getElem_self h1
end
noncomputable def Keep (ps : List Nat) (S S' : Store) : Prop := S.length ≤ S'.length ∧ ∀ l : Nat, l < S.length → l ∉ ps → S'[l]? = S[l]?
section
variable {S S1 S2 B : Store} {ps : List Nat}
theorem Keep.refl : Keep ps S S := ⟨Nat.le_refl _, fun _ _ _ => rfl⟩
theorem Keep.trans (a : Keep ps S S1) (b : Keep ps S1 S2) : Keep ps S S2 := ⟨Nat.le_trans a.1 b.1, fun l h n => (b.2 l (Nat.lt_of_lt_of_le h a.1) n).trans (a.2 l h n)⟩
theorem Keep.get {l : Nat} {o : Mi.Obj} (a : Keep ps S S1) (h : S[l]? = some o) (n : l ∉ ps) : S1[l]? = some o := (a.2 l (get_lt h) n).trans h
theorem Keep.ext (e : Ext S S1) : Keep ps S S1 := ⟨e.len, fun l h n => by
  rw [List.getElem?_eq_getElem h]
  exact e.get (List.getElem?_eq_getElem h)⟩
theorem Keep.new (X : Store) : Keep ps S (S ++ X) := .ext (.new _ _)
theorem Keep.set {p : Nat} {o : Mi.Obj} (h : p ∈ ps) : Keep ps S (S.set p o) := ⟨by simp, fun l hl n => by
  rw [List.getElem?_set_ne]
  rintro rfl
  exact n h⟩
theorem Keep.mono {qs : List Nat} (a : Keep ps S S1) (h : ∀ p ∈ ps, p ∈ qs) : Keep qs S S1 := ⟨a.1, fun l hl n => a.2 l hl fun z => n (h l z)⟩
theorem Ext.keep (e : Ext B S) (k : Keep ps S S1) (h : ∀ p ∈ ps, B.length ≤ p) : Ext B S1 := by
  refine ⟨S1.drop B.length, ?_⟩
  have : B = S1.take B.length := by
    refine List.ext_getElem? fun i => ?_
    by_cases hi : i < B.length
    · rw [List.getElem?_take_of_lt hi]
      have h1 := e.get (List.getElem?_eq_getElem hi)
      rw [List.getElem?_eq_getElem hi]
      exact (k.get h1 fun z => absurd (h i z) (by omega)).symm
    · rw [List.getElem?_eq_none (by omega), List.getElem?_eq_none (by rw [List.length_take]; omega)]
  calc S1 = S1.take B.length ++ S1.drop B.length := (List.take_append_drop _ _).symm
    _ = B ++ S1.drop B.length := by rw [← this]
end
theorem kComp_of {α : Type} {C : Pr} {k : Nat} {keep : List Nat} {tg cd el : M} {τ : En} {S : Store} {g : Option Nat} {xs : List α} (h : α → D) (f : α → D) (hl : xs.length ≤ 1000000) (hg : g = none ∨ ∃ l, g = some l ∧ S[l]? = some (.lst (xs.map h)))
    (ht : ∀ x ∈ xs, turnC C tg cd el (h x) (inEn k keep τ) S = .ok (some (f x)) S) : kComp C k keep tg cd el τ (g, xs.map h) S = .ok (.loc S.length) (S ++ [.lst (xs.map f)]) := by
  have main : Sat (compL (turnC C tg cd el) g (xs.map h) (xs.map h).length 0 (inEn k keep τ) S []) fun ys S1 => ys = xs.map f ∧ S1 = S := by
    have len : ∀ (i : Nat) (acc : List D) (S1 : Store), (acc = (xs.take i).map f ∧ S1 = S ∧ i ≤ xs.length) → acc.length ≤ i := fun i acc S1 h => by
      rw [h.1, List.length_map, List.length_take]; omega
    have tn : ∀ (i : Nat) (d : D) (acc : List D) (S1 : Store), (xs.map h)[i]? = some d → (acc = (xs.take i).map f ∧ S1 = S ∧ i ≤ xs.length) → Sat (turnC C tg cd el d (inEn k keep τ) S1) fun o S1 => match o with | some y => (acc ++ [y] = (xs.take (i + 1)).map f ∧ S1 = S ∧ i + 1 ≤ xs.length) | none => (acc = (xs.take (i + 1)).map f ∧ S1 = S ∧ i + 1 ≤ xs.length) := by
      rintro i d acc S1 hd ⟨rfl, rfl, hi⟩
      rw [List.getElem?_map] at hd
      obtain ⟨x, hx, rfl⟩ := Option.map_eq_some_iff.mp hd
      rw [ht x (List.mem_of_getElem? hx)]
      refine .ok ⟨?_, rfl, (List.getElem?_eq_some_iff.mp hx).1⟩
      rw [List.take_add_one, hx, List.map_append]
      rfl
    have hln : (xs.map h).length ≤ Line := by rw [List.length_map]; exact line_big hl
    rcases hg with rfl | ⟨l, rfl, hs⟩
    · exact compL_none (fun i acc S1 => acc = (xs.take i).map f ∧ S1 = S ∧ i ≤ xs.length) hln len (fun acc S1 h => by rw [List.length_map, List.take_length] at h; exact ⟨h.1, h.2.1⟩) tn _ 0 [] S (by omega) ⟨by simp, rfl, by omega⟩
    · exact compL_some (fun i acc S1 => acc = (xs.take i).map f ∧ S1 = S ∧ i ≤ xs.length) hln (fun i acc S1 h => ⟨len i acc S1 h, by rw [h.2.1]; exact hs⟩) (fun acc S1 h => by rw [List.length_map, List.take_length] at h; exact ⟨h.1, h.2.1⟩) tn _ 0 [] S (by omega) ⟨by simp, rfl, by omega⟩
  obtain ⟨ys, S1, e, rfl, rfl⟩ := main
  simp only [kComp, e, Res.bind_ok, kComp1]
noncomputable def dropS : Nat → M → M
  | 0, m => m
  | n + 1, .cns _ r => dropS n r
  | _, m => m
end Mi

namespace K12
open PySem L2 Mi
noncomputable def f_is_maker : Fn := ⟨["deed"], ["deed"],
  (.cns (.ret (.cmp .eq (.prim .len (.cns (.idx (.var 0) (.cst (.int 1))) .nul)) (.cst (.int 0)))) .nul)⟩
noncomputable def f_made_by : Fn := ⟨["deed"], ["deed"],
  (.cns (.ret (.comp ["place", "deed"] 1 [0] (.tvar 0) (.rng (.prim .len (.cns (.idx (.var 0) (.cst (.int 2))) .nul))) .nul (.tup (.cns (.idx (.var 1) (.cst (.int 0))) (.cns (.var 0) .nul))))) .nul)⟩
noncomputable def f_worth_of : Fn := ⟨["deed"], ["deed"],
  (.cns (.ret (.prim .sum1 (.cns (.comp ["out"] 1 [] (.tvar 0) (.cns (.idx (.var 0) (.cst (.int 2))) .nul) .nul (.idx (.var 0) (.cst (.int 0)))) .nul))) .nul)⟩
noncomputable def f_law_begin : Fn := ⟨["_law_script", "_law_k"], ["_law_script", "_law_k", "_law_cell", "_law_plain", "_law_mixed"],
  (.cns (.asg (.tvar 2) (.cst (.int 0))) (.cns (.asg (.tvar 3) (.bo true (.cns (.cmp .gt (.prim .len (.cns (.var 0) .nul)) (.cst (.int 0))) (.cns (.cmp .eq (.bin .mod (.idx (.var 0) (.cst (.int 0))) (.cst (.int 2))) (.cst (.int 1))) .nul)))) (.cns (.ifs (.cmp .lt (.var 1) (.prim .len (.cns (.var 0) .nul))) (.cns (.asg (.tvar 2) (.idx (.var 0) (.var 1))) .nul) .nul) (.cns (.asg (.tvar 4) (.bin .mod (.bin .mul (.bin .mul (.bin .add (.bin .mod (.var 2) (.cst (.int 2147483647))) (.cst (.int 11))) (.cst (.int 48271))) (.cst (.int 69621))) (.cst (.int 2147483629)))) (.cns (.ifs (.var 3) (.cns (.ret (.lst (.cns (.bin .mod (.var 2) (.bin .mul (.bin .mul (.bin .mul (.bin .pow (.cst (.int 10)) (.cst (.int 64))) (.bin .pow (.cst (.int 10)) (.cst (.int 64)))) (.bin .pow (.cst (.int 10)) (.cst (.int 64)))) (.bin .pow (.cst (.int 10)) (.cst (.int 64))))) (.cns (.var 4) .nul)))) .nul) .nul) (.cns (.ret (.lst (.cns (.cst (.int 0)) (.cns (.var 4) .nul)))) .nul))))))⟩
noncomputable def f_law_pick : Fn := ⟨["_law_state", "_law_many"], ["_law_state", "_law_many", "_law_found"],
  (.cns (.ifs (.cmp .gt (.idx (.var 0) (.cst (.int 0))) (.cst (.int 0))) (.cns (.asg (.tvar 2) (.bin .mod (.idx (.var 0) (.cst (.int 0))) (.var 1))) (.cns (.asg (.tsub (.var 0) (.cst (.int 0))) (.bin .fdiv (.idx (.var 0) (.cst (.int 0))) (.var 1))) (.cns (.ret (.var 2)) .nul))) .nul) (.cns (.asg (.tsub (.var 0) (.cst (.int 1))) (.bin .mod (.bin .add (.bin .mul (.idx (.var 0) (.cst (.int 1))) (.cst (.int 48271))) (.cst (.int 69621))) (.cst (.int 2147483629)))) (.cns (.ret (.bin .mod (.bin .fdiv (.idx (.var 0) (.cst (.int 1))) (.cst (.int 7))) (.var 1))) .nul)))⟩
noncomputable def f_law_big : Fn := ⟨["_law_state", "_law_many"], ["_law_state", "_law_many", "_law_found", "_law_k"],
  (.cns (.asg (.tvar 2) (.cst (.int 0))) (.cns (.forr (.tvar 3) (.rng (.cst (.int 6))) (.cns (.asg (.tvar 2) (.bin .add (.bin .mul (.var 2) (.bin .pow (.cst (.int 10)) (.cst (.int 8)))) (.call "_law_pick" (.cns (.var 0) (.cns (.bin .pow (.cst (.int 10)) (.cst (.int 8))) .nul))))) .nul)) (.cns (.ret (.bin .mod (.var 2) (.var 1))) .nul)))⟩
noncomputable def f_law_whole : Fn := ⟨["_law_found"], ["_law_found"],
  (.cns (.ret (.bo true (.cns (.isi (.var 0) "int") (.cns (.nott (.isi (.var 0) "bool")) .nul)))) .nul)⟩
noncomputable def f_law_coins : Fn := ⟨["_law_found", "_law_due"], ["_law_found", "_law_due", "_law_one", "_law_coin"],
  (.cns (.ifs (.bo false (.cns (.nott (.isi (.var 0) "list")) (.cns (.cmp .ne (.prim .len (.cns (.var 0) .nul)) (.prim .len (.cns (.var 1) .nul))) .nul))) (.cns (.ret (.cst (.bl false))) .nul) .nul) (.cns (.zipf (.ttup (.cns (.tvar 2) (.cns (.tvar 3) .nul))) (.var 0) (.var 1) (.cns (.ifs (.bo false (.cns (.nott (.isi (.var 2) "tuple")) (.cns (.cmp .ne (.prim .len (.cns (.var 2) .nul)) (.cst (.int 2))) (.cns (.nott (.call "_law_whole" (.cns (.idx (.var 2) (.cst (.int 0))) .nul))) (.cns (.nott (.call "_law_whole" (.cns (.idx (.var 2) (.cst (.int 1))) .nul))) .nul))))) (.cns (.ret (.cst (.bl false))) .nul) .nul) (.cns (.ifs (.cmp .ne (.var 2) (.var 3)) (.cns (.ret (.cst (.bl false))) .nul) .nul) .nul))) (.cns (.ret (.cst (.bl true))) .nul)))⟩
noncomputable def f_law : Fn := ⟨["_law_script"], ["_law_script", "_law_k", "_law_state", "_law_number", "_law_outs", "_law_place", "_law_lock", "_law_ins", "_law_deed", "_law_maker", "_law_total", "_law_worth"],
  (.cns (.forr (.tvar 1) (.rng (.prim .max2 (.cns (.cst (.int 1)) (.cns (.prim .min2 (.cns (.cst (.int 40)) (.cns (.prim .len (.cns (.var 0) .nul)) .nul))) .nul)))) (.cns (.asg (.tvar 2) (.call "_law_begin" (.cns (.var 0) (.cns (.var 1) .nul)))) (.cns (.asg (.tvar 3) (.bin .add (.cst (.int 1)) (.call "_law_big" (.cns (.var 2) (.cns (.bin .pow (.cst (.int 10)) (.cst (.int 30))) .nul))))) (.cns (.asg (.tvar 4) (.lst .nul)) (.cns (.forr (.tvar 5) (.rng (.bin .add (.cst (.int 1)) (.call "_law_pick" (.cns (.var 2) (.cns (.cst (.int 8)) .nul))))) (.cns (.asg (.tvar 6) (.idx (.lst (.cns (.tup .nul) (.cns (.tup (.cns (.tup (.cns (.cst (.str "push")) (.cns (.cst (.int 1)) .nul))) .nul)) .nul))) (.call "_law_pick" (.cns (.var 2) (.cns (.cst (.int 2)) .nul))))) (.cns (.exp (.meth .append (.var 4) (.cns (.tup (.cns (.bin .add (.cst (.int 1)) (.call "_law_big" (.cns (.var 2) (.cns (.idx (.lst (.cns (.cst (.int 100)) (.cns (.bin .pow (.cst (.int 10)) (.cst (.int 40))) .nul))) (.call "_law_pick" (.cns (.var 2) (.cns (.cst (.int 2)) .nul)))) .nul)))) (.cns (.var 6) .nul))) .nul))) .nul))) (.cns (.asg (.tvar 7) (.lst .nul)) (.cns (.forr (.tvar 5) (.rng (.idx (.lst (.cns (.cst (.int 0)) (.cns (.cst (.int 0)) (.cns (.cst (.int 1)) (.cns (.cst (.int 3)) (.cns (.cst (.int 8)) .nul)))))) (.call "_law_pick" (.cns (.var 2) (.cns (.cst (.int 5)) .nul))))) (.cns (.exp (.meth .append (.var 7) (.cns (.tup (.cns (.tup (.cns (.call "_law_big" (.cns (.var 2) (.cns (.bin .pow (.cst (.int 10)) (.cst (.int 30))) .nul))) (.cns (.var 5) .nul))) (.cns (.tup .nul) .nul))) .nul))) .nul)) (.cns (.asg (.tvar 8) (.tup (.cns (.var 3) (.cns (.prim .tuple1 (.cns (.var 7) .nul)) (.cns (.prim .tuple1 (.cns (.var 4) .nul)) .nul))))) (.cns (.asg (.tvar 9) (.call "is_maker" (.cns (.var 8) .nul))) (.cns (.ifs (.bo false (.cns (.nott (.isi (.var 9) "bool")) (.cns (.cmp .ne (.var 9) (.cmp .eq (.prim .len (.cns (.var 7) .nul)) (.cst (.int 0)))) .nul))) (.cns (.ret (.cst (.bl false))) .nul) .nul) (.cns (.ifs (.nott (.call "_law_coins" (.cns (.call "made_by" (.cns (.var 8) .nul)) (.cns (.comp ["_law_place", "_law_number"] 1 [3] (.tvar 0) (.rng (.prim .len (.cns (.var 4) .nul))) .nul (.tup (.cns (.var 1) (.cns (.var 0) .nul)))) .nul)))) (.cns (.ret (.cst (.bl false))) .nul) .nul) (.cns (.asg (.tvar 10) (.cst (.int 0))) (.cns (.forr (.ttup (.cns (.tvar 11) (.cns (.tvar 6) .nul))) (.cns (.var 4) .nul) (.cns (.asg (.tvar 10) (.bin .add (.var 10) (.var 11))) .nul)) (.cns (.ifs (.bo false (.cns (.nott (.call "_law_whole" (.cns (.call "worth_of" (.cns (.var 8) .nul)) .nul))) (.cns (.cmp .ne (.call "worth_of" (.cns (.var 8) .nul)) (.var 10)) .nul))) (.cns (.ret (.cst (.bl false))) .nul) .nul) .nul)))))))))))))) (.cns (.ret (.cst (.bl true))) .nul))⟩
noncomputable def T : Tb := fun f => if f = "is_maker" then some f_is_maker else if f = "made_by" then some f_made_by else if f = "worth_of" then some f_worth_of else if f = "_law_begin" then some f_law_begin else if f = "_law_pick" then some f_law_pick else if f = "_law_big" then some f_law_big else if f = "_law_whole" then some f_law_whole else if f = "_law_coins" then some f_law_coins else if f = "law" then some f_law else none
noncomputable def G : String → Option D := fun x =>  none
theorem T_f_is_maker : T "is_maker" = some f_is_maker := rfl
theorem T_f_made_by : T "made_by" = some f_made_by := rfl
theorem T_f_worth_of : T "worth_of" = some f_worth_of := rfl
theorem T_f_law_begin : T "_law_begin" = some f_law_begin := rfl
theorem T_f_law_pick : T "_law_pick" = some f_law_pick := rfl
theorem T_f_law_big : T "_law_big" = some f_law_big := rfl
theorem T_f_law_whole : T "_law_whole" = some f_law_whole := rfl
theorem T_f_law_coins : T "_law_coins" = some f_law_coins := rfl
theorem T_f_law : T "law" = some f_law := rfl
end K12

namespace K12
open PySem L2 Mi
noncomputable def st (a b : Int) : Mi.Obj := .lst [.int a, .int b]
theorem big1 (S : Store) : bop .mul (.int 10000000000000000000000000000000000000000000000000000000000000000) (.int 10000000000000000000000000000000000000000000000000000000000000000) S = .ok (.int (10 ^ 128)) S := bop_mul_int (by decide)
theorem big2 (S : Store) : bop .mul (.int (10 ^ 128)) (.int 10000000000000000000000000000000000000000000000000000000000000000) S = .ok (.int (10 ^ 192)) S := bop_mul_int (by decide)
theorem big3 (S : Store) : bop .mul (.int (10 ^ 192)) (.int 10000000000000000000000000000000000000000000000000000000000000000) S = .ok (.int (10 ^ 256)) S := bop_mul_int (by decide)
theorem big4 (S : Store) (c : Int) : bop .mod (.int c) (.int (10 ^ 256)) S = .ok (.int (c % 10 ^ 256)) S := bop_mod_int (by decide)
theorem p64 (S : Store) : bop .pow (.int 10) (.int 64) S = .ok (.int 10000000000000000000000000000000000000000000000000000000000000000) S := by rw [bop_pow_int (by decide)]; rfl
noncomputable def PSt (S : Store) (d : D) (S' : Store) : Prop := ∃ (l : Nat) (a b : Int), d = .loc l ∧ S.length ≤ l ∧ S'[l]? = some (st a b) ∧ Ext S S'
theorem begin_ (n : Nat) (ns : List Int) (k : Int) (hk : 0 ≤ k) (S : Store) : Sat (callN T G 100 (n+1) "_law_begin" [.kl (ns.map D.int), .int k] S) (PSt S) := by
  rw [callN_eq T_f_law_begin rfl]
  have key : ∀ (cell : Int) (plain : Bool), Sat ((evB (Cn T G 100 n) (dropS 3 f_law_begin.body) [some (.kl (ns.map D.int)), some (.int k), some (.int cell), some (.bl plain), none] S).bind finF) (PSt S) := by
    intro cell plain
    simp only [f_law_begin, dropS]
    cases plain with
    | true =>
      simp [v_cst,v_var,v_glb,v_bin,v_neg,v_nott,v_bo,v_cmp,v_cmp2,v_ife,v_tup,v_lst,v_idx,v_sli,v_call,v_prim,v_isi,v_meth,v_comp,w_nott,w_bo,w_cmp,w_cmp2,w_var,w_idx,w_call,w_prim,w_isi,v_bv1,v_bv2,v_bt1,v_bt2,v_c0,v_c1,v_a0,v_a1,v_o0,v_o1,v_rng,v_rng2,v_seq,v_tvar,v_ttup,v_tsub,v_gs0,v_gs1,v_asg,v_ifs,v_ret,v_retN,v_exp,v_pas,v_brk,v_cnt,v_for,v_whl,v_zipf,kZp,v_b0,v_b1,kVar,kGlb,kBin,kNeg,kNot,kCmp2,kCmp,kChn2,kChn,kIfe,kTup,kLst,kIdx,kSli2,kSli,kIsi,kMeth,kTru,tVar',tNotB,tCmp2,tCmp',tChn2,tChn,tIdx,tCal,tPri,tIsi,kBV,kBT,kCons,kArg,kOpt,kRngB,kSeq,kEn,kSub2,kSub,kGs,kNx,kAsg,kIfs,kRet,kExp,kB,kComp1,kEl1,kEl,kCd,Res.bind_ok,finF,Cn_call,Cn_glob,Cn_W, small, p64]
      rw [big1]
      simp only [v_cst,v_var,v_glb,v_bin,v_neg,v_nott,v_bo,v_cmp,v_cmp2,v_ife,v_tup,v_lst,v_idx,v_sli,v_call,v_prim,v_isi,v_meth,v_comp,w_nott,w_bo,w_cmp,w_cmp2,w_var,w_idx,w_call,w_prim,w_isi,v_bv1,v_bv2,v_bt1,v_bt2,v_c0,v_c1,v_a0,v_a1,v_o0,v_o1,v_rng,v_rng2,v_seq,v_tvar,v_ttup,v_tsub,v_gs0,v_gs1,v_asg,v_ifs,v_ret,v_retN,v_exp,v_pas,v_brk,v_cnt,v_for,v_whl,v_zipf,kZp,v_b0,v_b1,kVar,kGlb,kBin,kNeg,kNot,kCmp2,kCmp,kChn2,kChn,kIfe,kTup,kLst,kIdx,kSli2,kSli,kIsi,kMeth,kTru,tVar',tNotB,tCmp2,tCmp',tChn2,tChn,tIdx,tCal,tPri,tIsi,kBV,kBT,kCons,kArg,kOpt,kRngB,kSeq,kEn,kSub2,kSub,kGs,kNx,kAsg,kIfs,kRet,kExp,kB,kComp1,kEl1,kEl,kCd,Res.bind_ok,finF,Cn_call,Cn_glob,Cn_W, p64]
      rw [big2]
      simp only [v_cst,v_var,v_glb,v_bin,v_neg,v_nott,v_bo,v_cmp,v_cmp2,v_ife,v_tup,v_lst,v_idx,v_sli,v_call,v_prim,v_isi,v_meth,v_comp,w_nott,w_bo,w_cmp,w_cmp2,w_var,w_idx,w_call,w_prim,w_isi,v_bv1,v_bv2,v_bt1,v_bt2,v_c0,v_c1,v_a0,v_a1,v_o0,v_o1,v_rng,v_rng2,v_seq,v_tvar,v_ttup,v_tsub,v_gs0,v_gs1,v_asg,v_ifs,v_ret,v_retN,v_exp,v_pas,v_brk,v_cnt,v_for,v_whl,v_zipf,kZp,v_b0,v_b1,kVar,kGlb,kBin,kNeg,kNot,kCmp2,kCmp,kChn2,kChn,kIfe,kTup,kLst,kIdx,kSli2,kSli,kIsi,kMeth,kTru,tVar',tNotB,tCmp2,tCmp',tChn2,tChn,tIdx,tCal,tPri,tIsi,kBV,kBT,kCons,kArg,kOpt,kRngB,kSeq,kEn,kSub2,kSub,kGs,kNx,kAsg,kIfs,kRet,kExp,kB,kComp1,kEl1,kEl,kCd,Res.bind_ok,finF,Cn_call,Cn_glob,Cn_W, p64]
      rw [big3]
      simp only [v_cst,v_var,v_glb,v_bin,v_neg,v_nott,v_bo,v_cmp,v_cmp2,v_ife,v_tup,v_lst,v_idx,v_sli,v_call,v_prim,v_isi,v_meth,v_comp,w_nott,w_bo,w_cmp,w_cmp2,w_var,w_idx,w_call,w_prim,w_isi,v_bv1,v_bv2,v_bt1,v_bt2,v_c0,v_c1,v_a0,v_a1,v_o0,v_o1,v_rng,v_rng2,v_seq,v_tvar,v_ttup,v_tsub,v_gs0,v_gs1,v_asg,v_ifs,v_ret,v_retN,v_exp,v_pas,v_brk,v_cnt,v_for,v_whl,v_zipf,kZp,v_b0,v_b1,kVar,kGlb,kBin,kNeg,kNot,kCmp2,kCmp,kChn2,kChn,kIfe,kTup,kLst,kIdx,kSli2,kSli,kIsi,kMeth,kTru,tVar',tNotB,tCmp2,tCmp',tChn2,tChn,tIdx,tCal,tPri,tIsi,kBV,kBT,kCons,kArg,kOpt,kRngB,kSeq,kEn,kSub2,kSub,kGs,kNx,kAsg,kIfs,kRet,kExp,kB,kComp1,kEl1,kEl,kCd,Res.bind_ok,finF,Cn_call,Cn_glob,Cn_W]
      rw [big4]
      simp [v_cst,v_var,v_glb,v_bin,v_neg,v_nott,v_bo,v_cmp,v_cmp2,v_ife,v_tup,v_lst,v_idx,v_sli,v_call,v_prim,v_isi,v_meth,v_comp,w_nott,w_bo,w_cmp,w_cmp2,w_var,w_idx,w_call,w_prim,w_isi,v_bv1,v_bv2,v_bt1,v_bt2,v_c0,v_c1,v_a0,v_a1,v_o0,v_o1,v_rng,v_rng2,v_seq,v_tvar,v_ttup,v_tsub,v_gs0,v_gs1,v_asg,v_ifs,v_ret,v_retN,v_exp,v_pas,v_brk,v_cnt,v_for,v_whl,v_zipf,kZp,v_b0,v_b1,kVar,kGlb,kBin,kNeg,kNot,kCmp2,kCmp,kChn2,kChn,kIfe,kTup,kLst,kIdx,kSli2,kSli,kIsi,kMeth,kTru,tVar',tNotB,tCmp2,tCmp',tChn2,tChn,tIdx,tCal,tPri,tIsi,kBV,kBT,kCons,kArg,kOpt,kRngB,kSeq,kEn,kSub2,kSub,kGs,kNx,kAsg,kIfs,kRet,kExp,kB,kComp1,kEl1,kEl,kCd,Res.bind_ok,finF,Cn_call,Cn_glob,Cn_W, Line]
      exact ⟨_, _, _, rfl, Nat.le_refl _, new_get, .new _ _⟩
    | false =>
      simp [v_cst,v_var,v_glb,v_bin,v_neg,v_nott,v_bo,v_cmp,v_cmp2,v_ife,v_tup,v_lst,v_idx,v_sli,v_call,v_prim,v_isi,v_meth,v_comp,w_nott,w_bo,w_cmp,w_cmp2,w_var,w_idx,w_call,w_prim,w_isi,v_bv1,v_bv2,v_bt1,v_bt2,v_c0,v_c1,v_a0,v_a1,v_o0,v_o1,v_rng,v_rng2,v_seq,v_tvar,v_ttup,v_tsub,v_gs0,v_gs1,v_asg,v_ifs,v_ret,v_retN,v_exp,v_pas,v_brk,v_cnt,v_for,v_whl,v_zipf,kZp,v_b0,v_b1,kVar,kGlb,kBin,kNeg,kNot,kCmp2,kCmp,kChn2,kChn,kIfe,kTup,kLst,kIdx,kSli2,kSli,kIsi,kMeth,kTru,tVar',tNotB,tCmp2,tCmp',tChn2,tChn,tIdx,tCal,tPri,tIsi,kBV,kBT,kCons,kArg,kOpt,kRngB,kSeq,kEn,kSub2,kSub,kGs,kNx,kAsg,kIfs,kRet,kExp,kB,kComp1,kEl1,kEl,kCd,Res.bind_ok,finF,Cn_call,Cn_glob,Cn_W, small, Line]
      exact ⟨_, _, _, rfl, Nat.le_refl _, new_get, .new _ _⟩
  have step : ∀ plain : Bool, Sat ((evB (Cn T G 100 n) (dropS 2 f_law_begin.body) [some (.kl (ns.map D.int)), some (.int k), some (.int 0), some (.bl plain), none] S).bind finF) (PSt S) := by
    intro plain
    by_cases h : k < ns.length
    · obtain ⟨x, S1, e, hx, rfl, _⟩ := sat_idx_kl (S := S) (ds := ns.map D.int) hk (by simpa using h)
      obtain ⟨v, _, rfl⟩ := List.mem_map.mp hx
      have := key v plain
      simp only [f_law_begin, dropS] at this ⊢
      simp [v_cst,v_var,v_glb,v_bin,v_neg,v_nott,v_bo,v_cmp,v_cmp2,v_ife,v_tup,v_lst,v_idx,v_sli,v_call,v_prim,v_isi,v_meth,v_comp,w_nott,w_bo,w_cmp,w_cmp2,w_var,w_idx,w_call,w_prim,w_isi,v_bv1,v_bv2,v_bt1,v_bt2,v_c0,v_c1,v_a0,v_a1,v_o0,v_o1,v_rng,v_rng2,v_seq,v_tvar,v_ttup,v_tsub,v_gs0,v_gs1,v_asg,v_ifs,v_ret,v_retN,v_exp,v_pas,v_brk,v_cnt,v_for,v_whl,v_zipf,kZp,v_b0,v_b1,kVar,kGlb,kBin,kNeg,kNot,kCmp2,kCmp,kChn2,kChn,kIfe,kTup,kLst,kIdx,kSli2,kSli,kIsi,kMeth,kTru,tVar',tNotB,tCmp2,tCmp',tChn2,tChn,tIdx,tCal,tPri,tIsi,kBV,kBT,kCons,kArg,kOpt,kRngB,kSeq,kEn,kSub2,kSub,kGs,kNx,kAsg,kIfs,kRet,kExp,kB,kComp1,kEl1,kEl,kCd,Res.bind_ok,finF,Cn_call,Cn_glob,Cn_W, h]
      rw [e]
      simp [v_cst,v_var,v_glb,v_bin,v_neg,v_nott,v_bo,v_cmp,v_cmp2,v_ife,v_tup,v_lst,v_idx,v_sli,v_call,v_prim,v_isi,v_meth,v_comp,w_nott,w_bo,w_cmp,w_cmp2,w_var,w_idx,w_call,w_prim,w_isi,v_bv1,v_bv2,v_bt1,v_bt2,v_c0,v_c1,v_a0,v_a1,v_o0,v_o1,v_rng,v_rng2,v_seq,v_tvar,v_ttup,v_tsub,v_gs0,v_gs1,v_asg,v_ifs,v_ret,v_retN,v_exp,v_pas,v_brk,v_cnt,v_for,v_whl,v_zipf,kZp,v_b0,v_b1,kVar,kGlb,kBin,kNeg,kNot,kCmp2,kCmp,kChn2,kChn,kIfe,kTup,kLst,kIdx,kSli2,kSli,kIsi,kMeth,kTru,tVar',tNotB,tCmp2,tCmp',tChn2,tChn,tIdx,tCal,tPri,tIsi,kBV,kBT,kCons,kArg,kOpt,kRngB,kSeq,kEn,kSub2,kSub,kGs,kNx,kAsg,kIfs,kRet,kExp,kB,kComp1,kEl1,kEl,kCd,Res.bind_ok,finF,Cn_call,Cn_glob,Cn_W] at this ⊢
      exact this
    · have := key 0 plain
      simp only [f_law_begin, dropS] at this ⊢
      simp [v_cst,v_var,v_glb,v_bin,v_neg,v_nott,v_bo,v_cmp,v_cmp2,v_ife,v_tup,v_lst,v_idx,v_sli,v_call,v_prim,v_isi,v_meth,v_comp,w_nott,w_bo,w_cmp,w_cmp2,w_var,w_idx,w_call,w_prim,w_isi,v_bv1,v_bv2,v_bt1,v_bt2,v_c0,v_c1,v_a0,v_a1,v_o0,v_o1,v_rng,v_rng2,v_seq,v_tvar,v_ttup,v_tsub,v_gs0,v_gs1,v_asg,v_ifs,v_ret,v_retN,v_exp,v_pas,v_brk,v_cnt,v_for,v_whl,v_zipf,kZp,v_b0,v_b1,kVar,kGlb,kBin,kNeg,kNot,kCmp2,kCmp,kChn2,kChn,kIfe,kTup,kLst,kIdx,kSli2,kSli,kIsi,kMeth,kTru,tVar',tNotB,tCmp2,tCmp',tChn2,tChn,tIdx,tCal,tPri,tIsi,kBV,kBT,kCons,kArg,kOpt,kRngB,kSeq,kEn,kSub2,kSub,kGs,kNx,kAsg,kIfs,kRet,kExp,kB,kComp1,kEl1,kEl,kCd,Res.bind_ok,finF,Cn_call,Cn_glob,Cn_W, h]
      simp [v_cst,v_var,v_glb,v_bin,v_neg,v_nott,v_bo,v_cmp,v_cmp2,v_ife,v_tup,v_lst,v_idx,v_sli,v_call,v_prim,v_isi,v_meth,v_comp,w_nott,w_bo,w_cmp,w_cmp2,w_var,w_idx,w_call,w_prim,w_isi,v_bv1,v_bv2,v_bt1,v_bt2,v_c0,v_c1,v_a0,v_a1,v_o0,v_o1,v_rng,v_rng2,v_seq,v_tvar,v_ttup,v_tsub,v_gs0,v_gs1,v_asg,v_ifs,v_ret,v_retN,v_exp,v_pas,v_brk,v_cnt,v_for,v_whl,v_zipf,kZp,v_b0,v_b1,kVar,kGlb,kBin,kNeg,kNot,kCmp2,kCmp,kChn2,kChn,kIfe,kTup,kLst,kIdx,kSli2,kSli,kIsi,kMeth,kTru,tVar',tNotB,tCmp2,tCmp',tChn2,tChn,tIdx,tCal,tPri,tIsi,kBV,kBT,kCons,kArg,kOpt,kRngB,kSeq,kEn,kSub2,kSub,kGs,kNx,kAsg,kIfs,kRet,kExp,kB,kComp1,kEl1,kEl,kCd,Res.bind_ok,finF,Cn_call,Cn_glob,Cn_W] at this
      exact this
  by_cases h : (0 : Int) < ns.length
  · obtain ⟨x, S1, e, hx, rfl, _⟩ := sat_idx_kl (S := S) (ds := ns.map D.int) (i := 0) (by omega) (by simpa using h)
    obtain ⟨v, _, rfl⟩ := List.mem_map.mp hx
    have h' : 0 < ns.length := by omega
    simp [f_law_begin, v_cst,v_var,v_glb,v_bin,v_neg,v_nott,v_bo,v_cmp,v_cmp2,v_ife,v_tup,v_lst,v_idx,v_sli,v_call,v_prim,v_isi,v_meth,v_comp,w_nott,w_bo,w_cmp,w_cmp2,w_var,w_idx,w_call,w_prim,w_isi,v_bv1,v_bv2,v_bt1,v_bt2,v_c0,v_c1,v_a0,v_a1,v_o0,v_o1,v_rng,v_rng2,v_seq,v_tvar,v_ttup,v_tsub,v_gs0,v_gs1,v_asg,v_ifs,v_ret,v_retN,v_exp,v_pas,v_brk,v_cnt,v_for,v_whl,v_zipf,kZp,v_b0,v_b1,kVar,kGlb,kBin,kNeg,kNot,kCmp2,kCmp,kChn2,kChn,kIfe,kTup,kLst,kIdx,kSli2,kSli,kIsi,kMeth,kTru,tVar',tNotB,tCmp2,tCmp',tChn2,tChn,tIdx,tCal,tPri,tIsi,kBV,kBT,kCons,kArg,kOpt,kRngB,kSeq,kEn,kSub2,kSub,kGs,kNx,kAsg,kIfs,kRet,kExp,kB,kComp1,kEl1,kEl,kCd,Res.bind_ok,finF,Cn_call,Cn_glob,Cn_W, h']
    rw [e]
    simp only [v_cst,v_var,v_glb,v_bin,v_neg,v_nott,v_bo,v_cmp,v_cmp2,v_ife,v_tup,v_lst,v_idx,v_sli,v_call,v_prim,v_isi,v_meth,v_comp,w_nott,w_bo,w_cmp,w_cmp2,w_var,w_idx,w_call,w_prim,w_isi,v_bv1,v_bv2,v_bt1,v_bt2,v_c0,v_c1,v_a0,v_a1,v_o0,v_o1,v_rng,v_rng2,v_seq,v_tvar,v_ttup,v_tsub,v_gs0,v_gs1,v_asg,v_ifs,v_ret,v_retN,v_exp,v_pas,v_brk,v_cnt,v_for,v_whl,v_zipf,kZp,v_b0,v_b1,kVar,kGlb,kBin,kNeg,kNot,kCmp2,kCmp,kChn2,kChn,kIfe,kTup,kLst,kIdx,kSli2,kSli,kIsi,kMeth,kTru,tVar',tNotB,tCmp2,tCmp',tChn2,tChn,tIdx,tCal,tPri,tIsi,kBV,kBT,kCons,kArg,kOpt,kRngB,kSeq,kEn,kSub2,kSub,kGs,kNx,kAsg,kIfs,kRet,kExp,kB,kComp1,kEl1,kEl,kCd,Res.bind_ok,finF,Cn_call,Cn_glob,Cn_W, bop_mod_int (show (0 : Int) < 2 by decide), cop_eq_int]
    have := step (decide (v % 2 = 1))
    generalize decide (v % 2 = 1) = plain at this ⊢
    simp only [f_law_begin, dropS] at this
    simp [v_cst,v_var,v_glb,v_bin,v_neg,v_nott,v_bo,v_cmp,v_cmp2,v_ife,v_tup,v_lst,v_idx,v_sli,v_call,v_prim,v_isi,v_meth,v_comp,w_nott,w_bo,w_cmp,w_cmp2,w_var,w_idx,w_call,w_prim,w_isi,v_bv1,v_bv2,v_bt1,v_bt2,v_c0,v_c1,v_a0,v_a1,v_o0,v_o1,v_rng,v_rng2,v_seq,v_tvar,v_ttup,v_tsub,v_gs0,v_gs1,v_asg,v_ifs,v_ret,v_retN,v_exp,v_pas,v_brk,v_cnt,v_for,v_whl,v_zipf,kZp,v_b0,v_b1,kVar,kGlb,kBin,kNeg,kNot,kCmp2,kCmp,kChn2,kChn,kIfe,kTup,kLst,kIdx,kSli2,kSli,kIsi,kMeth,kTru,tVar',tNotB,tCmp2,tCmp',tChn2,tChn,tIdx,tCal,tPri,tIsi,kBV,kBT,kCons,kArg,kOpt,kRngB,kSeq,kEn,kSub2,kSub,kGs,kNx,kAsg,kIfs,kRet,kExp,kB,kComp1,kEl1,kEl,kCd,Res.bind_ok,finF,Cn_call,Cn_glob,Cn_W] at this ⊢
    exact this
  · have h' : ¬ 0 < ns.length := by omega
    have := step false
    simp only [f_law_begin, dropS] at this
    simp [f_law_begin, v_cst,v_var,v_glb,v_bin,v_neg,v_nott,v_bo,v_cmp,v_cmp2,v_ife,v_tup,v_lst,v_idx,v_sli,v_call,v_prim,v_isi,v_meth,v_comp,w_nott,w_bo,w_cmp,w_cmp2,w_var,w_idx,w_call,w_prim,w_isi,v_bv1,v_bv2,v_bt1,v_bt2,v_c0,v_c1,v_a0,v_a1,v_o0,v_o1,v_rng,v_rng2,v_seq,v_tvar,v_ttup,v_tsub,v_gs0,v_gs1,v_asg,v_ifs,v_ret,v_retN,v_exp,v_pas,v_brk,v_cnt,v_for,v_whl,v_zipf,kZp,v_b0,v_b1,kVar,kGlb,kBin,kNeg,kNot,kCmp2,kCmp,kChn2,kChn,kIfe,kTup,kLst,kIdx,kSli2,kSli,kIsi,kMeth,kTru,tVar',tNotB,tCmp2,tCmp',tChn2,tChn,tIdx,tCal,tPri,tIsi,kBV,kBT,kCons,kArg,kOpt,kRngB,kSeq,kEn,kSub2,kSub,kGs,kNx,kAsg,kIfs,kRet,kExp,kB,kComp1,kEl1,kEl,kCd,Res.bind_ok,finF,Cn_call,Cn_glob,Cn_W, h']
    simp [v_cst,v_var,v_glb,v_bin,v_neg,v_nott,v_bo,v_cmp,v_cmp2,v_ife,v_tup,v_lst,v_idx,v_sli,v_call,v_prim,v_isi,v_meth,v_comp,w_nott,w_bo,w_cmp,w_cmp2,w_var,w_idx,w_call,w_prim,w_isi,v_bv1,v_bv2,v_bt1,v_bt2,v_c0,v_c1,v_a0,v_a1,v_o0,v_o1,v_rng,v_rng2,v_seq,v_tvar,v_ttup,v_tsub,v_gs0,v_gs1,v_asg,v_ifs,v_ret,v_retN,v_exp,v_pas,v_brk,v_cnt,v_for,v_whl,v_zipf,kZp,v_b0,v_b1,kVar,kGlb,kBin,kNeg,kNot,kCmp2,kCmp,kChn2,kChn,kIfe,kTup,kLst,kIdx,kSli2,kSli,kIsi,kMeth,kTru,tVar',tNotB,tCmp2,tCmp',tChn2,tChn,tIdx,tCal,tPri,tIsi,kBV,kBT,kCons,kArg,kOpt,kRngB,kSeq,kEn,kSub2,kSub,kGs,kNx,kAsg,kIfs,kRet,kExp,kB,kComp1,kEl1,kEl,kCd,Res.bind_ok,finF,Cn_call,Cn_glob,Cn_W] at this
    exact this
noncomputable def PPk (l : Nat) (m : Int) (S : Store) (d : D) (S' : Store) : Prop := ∃ (r a b : Int), d = .int r ∧ 0 ≤ r ∧ r < m ∧ S' = S.set l (st a b)
theorem pick (n : Nat) (l : Nat) (a b m : Int) (S : Store) (h : S[l]? = some (st a b)) (m0 : 0 < m) (m1 : m < 2 ^ 250) : Sat (callN T G 100 (n+1) "_law_pick" [.loc l, .int m] S) (PPk l m S) := by
  rw [callN_eq T_f_law_pick rfl]
  have i0 : ∀ {a b : Int} {S : Store}, S[l]? = some (st a b) → kIdx2 (.loc l) (.int 0) S = .ok (.int a) S := fun h => kIdx_loc h rfl
  have i1 : ∀ {a b : Int} {S : Store}, S[l]? = some (st a b) → kIdx2 (.loc l) (.int 1) S = .ok (.int b) S := fun h => kIdx_loc h rfl
  have r0 := fun x : Int => Int.emod_nonneg x (show m ≠ 0 by omega)
  have r1 := fun x : Int => Int.emod_lt_of_pos x m0
  simp [f_law_pick, v_cst,v_var,v_glb,v_bin,v_neg,v_nott,v_bo,v_cmp,v_cmp2,v_ife,v_tup,v_lst,v_idx,v_sli,v_call,v_prim,v_isi,v_meth,v_comp,w_nott,w_bo,w_cmp,w_cmp2,w_var,w_idx,w_call,w_prim,w_isi,v_bv1,v_bv2,v_bt1,v_bt2,v_c0,v_c1,v_a0,v_a1,v_o0,v_o1,v_rng,v_rng2,v_seq,v_tvar,v_ttup,v_tsub,v_gs0,v_gs1,v_asg,v_ifs,v_ret,v_retN,v_exp,v_pas,v_brk,v_cnt,v_for,v_whl,v_zipf,kZp,v_b0,v_b1,kVar,kGlb,kBin,kNeg,kNot,kCmp2,kCmp,kChn2,kChn,kIfe,kTup,kLst,kIdx,kSli2,kSli,kIsi,kMeth,kTru,tVar',tNotB,tCmp2,tCmp',tChn2,tChn,tIdx,tCal,tPri,tIsi,kBV,kBT,kCons,kArg,kOpt,kRngB,kSeq,kEn,kSub2,kSub,kGs,kNx,kAsg,kIfs,kRet,kExp,kB,kComp1,kEl1,kEl,kCd,Res.bind_ok,finF,Cn_call,Cn_glob,Cn_W]
  rw [i0 h]
  by_cases ha : 0 < a
  · simp [v_cst,v_var,v_glb,v_bin,v_neg,v_nott,v_bo,v_cmp,v_cmp2,v_ife,v_tup,v_lst,v_idx,v_sli,v_call,v_prim,v_isi,v_meth,v_comp,w_nott,w_bo,w_cmp,w_cmp2,w_var,w_idx,w_call,w_prim,w_isi,v_bv1,v_bv2,v_bt1,v_bt2,v_c0,v_c1,v_a0,v_a1,v_o0,v_o1,v_rng,v_rng2,v_seq,v_tvar,v_ttup,v_tsub,v_gs0,v_gs1,v_asg,v_ifs,v_ret,v_retN,v_exp,v_pas,v_brk,v_cnt,v_for,v_whl,v_zipf,kZp,v_b0,v_b1,kVar,kGlb,kBin,kNeg,kNot,kCmp2,kCmp,kChn2,kChn,kIfe,kTup,kLst,kIdx,kSli2,kSli,kIsi,kMeth,kTru,tVar',tNotB,tCmp2,tCmp',tChn2,tChn,tIdx,tCal,tPri,tIsi,kBV,kBT,kCons,kArg,kOpt,kRngB,kSeq,kEn,kSub2,kSub,kGs,kNx,kAsg,kIfs,kRet,kExp,kB,kComp1,kEl1,kEl,kCd,Res.bind_ok,finF,Cn_call,Cn_glob,Cn_W, ha]
    rw [i0 h]
    simp [v_cst,v_var,v_glb,v_bin,v_neg,v_nott,v_bo,v_cmp,v_cmp2,v_ife,v_tup,v_lst,v_idx,v_sli,v_call,v_prim,v_isi,v_meth,v_comp,w_nott,w_bo,w_cmp,w_cmp2,w_var,w_idx,w_call,w_prim,w_isi,v_bv1,v_bv2,v_bt1,v_bt2,v_c0,v_c1,v_a0,v_a1,v_o0,v_o1,v_rng,v_rng2,v_seq,v_tvar,v_ttup,v_tsub,v_gs0,v_gs1,v_asg,v_ifs,v_ret,v_retN,v_exp,v_pas,v_brk,v_cnt,v_for,v_whl,v_zipf,kZp,v_b0,v_b1,kVar,kGlb,kBin,kNeg,kNot,kCmp2,kCmp,kChn2,kChn,kIfe,kTup,kLst,kIdx,kSli2,kSli,kIsi,kMeth,kTru,tVar',tNotB,tCmp2,tCmp',tChn2,tChn,tIdx,tCal,tPri,tIsi,kBV,kBT,kCons,kArg,kOpt,kRngB,kSeq,kEn,kSub2,kSub,kGs,kNx,kAsg,kIfs,kRet,kExp,kB,kComp1,kEl1,kEl,kCd,Res.bind_ok,finF,Cn_call,Cn_glob,Cn_W, bop_mod_int m0]
    rw [i0 h]
    simp [v_cst,v_var,v_glb,v_bin,v_neg,v_nott,v_bo,v_cmp,v_cmp2,v_ife,v_tup,v_lst,v_idx,v_sli,v_call,v_prim,v_isi,v_meth,v_comp,w_nott,w_bo,w_cmp,w_cmp2,w_var,w_idx,w_call,w_prim,w_isi,v_bv1,v_bv2,v_bt1,v_bt2,v_c0,v_c1,v_a0,v_a1,v_o0,v_o1,v_rng,v_rng2,v_seq,v_tvar,v_ttup,v_tsub,v_gs0,v_gs1,v_asg,v_ifs,v_ret,v_retN,v_exp,v_pas,v_brk,v_cnt,v_for,v_whl,v_zipf,kZp,v_b0,v_b1,kVar,kGlb,kBin,kNeg,kNot,kCmp2,kCmp,kChn2,kChn,kIfe,kTup,kLst,kIdx,kSli2,kSli,kIsi,kMeth,kTru,tVar',tNotB,tCmp2,tCmp',tChn2,tChn,tIdx,tCal,tPri,tIsi,kBV,kBT,kCons,kArg,kOpt,kRngB,kSeq,kEn,kSub2,kSub,kGs,kNx,kAsg,kIfs,kRet,kExp,kB,kComp1,kEl1,kEl,kCd,Res.bind_ok,finF,Cn_call,Cn_glob,Cn_W, bop_fdiv_int m0 m1]
    rw [sat_set h (by omega) (by simp)]
    simp [v_cst,v_var,v_glb,v_bin,v_neg,v_nott,v_bo,v_cmp,v_cmp2,v_ife,v_tup,v_lst,v_idx,v_sli,v_call,v_prim,v_isi,v_meth,v_comp,w_nott,w_bo,w_cmp,w_cmp2,w_var,w_idx,w_call,w_prim,w_isi,v_bv1,v_bv2,v_bt1,v_bt2,v_c0,v_c1,v_a0,v_a1,v_o0,v_o1,v_rng,v_rng2,v_seq,v_tvar,v_ttup,v_tsub,v_gs0,v_gs1,v_asg,v_ifs,v_ret,v_retN,v_exp,v_pas,v_brk,v_cnt,v_for,v_whl,v_zipf,kZp,v_b0,v_b1,kVar,kGlb,kBin,kNeg,kNot,kCmp2,kCmp,kChn2,kChn,kIfe,kTup,kLst,kIdx,kSli2,kSli,kIsi,kMeth,kTru,tVar',tNotB,tCmp2,tCmp',tChn2,tChn,tIdx,tCal,tPri,tIsi,kBV,kBT,kCons,kArg,kOpt,kRngB,kSeq,kEn,kSub2,kSub,kGs,kNx,kAsg,kIfs,kRet,kExp,kB,kComp1,kEl1,kEl,kCd,Res.bind_ok,finF,Cn_call,Cn_glob,Cn_W]
    exact ⟨_, a / m, b, rfl, r0 a, r1 a, rfl⟩
  · simp [v_cst,v_var,v_glb,v_bin,v_neg,v_nott,v_bo,v_cmp,v_cmp2,v_ife,v_tup,v_lst,v_idx,v_sli,v_call,v_prim,v_isi,v_meth,v_comp,w_nott,w_bo,w_cmp,w_cmp2,w_var,w_idx,w_call,w_prim,w_isi,v_bv1,v_bv2,v_bt1,v_bt2,v_c0,v_c1,v_a0,v_a1,v_o0,v_o1,v_rng,v_rng2,v_seq,v_tvar,v_ttup,v_tsub,v_gs0,v_gs1,v_asg,v_ifs,v_ret,v_retN,v_exp,v_pas,v_brk,v_cnt,v_for,v_whl,v_zipf,kZp,v_b0,v_b1,kVar,kGlb,kBin,kNeg,kNot,kCmp2,kCmp,kChn2,kChn,kIfe,kTup,kLst,kIdx,kSli2,kSli,kIsi,kMeth,kTru,tVar',tNotB,tCmp2,tCmp',tChn2,tChn,tIdx,tCal,tPri,tIsi,kBV,kBT,kCons,kArg,kOpt,kRngB,kSeq,kEn,kSub2,kSub,kGs,kNx,kAsg,kIfs,kRet,kExp,kB,kComp1,kEl1,kEl,kCd,Res.bind_ok,finF,Cn_call,Cn_glob,Cn_W, ha]
    rw [i1 h]
    simp [v_cst,v_var,v_glb,v_bin,v_neg,v_nott,v_bo,v_cmp,v_cmp2,v_ife,v_tup,v_lst,v_idx,v_sli,v_call,v_prim,v_isi,v_meth,v_comp,w_nott,w_bo,w_cmp,w_cmp2,w_var,w_idx,w_call,w_prim,w_isi,v_bv1,v_bv2,v_bt1,v_bt2,v_c0,v_c1,v_a0,v_a1,v_o0,v_o1,v_rng,v_rng2,v_seq,v_tvar,v_ttup,v_tsub,v_gs0,v_gs1,v_asg,v_ifs,v_ret,v_retN,v_exp,v_pas,v_brk,v_cnt,v_for,v_whl,v_zipf,kZp,v_b0,v_b1,kVar,kGlb,kBin,kNeg,kNot,kCmp2,kCmp,kChn2,kChn,kIfe,kTup,kLst,kIdx,kSli2,kSli,kIsi,kMeth,kTru,tVar',tNotB,tCmp2,tCmp',tChn2,tChn,tIdx,tCal,tPri,tIsi,kBV,kBT,kCons,kArg,kOpt,kRngB,kSeq,kEn,kSub2,kSub,kGs,kNx,kAsg,kIfs,kRet,kExp,kB,kComp1,kEl1,kEl,kCd,Res.bind_ok,finF,Cn_call,Cn_glob,Cn_W, small]
    rw [sat_set h (by omega) (by simp)]
    simp [v_cst,v_var,v_glb,v_bin,v_neg,v_nott,v_bo,v_cmp,v_cmp2,v_ife,v_tup,v_lst,v_idx,v_sli,v_call,v_prim,v_isi,v_meth,v_comp,w_nott,w_bo,w_cmp,w_cmp2,w_var,w_idx,w_call,w_prim,w_isi,v_bv1,v_bv2,v_bt1,v_bt2,v_c0,v_c1,v_a0,v_a1,v_o0,v_o1,v_rng,v_rng2,v_seq,v_tvar,v_ttup,v_tsub,v_gs0,v_gs1,v_asg,v_ifs,v_ret,v_retN,v_exp,v_pas,v_brk,v_cnt,v_for,v_whl,v_zipf,kZp,v_b0,v_b1,kVar,kGlb,kBin,kNeg,kNot,kCmp2,kCmp,kChn2,kChn,kIfe,kTup,kLst,kIdx,kSli2,kSli,kIsi,kMeth,kTru,tVar',tNotB,tCmp2,tCmp',tChn2,tChn,tIdx,tCal,tPri,tIsi,kBV,kBT,kCons,kArg,kOpt,kRngB,kSeq,kEn,kSub2,kSub,kGs,kNx,kAsg,kIfs,kRet,kExp,kB,kComp1,kEl1,kEl,kCd,Res.bind_ok,finF,Cn_call,Cn_glob,Cn_W]
    generalize (b * 48271 + 69621) % 2147483629 = b'
    have h2 : (S.set l (.lst [.int a, .int b']))[l]? = some (st a b') := set_get h
    rw [i1 h2]
    simp [v_cst,v_var,v_glb,v_bin,v_neg,v_nott,v_bo,v_cmp,v_cmp2,v_ife,v_tup,v_lst,v_idx,v_sli,v_call,v_prim,v_isi,v_meth,v_comp,w_nott,w_bo,w_cmp,w_cmp2,w_var,w_idx,w_call,w_prim,w_isi,v_bv1,v_bv2,v_bt1,v_bt2,v_c0,v_c1,v_a0,v_a1,v_o0,v_o1,v_rng,v_rng2,v_seq,v_tvar,v_ttup,v_tsub,v_gs0,v_gs1,v_asg,v_ifs,v_ret,v_retN,v_exp,v_pas,v_brk,v_cnt,v_for,v_whl,v_zipf,kZp,v_b0,v_b1,kVar,kGlb,kBin,kNeg,kNot,kCmp2,kCmp,kChn2,kChn,kIfe,kTup,kLst,kIdx,kSli2,kSli,kIsi,kMeth,kTru,tVar',tNotB,tCmp2,tCmp',tChn2,tChn,tIdx,tCal,tPri,tIsi,kBV,kBT,kCons,kArg,kOpt,kRngB,kSeq,kEn,kSub2,kSub,kGs,kNx,kAsg,kIfs,kRet,kExp,kB,kComp1,kEl1,kEl,kCd,Res.bind_ok,finF,Cn_call,Cn_glob,Cn_W, bop_mod_int m0]
    exact ⟨_, a, b', rfl, r0 _, r1 _, rfl⟩
noncomputable def IBg (l : Nat) (m : D) (S : Store) (i : Nat) (τ : En) (S' : Store) : Prop := ∃ (f a b : Int) (k : Option D), τ = [some (.loc l), some m, some (.int f), k] ∧ S' = S.set l (st a b)
theorem set2 {S : Store} {l : Nat} {x y : Mi.Obj} : (S.set l x).set l y = S.set l y := List.set_set ..
theorem big (n : Nat) (l : Nat) (a b m : Int) (S : Store) (h : S[l]? = some (st a b)) (m0 : 0 < m) : Sat (callN T G 100 (n+2) "_law_big" [.loc l, .int m] S) (PPk l m S) := by
  rw [callN_eq T_f_law_big rfl]
  simp [f_law_big, v_cst,v_var,v_glb,v_bin,v_neg,v_nott,v_bo,v_cmp,v_cmp2,v_ife,v_tup,v_lst,v_idx,v_sli,v_call,v_prim,v_isi,v_meth,v_comp,w_nott,w_bo,w_cmp,w_cmp2,w_var,w_idx,w_call,w_prim,w_isi,v_bv1,v_bv2,v_bt1,v_bt2,v_c0,v_c1,v_a0,v_a1,v_o0,v_o1,v_rng,v_rng2,v_seq,v_tvar,v_ttup,v_tsub,v_gs0,v_gs1,v_asg,v_ifs,v_ret,v_retN,v_exp,v_pas,v_brk,v_cnt,v_for,v_whl,v_zipf,kZp,v_b0,v_b1,kVar,kGlb,kBin,kNeg,kNot,kCmp2,kCmp,kChn2,kChn,kIfe,kTup,kLst,kIdx,kSli2,kSli,kIsi,kMeth,kTru,tVar',tNotB,tCmp2,tCmp',tChn2,tChn,tIdx,tCal,tPri,tIsi,kBV,kBT,kCons,kArg,kOpt,kRngB,kSeq,kEn,kSub2,kSub,kGs,kNx,kAsg,kIfs,kRet,kExp,kB,kComp1,kEl1,kEl,kCd,Res.bind_ok,finF,Cn_call,Cn_glob,Cn_W]
  rw [kRng_of (by omega) (by omega)]
  simp only [Res.bind_ok]
  (first | (with_reducible refine Sat.p10 (loop (IBg l (.int m) S) noB noR ?_ ?_) ?_) | (with_reducible refine Sat.p9 (loop (IBg l (.int m) S) noB noR ?_ ?_) ?_) | (with_reducible refine Sat.p8 (loop (IBg l (.int m) S) noB noR ?_ ?_) ?_) | (with_reducible refine Sat.p7 (loop (IBg l (.int m) S) noB noR ?_ ?_) ?_) | (with_reducible refine Sat.p6 (loop (IBg l (.int m) S) noB noR ?_ ?_) ?_) | (with_reducible refine Sat.p5 (loop (IBg l (.int m) S) noB noR ?_ ?_) ?_) | (with_reducible refine Sat.p4 (loop (IBg l (.int m) S) noB noR ?_ ?_) ?_) | (with_reducible refine Sat.p3 (loop (IBg l (.int m) S) noB noR ?_ ?_) ?_) | (with_reducible refine Sat.p2 (loop (IBg l (.int m) S) noB noR ?_ ?_) ?_) | (with_reducible refine Sat.p1 (loop (IBg l (.int m) S) noB noR ?_ ?_) ?_) | (with_reducible refine Sat.p0 (loop (IBg l (.int m) S) noB noR ?_ ?_) ?_))
  · exact ⟨0, a, b, _, rfl, (set_same h).symm⟩
  · rintro i d τ S1 hd ⟨f, a1, b1, k, rfl, rfl⟩
    rw [turnF_eq]
    simp [v_cst,v_var,v_glb,v_bin,v_neg,v_nott,v_bo,v_cmp,v_cmp2,v_ife,v_tup,v_lst,v_idx,v_sli,v_call,v_prim,v_isi,v_meth,v_comp,w_nott,w_bo,w_cmp,w_cmp2,w_var,w_idx,w_call,w_prim,w_isi,v_bv1,v_bv2,v_bt1,v_bt2,v_c0,v_c1,v_a0,v_a1,v_o0,v_o1,v_rng,v_rng2,v_seq,v_tvar,v_ttup,v_tsub,v_gs0,v_gs1,v_asg,v_ifs,v_ret,v_retN,v_exp,v_pas,v_brk,v_cnt,v_for,v_whl,v_zipf,kZp,v_b0,v_b1,kVar,kGlb,kBin,kNeg,kNot,kCmp2,kCmp,kChn2,kChn,kIfe,kTup,kLst,kIdx,kSli2,kSli,kIsi,kMeth,kTru,tVar',tNotB,tCmp2,tCmp',tChn2,tChn,tIdx,tCal,tPri,tIsi,kBV,kBT,kCons,kArg,kOpt,kRngB,kSeq,kEn,kSub2,kSub,kGs,kNx,kAsg,kIfs,kRet,kExp,kB,kComp1,kEl1,kEl,kCd,Res.bind_ok,finF,Cn_call,Cn_glob,Cn_W, bop_pow_int, small]
    (first | (with_reducible refine Sat.p10 (pick n l a1 b1 100000000 (S.set l (st a1 b1)) (set_get h) (by decide) (by decide)) ?_) | (with_reducible refine Sat.p9 (pick n l a1 b1 100000000 (S.set l (st a1 b1)) (set_get h) (by decide) (by decide)) ?_) | (with_reducible refine Sat.p8 (pick n l a1 b1 100000000 (S.set l (st a1 b1)) (set_get h) (by decide) (by decide)) ?_) | (with_reducible refine Sat.p7 (pick n l a1 b1 100000000 (S.set l (st a1 b1)) (set_get h) (by decide) (by decide)) ?_) | (with_reducible refine Sat.p6 (pick n l a1 b1 100000000 (S.set l (st a1 b1)) (set_get h) (by decide) (by decide)) ?_) | (with_reducible refine Sat.p5 (pick n l a1 b1 100000000 (S.set l (st a1 b1)) (set_get h) (by decide) (by decide)) ?_) | (with_reducible refine Sat.p4 (pick n l a1 b1 100000000 (S.set l (st a1 b1)) (set_get h) (by decide) (by decide)) ?_) | (with_reducible refine Sat.p3 (pick n l a1 b1 100000000 (S.set l (st a1 b1)) (set_get h) (by decide) (by decide)) ?_) | (with_reducible refine Sat.p2 (pick n l a1 b1 100000000 (S.set l (st a1 b1)) (set_get h) (by decide) (by decide)) ?_) | (with_reducible refine Sat.p1 (pick n l a1 b1 100000000 (S.set l (st a1 b1)) (set_get h) (by decide) (by decide)) ?_) | (with_reducible refine Sat.p0 (pick n l a1 b1 100000000 (S.set l (st a1 b1)) (set_get h) (by decide) (by decide)) ?_))
    rintro _ S2 ⟨r, a2, b2, rfl, -, -, rfl⟩
    simp [v_cst,v_var,v_glb,v_bin,v_neg,v_nott,v_bo,v_cmp,v_cmp2,v_ife,v_tup,v_lst,v_idx,v_sli,v_call,v_prim,v_isi,v_meth,v_comp,w_nott,w_bo,w_cmp,w_cmp2,w_var,w_idx,w_call,w_prim,w_isi,v_bv1,v_bv2,v_bt1,v_bt2,v_c0,v_c1,v_a0,v_a1,v_o0,v_o1,v_rng,v_rng2,v_seq,v_tvar,v_ttup,v_tsub,v_gs0,v_gs1,v_asg,v_ifs,v_ret,v_retN,v_exp,v_pas,v_brk,v_cnt,v_for,v_whl,v_zipf,kZp,v_b0,v_b1,kVar,kGlb,kBin,kNeg,kNot,kCmp2,kCmp,kChn2,kChn,kIfe,kTup,kLst,kIdx,kSli2,kSli,kIsi,kMeth,kTru,tVar',tNotB,tCmp2,tCmp',tChn2,tChn,tIdx,tCal,tPri,tIsi,kBV,kBT,kCons,kArg,kOpt,kRngB,kSeq,kEn,kSub2,kSub,kGs,kNx,kAsg,kIfs,kRet,kExp,kB,kComp1,kEl1,kEl,kCd,Res.bind_ok,finF,Cn_call,Cn_glob,Cn_W]
    exact ⟨_, a2, b2, _, rfl, by simp [set2]⟩
  · intro fl S1 q
    obtain ⟨_, rfl, f, a1, b1, k, rfl, rfl⟩ := q.nx
    simp [v_cst,v_var,v_glb,v_bin,v_neg,v_nott,v_bo,v_cmp,v_cmp2,v_ife,v_tup,v_lst,v_idx,v_sli,v_call,v_prim,v_isi,v_meth,v_comp,w_nott,w_bo,w_cmp,w_cmp2,w_var,w_idx,w_call,w_prim,w_isi,v_bv1,v_bv2,v_bt1,v_bt2,v_c0,v_c1,v_a0,v_a1,v_o0,v_o1,v_rng,v_rng2,v_seq,v_tvar,v_ttup,v_tsub,v_gs0,v_gs1,v_asg,v_ifs,v_ret,v_retN,v_exp,v_pas,v_brk,v_cnt,v_for,v_whl,v_zipf,kZp,v_b0,v_b1,kVar,kGlb,kBin,kNeg,kNot,kCmp2,kCmp,kChn2,kChn,kIfe,kTup,kLst,kIdx,kSli2,kSli,kIsi,kMeth,kTru,tVar',tNotB,tCmp2,tCmp',tChn2,tChn,tIdx,tCal,tPri,tIsi,kBV,kBT,kCons,kArg,kOpt,kRngB,kSeq,kEn,kSub2,kSub,kGs,kNx,kAsg,kIfs,kRet,kExp,kB,kComp1,kEl1,kEl,kCd,Res.bind_ok,finF,Cn_call,Cn_glob,Cn_W, bop_mod_int m0]
    exact ⟨_, a1, b1, rfl, Int.emod_nonneg _ (by omega), Int.emod_lt_of_pos _ m0, rfl⟩
end K12

namespace Mi
theorem Sat.p11 {α0 α1 α2 α3 α4 α5 α6 α7 α8 α9 α10 α11 : Type} {r : Res α0} {f1 : α0 → Store → Res α1} {f2 : α1 → Store → Res α2} {f3 : α2 → Store → Res α3} {f4 : α3 → Store → Res α4} {f5 : α4 → Store → Res α5} {f6 : α5 → Store → Res α6} {f7 : α6 → Store → Res α7} {f8 : α7 → Store → Res α8} {f9 : α8 → Store → Res α9} {f10 : α9 → Store → Res α10} {f11 : α10 → Store → Res α11} {Q : α0 → Store → Prop} {P : α11 → Store → Prop} (h : Sat r Q) (k : ∀ a S, Q a S → Sat (((((((((((((.ok a S : Res α0)).bind f1).bind f2).bind f3).bind f4).bind f5).bind f6).bind f7).bind f8).bind f9).bind f10).bind f11) P) : Sat ((((((((((((r).bind f1).bind f2).bind f3).bind f4).bind f5).bind f6).bind f7).bind f8).bind f9).bind f10).bind f11) P := by
  obtain ⟨a, S, e, h⟩ := h
  rw [e]
  exact k a S h
theorem Sat.p12 {α0 α1 α2 α3 α4 α5 α6 α7 α8 α9 α10 α11 α12 : Type} {r : Res α0} {f1 : α0 → Store → Res α1} {f2 : α1 → Store → Res α2} {f3 : α2 → Store → Res α3} {f4 : α3 → Store → Res α4} {f5 : α4 → Store → Res α5} {f6 : α5 → Store → Res α6} {f7 : α6 → Store → Res α7} {f8 : α7 → Store → Res α8} {f9 : α8 → Store → Res α9} {f10 : α9 → Store → Res α10} {f11 : α10 → Store → Res α11} {f12 : α11 → Store → Res α12} {Q : α0 → Store → Prop} {P : α12 → Store → Prop} (h : Sat r Q) (k : ∀ a S, Q a S → Sat ((((((((((((((.ok a S : Res α0)).bind f1).bind f2).bind f3).bind f4).bind f5).bind f6).bind f7).bind f8).bind f9).bind f10).bind f11).bind f12) P) : Sat (((((((((((((r).bind f1).bind f2).bind f3).bind f4).bind f5).bind f6).bind f7).bind f8).bind f9).bind f10).bind f11).bind f12) P := by
  obtain ⟨a, S, e, h⟩ := h
  rw [e]
  exact k a S h
theorem Sat.p13 {α0 α1 α2 α3 α4 α5 α6 α7 α8 α9 α10 α11 α12 α13 : Type} {r : Res α0} {f1 : α0 → Store → Res α1} {f2 : α1 → Store → Res α2} {f3 : α2 → Store → Res α3} {f4 : α3 → Store → Res α4} {f5 : α4 → Store → Res α5} {f6 : α5 → Store → Res α6} {f7 : α6 → Store → Res α7} {f8 : α7 → Store → Res α8} {f9 : α8 → Store → Res α9} {f10 : α9 → Store → Res α10} {f11 : α10 → Store → Res α11} {f12 : α11 → Store → Res α12} {f13 : α12 → Store → Res α13} {Q : α0 → Store → Prop} {P : α13 → Store → Prop} (h : Sat r Q) (k : ∀ a S, Q a S → Sat (((((((((((((((.ok a S : Res α0)).bind f1).bind f2).bind f3).bind f4).bind f5).bind f6).bind f7).bind f8).bind f9).bind f10).bind f11).bind f12).bind f13) P) : Sat ((((((((((((((r).bind f1).bind f2).bind f3).bind f4).bind f5).bind f6).bind f7).bind f8).bind f9).bind f10).bind f11).bind f12).bind f13) P := by
  obtain ⟨a, S, e, h⟩ := h
  rw [e]
  exact k a S h
theorem Sat.p14 {α0 α1 α2 α3 α4 α5 α6 α7 α8 α9 α10 α11 α12 α13 α14 : Type} {r : Res α0} {f1 : α0 → Store → Res α1} {f2 : α1 → Store → Res α2} {f3 : α2 → Store → Res α3} {f4 : α3 → Store → Res α4} {f5 : α4 → Store → Res α5} {f6 : α5 → Store → Res α6} {f7 : α6 → Store → Res α7} {f8 : α7 → Store → Res α8} {f9 : α8 → Store → Res α9} {f10 : α9 → Store → Res α10} {f11 : α10 → Store → Res α11} {f12 : α11 → Store → Res α12} {f13 : α12 → Store → Res α13} {f14 : α13 → Store → Res α14} {Q : α0 → Store → Prop} {P : α14 → Store → Prop} (h : Sat r Q) (k : ∀ a S, Q a S → Sat ((((((((((((((((.ok a S : Res α0)).bind f1).bind f2).bind f3).bind f4).bind f5).bind f6).bind f7).bind f8).bind f9).bind f10).bind f11).bind f12).bind f13).bind f14) P) : Sat (((((((((((((((r).bind f1).bind f2).bind f3).bind f4).bind f5).bind f6).bind f7).bind f8).bind f9).bind f10).bind f11).bind f12).bind f13).bind f14) P := by
  obtain ⟨a, S, e, h⟩ := h
  rw [e]
  exact k a S h
end Mi
namespace K12
open PySem L2 Mi
theorem whole (n : Nat) (i : Int) (S : Store) : callN T G 100 (n+1) "_law_whole" [.int i] S = .ok (.bl true) S := by
  rw [callN_eq T_f_law_whole rfl]; simp [f_law_whole, v_cst,v_var,v_glb,v_bin,v_neg,v_nott,v_bo,v_cmp,v_cmp2,v_ife,v_tup,v_lst,v_idx,v_sli,v_call,v_prim,v_isi,v_meth,v_comp,w_nott,w_bo,w_cmp,w_cmp2,w_var,w_idx,w_call,w_prim,w_isi,v_bv1,v_bv2,v_bt1,v_bt2,v_c0,v_c1,v_a0,v_a1,v_o0,v_o1,v_rng,v_rng2,v_seq,v_tvar,v_ttup,v_tsub,v_gs0,v_gs1,v_asg,v_ifs,v_ret,v_retN,v_exp,v_pas,v_brk,v_cnt,v_for,v_whl,v_zipf,kZp,v_b0,v_b1,kVar,kGlb,kBin,kNeg,kNot,kCmp2,kCmp,kChn2,kChn,kIfe,kTup,kLst,kIdx,kSli2,kSli,kIsi,kMeth,kTru,tVar',tNotB,tCmp2,tCmp',tChn2,tChn,tIdx,tCal,tPri,tIsi,kBV,kBT,kCons,kArg,kOpt,kRngB,kSeq,kEn,kSub2,kSub,kGs,kNx,kAsg,kIfs,kRet,kExp,kB,kComp1,kEl1,kEl,kCd,Res.bind_ok,finF,Cn_call,Cn_glob,Cn_W, tyD, isiD]
theorem is_maker (n : Nat) (a b : D) (is : List D) (S : Store) : callN T G 100 (n+1) "is_maker" [.tup [a, .tup is, b]] S = .ok (.bl (decide (is.length = 0))) S := by
  rw [callN_eq T_f_is_maker rfl]
  simp [f_is_maker, v_cst,v_var,v_glb,v_bin,v_neg,v_nott,v_bo,v_cmp,v_cmp2,v_ife,v_tup,v_lst,v_idx,v_sli,v_call,v_prim,v_isi,v_meth,v_comp,w_nott,w_bo,w_cmp,w_cmp2,w_var,w_idx,w_call,w_prim,w_isi,v_bv1,v_bv2,v_bt1,v_bt2,v_c0,v_c1,v_a0,v_a1,v_o0,v_o1,v_rng,v_rng2,v_seq,v_tvar,v_ttup,v_tsub,v_gs0,v_gs1,v_asg,v_ifs,v_ret,v_retN,v_exp,v_pas,v_brk,v_cnt,v_for,v_whl,v_zipf,kZp,v_b0,v_b1,kVar,kGlb,kBin,kNeg,kNot,kCmp2,kCmp,kChn2,kChn,kIfe,kTup,kLst,kIdx,kSli2,kSli,kIsi,kMeth,kTru,tVar',tNotB,tCmp2,tCmp',tChn2,tChn,tIdx,tCal,tPri,tIsi,kBV,kBT,kCons,kArg,kOpt,kRngB,kSeq,kEn,kSub2,kSub,kGs,kNx,kAsg,kIfs,kRet,kExp,kB,kComp1,kEl1,kEl,kCd,Res.bind_ok,finF,Cn_call,Cn_glob,Cn_W]
noncomputable def cD (nb : Int) (i : Nat) : D := .tup [.int nb, .int i]
noncomputable def oD (o : Int × D) : D := .tup [.int o.1, o.2]
theorem rng_len {m : Nat} {L : Int} (hL : (m : Int) = L) (hm : m ≤ 100) (S : Store) : kRng (.int L) S = .ok (none, (List.range m).map fun (i : Nat) => .int i) S := by
  rw [kRng_of (by omega) (by omega)]
  have : L.toNat = m := by omega
  rw [this]
theorem made_by (n : Nat) (nb : Int) (b : D) (os : List D) (ho : os.length ≤ 100) (S : Store) : callN T G 100 (n+1) "made_by" [.tup [.int nb, b, .tup os]] S = .ok (.loc S.length) (S ++ [.lst ((List.range os.length).map (cD nb))]) := by
  rw [callN_eq T_f_made_by rfl]
  obtain ⟨L, hL⟩ : ∃ L : Int, (os.length : Int) = L := ⟨_, rfl⟩
  have hlen : ∀ S : Store, primD .len [.tup os] S = .ok (.int L) S := fun S => by rw [← hL]; rfl
  simp [f_made_by, v_cst,v_var,v_glb,v_bin,v_neg,v_nott,v_bo,v_cmp,v_cmp2,v_ife,v_tup,v_lst,v_idx,v_sli,v_call,v_prim,v_isi,v_meth,v_comp,w_nott,w_bo,w_cmp,w_cmp2,w_var,w_idx,w_call,w_prim,w_isi,v_bv1,v_bv2,v_bt1,v_bt2,v_c0,v_c1,v_a0,v_a1,v_o0,v_o1,v_rng,v_rng2,v_seq,v_tvar,v_ttup,v_tsub,v_gs0,v_gs1,v_asg,v_ifs,v_ret,v_retN,v_exp,v_pas,v_brk,v_cnt,v_for,v_whl,v_zipf,kZp,v_b0,v_b1,kVar,kGlb,kBin,kNeg,kNot,kCmp2,kCmp,kChn2,kChn,kIfe,kTup,kLst,kIdx,kSli2,kSli,kIsi,kMeth,kTru,tVar',tNotB,tCmp2,tCmp',tChn2,tChn,tIdx,tCal,tPri,tIsi,kBV,kBT,kCons,kArg,kOpt,kRngB,kSeq,kEn,kSub2,kSub,kGs,kNx,kAsg,kIfs,kRet,kExp,kB,kComp1,kEl1,kEl,kCd,Res.bind_ok,finF,Cn_call,Cn_glob,Cn_W, hlen, -prim_len_tup]
  rw [rng_len hL ho]
  simp only [Res.bind_ok]
  rw [kComp_of (fun (i : Nat) => D.int i) (cD nb) (by simp; omega) (.inl rfl) fun i hi => (by simp [turnC_eq, v_cst,v_var,v_glb,v_bin,v_neg,v_nott,v_bo,v_cmp,v_cmp2,v_ife,v_tup,v_lst,v_idx,v_sli,v_call,v_prim,v_isi,v_meth,v_comp,w_nott,w_bo,w_cmp,w_cmp2,w_var,w_idx,w_call,w_prim,w_isi,v_bv1,v_bv2,v_bt1,v_bt2,v_c0,v_c1,v_a0,v_a1,v_o0,v_o1,v_rng,v_rng2,v_seq,v_tvar,v_ttup,v_tsub,v_gs0,v_gs1,v_asg,v_ifs,v_ret,v_retN,v_exp,v_pas,v_brk,v_cnt,v_for,v_whl,v_zipf,kZp,v_b0,v_b1,kVar,kGlb,kBin,kNeg,kNot,kCmp2,kCmp,kChn2,kChn,kIfe,kTup,kLst,kIdx,kSli2,kSli,kIsi,kMeth,kTru,tVar',tNotB,tCmp2,tCmp',tChn2,tChn,tIdx,tCal,tPri,tIsi,kBV,kBT,kCons,kArg,kOpt,kRngB,kSeq,kEn,kSub2,kSub,kGs,kNx,kAsg,kIfs,kRet,kExp,kB,kComp1,kEl1,kEl,kCd,Res.bind_ok,finF,Cn_call,Cn_glob,Cn_W, inEn, Line, cD])]
  simp [v_cst,v_var,v_glb,v_bin,v_neg,v_nott,v_bo,v_cmp,v_cmp2,v_ife,v_tup,v_lst,v_idx,v_sli,v_call,v_prim,v_isi,v_meth,v_comp,w_nott,w_bo,w_cmp,w_cmp2,w_var,w_idx,w_call,w_prim,w_isi,v_bv1,v_bv2,v_bt1,v_bt2,v_c0,v_c1,v_a0,v_a1,v_o0,v_o1,v_rng,v_rng2,v_seq,v_tvar,v_ttup,v_tsub,v_gs0,v_gs1,v_asg,v_ifs,v_ret,v_retN,v_exp,v_pas,v_brk,v_cnt,v_for,v_whl,v_zipf,kZp,v_b0,v_b1,kVar,kGlb,kBin,kNeg,kNot,kCmp2,kCmp,kChn2,kChn,kIfe,kTup,kLst,kIdx,kSli2,kSli,kIsi,kMeth,kTru,tVar',tNotB,tCmp2,tCmp',tChn2,tChn,tIdx,tCal,tPri,tIsi,kBV,kBT,kCons,kArg,kOpt,kRngB,kSeq,kEn,kSub2,kSub,kGs,kNx,kAsg,kIfs,kRet,kExp,kB,kComp1,kEl1,kEl,kCd,Res.bind_ok,finF,Cn_call,Cn_glob,Cn_W]
theorem worth_of (n : Nat) (a b : D) (os : List (Int × D)) (ho : os.length ≤ 100) (S : Store) : callN T G 100 (n+1) "worth_of" [.tup [a, b, .tup (os.map oD)]] S = .ok (.int (os.map (·.1)).sum) (S ++ [.lst (os.map fun o => D.int o.1)]) := by
  rw [callN_eq T_f_worth_of rfl]
  simp [f_worth_of, v_cst,v_var,v_glb,v_bin,v_neg,v_nott,v_bo,v_cmp,v_cmp2,v_ife,v_tup,v_lst,v_idx,v_sli,v_call,v_prim,v_isi,v_meth,v_comp,w_nott,w_bo,w_cmp,w_cmp2,w_var,w_idx,w_call,w_prim,w_isi,v_bv1,v_bv2,v_bt1,v_bt2,v_c0,v_c1,v_a0,v_a1,v_o0,v_o1,v_rng,v_rng2,v_seq,v_tvar,v_ttup,v_tsub,v_gs0,v_gs1,v_asg,v_ifs,v_ret,v_retN,v_exp,v_pas,v_brk,v_cnt,v_for,v_whl,v_zipf,kZp,v_b0,v_b1,kVar,kGlb,kBin,kNeg,kNot,kCmp2,kCmp,kChn2,kChn,kIfe,kTup,kLst,kIdx,kSli2,kSli,kIsi,kMeth,kTru,tVar',tNotB,tCmp2,tCmp',tChn2,tChn,tIdx,tCal,tPri,tIsi,kBV,kBT,kCons,kArg,kOpt,kRngB,kSeq,kEn,kSub2,kSub,kGs,kNx,kAsg,kIfs,kRet,kExp,kB,kComp1,kEl1,kEl,kCd,Res.bind_ok,finF,Cn_call,Cn_glob,Cn_W]
  rw [kComp_of oD (fun o => D.int o.1) (by omega) (.inl rfl) fun o ho => (by simp [turnC_eq, v_cst,v_var,v_glb,v_bin,v_neg,v_nott,v_bo,v_cmp,v_cmp2,v_ife,v_tup,v_lst,v_idx,v_sli,v_call,v_prim,v_isi,v_meth,v_comp,w_nott,w_bo,w_cmp,w_cmp2,w_var,w_idx,w_call,w_prim,w_isi,v_bv1,v_bv2,v_bt1,v_bt2,v_c0,v_c1,v_a0,v_a1,v_o0,v_o1,v_rng,v_rng2,v_seq,v_tvar,v_ttup,v_tsub,v_gs0,v_gs1,v_asg,v_ifs,v_ret,v_retN,v_exp,v_pas,v_brk,v_cnt,v_for,v_whl,v_zipf,kZp,v_b0,v_b1,kVar,kGlb,kBin,kNeg,kNot,kCmp2,kCmp,kChn2,kChn,kIfe,kTup,kLst,kIdx,kSli2,kSli,kIsi,kMeth,kTru,tVar',tNotB,tCmp2,tCmp',tChn2,tChn,tIdx,tCal,tPri,tIsi,kBV,kBT,kCons,kArg,kOpt,kRngB,kSeq,kEn,kSub2,kSub,kGs,kNx,kAsg,kIfs,kRet,kExp,kB,kComp1,kEl1,kEl,kCd,Res.bind_ok,finF,Cn_call,Cn_glob,Cn_W, inEn, oD])]
  simp [v_cst,v_var,v_glb,v_bin,v_neg,v_nott,v_bo,v_cmp,v_cmp2,v_ife,v_tup,v_lst,v_idx,v_sli,v_call,v_prim,v_isi,v_meth,v_comp,w_nott,w_bo,w_cmp,w_cmp2,w_var,w_idx,w_call,w_prim,w_isi,v_bv1,v_bv2,v_bt1,v_bt2,v_c0,v_c1,v_a0,v_a1,v_o0,v_o1,v_rng,v_rng2,v_seq,v_tvar,v_ttup,v_tsub,v_gs0,v_gs1,v_asg,v_ifs,v_ret,v_retN,v_exp,v_pas,v_brk,v_cnt,v_for,v_whl,v_zipf,kZp,v_b0,v_b1,kVar,kGlb,kBin,kNeg,kNot,kCmp2,kCmp,kChn2,kChn,kIfe,kTup,kLst,kIdx,kSli2,kSli,kIsi,kMeth,kTru,tVar',tNotB,tCmp2,tCmp',tChn2,tChn,tIdx,tCal,tPri,tIsi,kBV,kBT,kCons,kArg,kOpt,kRngB,kSeq,kEn,kSub2,kSub,kGs,kNx,kAsg,kIfs,kRet,kExp,kB,kComp1,kEl1,kEl,kCd,Res.bind_ok,finF,Cn_call,Cn_glob,Cn_W, prim_sum_new]
theorem ne_cD {nb : Int} {i : Nat} {S : Store} : cop .ne (cD nb i) (cD nb i) S = some false := by
  show (eqD S (10 + 1 + 1) (.tup [.int nb, .int i]) (.tup [.int nb, .int i])).map (!·) = _
  simp [eqD, eqL, scalV, eqV]
noncomputable def ICn (l k : Nat) (S : Store) (i : Nat) (τ : En) (S' : Store) : Prop := ∃ a b : Option D, τ = [some (.loc l), some (.loc k), a, b] ∧ S' = S
theorem coins (n : Nat) (nb : Int) (m : Nat) (l k : Nat) (S : Store) (h1 : S[l]? = some (.lst ((List.range m).map (cD nb)))) (h2 : S[k]? = some (.lst ((List.range m).map (cD nb)))) : Sat (callN T G 100 (n+2) "_law_coins" [.loc l, .loc k] S) fun d S' => d = .bl true ∧ S' = S := by
  rw [callN_eq T_f_law_coins rfl]
  simp [f_law_coins, v_cst,v_var,v_glb,v_bin,v_neg,v_nott,v_bo,v_cmp,v_cmp2,v_ife,v_tup,v_lst,v_idx,v_sli,v_call,v_prim,v_isi,v_meth,v_comp,w_nott,w_bo,w_cmp,w_cmp2,w_var,w_idx,w_call,w_prim,w_isi,v_bv1,v_bv2,v_bt1,v_bt2,v_c0,v_c1,v_a0,v_a1,v_o0,v_o1,v_rng,v_rng2,v_seq,v_tvar,v_ttup,v_tsub,v_gs0,v_gs1,v_asg,v_ifs,v_ret,v_retN,v_exp,v_pas,v_brk,v_cnt,v_for,v_whl,v_zipf,kZp,v_b0,v_b1,kVar,kGlb,kBin,kNeg,kNot,kCmp2,kCmp,kChn2,kChn,kIfe,kTup,kLst,kIdx,kSli2,kSli,kIsi,kMeth,kTru,tVar',tNotB,tCmp2,tCmp',tChn2,tChn,tIdx,tCal,tPri,tIsi,kBV,kBT,kCons,kArg,kOpt,kRngB,kSeq,kEn,kSub2,kSub,kGs,kNx,kAsg,kIfs,kRet,kExp,kB,kComp1,kEl1,kEl,kCd,Res.bind_ok,finF,Cn_call,Cn_glob,Cn_W, tyD, isiD, h1]
  simp [v_cst,v_var,v_glb,v_bin,v_neg,v_nott,v_bo,v_cmp,v_cmp2,v_ife,v_tup,v_lst,v_idx,v_sli,v_call,v_prim,v_isi,v_meth,v_comp,w_nott,w_bo,w_cmp,w_cmp2,w_var,w_idx,w_call,w_prim,w_isi,v_bv1,v_bv2,v_bt1,v_bt2,v_c0,v_c1,v_a0,v_a1,v_o0,v_o1,v_rng,v_rng2,v_seq,v_tvar,v_ttup,v_tsub,v_gs0,v_gs1,v_asg,v_ifs,v_ret,v_retN,v_exp,v_pas,v_brk,v_cnt,v_for,v_whl,v_zipf,kZp,v_b0,v_b1,kVar,kGlb,kBin,kNeg,kNot,kCmp2,kCmp,kChn2,kChn,kIfe,kTup,kLst,kIdx,kSli2,kSli,kIsi,kMeth,kTru,tVar',tNotB,tCmp2,tCmp',tChn2,tChn,tIdx,tCal,tPri,tIsi,kBV,kBT,kCons,kArg,kOpt,kRngB,kSeq,kEn,kSub2,kSub,kGs,kNx,kAsg,kIfs,kRet,kExp,kB,kComp1,kEl1,kEl,kCd,Res.bind_ok,finF,Cn_call,Cn_glob,Cn_W, prim_len_loc h1, prim_len_loc h2]
  (first | (with_reducible refine Sat.p10 (loopZ (xs := (List.range m).map (cD nb)) (ys := (List.range m).map (cD nb)) (ICn l k S) noB noR ?_ ?_ ?_) ?_) | (with_reducible refine Sat.p9 (loopZ (xs := (List.range m).map (cD nb)) (ys := (List.range m).map (cD nb)) (ICn l k S) noB noR ?_ ?_ ?_) ?_) | (with_reducible refine Sat.p8 (loopZ (xs := (List.range m).map (cD nb)) (ys := (List.range m).map (cD nb)) (ICn l k S) noB noR ?_ ?_ ?_) ?_) | (with_reducible refine Sat.p7 (loopZ (xs := (List.range m).map (cD nb)) (ys := (List.range m).map (cD nb)) (ICn l k S) noB noR ?_ ?_ ?_) ?_) | (with_reducible refine Sat.p6 (loopZ (xs := (List.range m).map (cD nb)) (ys := (List.range m).map (cD nb)) (ICn l k S) noB noR ?_ ?_ ?_) ?_) | (with_reducible refine Sat.p5 (loopZ (xs := (List.range m).map (cD nb)) (ys := (List.range m).map (cD nb)) (ICn l k S) noB noR ?_ ?_ ?_) ?_) | (with_reducible refine Sat.p4 (loopZ (xs := (List.range m).map (cD nb)) (ys := (List.range m).map (cD nb)) (ICn l k S) noB noR ?_ ?_ ?_) ?_) | (with_reducible refine Sat.p3 (loopZ (xs := (List.range m).map (cD nb)) (ys := (List.range m).map (cD nb)) (ICn l k S) noB noR ?_ ?_ ?_) ?_) | (with_reducible refine Sat.p2 (loopZ (xs := (List.range m).map (cD nb)) (ys := (List.range m).map (cD nb)) (ICn l k S) noB noR ?_ ?_ ?_) ?_) | (with_reducible refine Sat.p1 (loopZ (xs := (List.range m).map (cD nb)) (ys := (List.range m).map (cD nb)) (ICn l k S) noB noR ?_ ?_ ?_) ?_) | (with_reducible refine Sat.p0 (loopZ (xs := (List.range m).map (cD nb)) (ys := (List.range m).map (cD nb)) (ICn l k S) noB noR ?_ ?_ ?_) ?_))
  · exact ⟨_, _, rfl, rfl⟩
  · rintro i τ S1 ⟨a, b, rfl, rfl⟩
    exact ⟨h1, h2⟩
  · rintro i x y τ S1 hx hy ⟨a, b, rfl, rfl⟩
    rw [hx] at hy
    cases hy
    rw [List.getElem?_map] at hx
    obtain ⟨j, -, rfl⟩ := Option.map_eq_some_iff.mp hx
    have hne := ne_cD (nb := nb) (i := j) (S := S1)
    simp only [cD] at hne ⊢
    generalize (j : Int) = jj at hne ⊢
    rw [turnF_eq]
    simp [v_cst,v_var,v_glb,v_bin,v_neg,v_nott,v_bo,v_cmp,v_cmp2,v_ife,v_tup,v_lst,v_idx,v_sli,v_call,v_prim,v_isi,v_meth,v_comp,w_nott,w_bo,w_cmp,w_cmp2,w_var,w_idx,w_call,w_prim,w_isi,v_bv1,v_bv2,v_bt1,v_bt2,v_c0,v_c1,v_a0,v_a1,v_o0,v_o1,v_rng,v_rng2,v_seq,v_tvar,v_ttup,v_tsub,v_gs0,v_gs1,v_asg,v_ifs,v_ret,v_retN,v_exp,v_pas,v_brk,v_cnt,v_for,v_whl,v_zipf,kZp,v_b0,v_b1,kVar,kGlb,kBin,kNeg,kNot,kCmp2,kCmp,kChn2,kChn,kIfe,kTup,kLst,kIdx,kSli2,kSli,kIsi,kMeth,kTru,tVar',tNotB,tCmp2,tCmp',tChn2,tChn,tIdx,tCal,tPri,tIsi,kBV,kBT,kCons,kArg,kOpt,kRngB,kSeq,kEn,kSub2,kSub,kGs,kNx,kAsg,kIfs,kRet,kExp,kB,kComp1,kEl1,kEl,kCd,Res.bind_ok,finF,Cn_call,Cn_glob,Cn_W, tyD, isiD, whole, hne]
    exact ⟨_, _, rfl, rfl⟩
  · intro fl S1 q
    obtain ⟨_, rfl, a, b, rfl, rfl⟩ := q.nx
    simp [v_cst,v_var,v_glb,v_bin,v_neg,v_nott,v_bo,v_cmp,v_cmp2,v_ife,v_tup,v_lst,v_idx,v_sli,v_call,v_prim,v_isi,v_meth,v_comp,w_nott,w_bo,w_cmp,w_cmp2,w_var,w_idx,w_call,w_prim,w_isi,v_bv1,v_bv2,v_bt1,v_bt2,v_c0,v_c1,v_a0,v_a1,v_o0,v_o1,v_rng,v_rng2,v_seq,v_tvar,v_ttup,v_tsub,v_gs0,v_gs1,v_asg,v_ifs,v_ret,v_retN,v_exp,v_pas,v_brk,v_cnt,v_for,v_whl,v_zipf,kZp,v_b0,v_b1,kVar,kGlb,kBin,kNeg,kNot,kCmp2,kCmp,kChn2,kChn,kIfe,kTup,kLst,kIdx,kSli2,kSli,kIsi,kMeth,kTru,tVar',tNotB,tCmp2,tCmp',tChn2,tChn,tIdx,tCal,tPri,tIsi,kBV,kBT,kCons,kArg,kOpt,kRngB,kSeq,kEn,kSub2,kSub,kGs,kNx,kAsg,kIfs,kRet,kExp,kB,kComp1,kEl1,kEl,kCd,Res.bind_ok,finF,Cn_call,Cn_glob,Cn_W]
end K12

namespace K12
open PySem L2 Mi
noncomputable def lawB : M := match f_law.body with | .cns (.forr _ _ b) _ => b | _ => .nul
noncomputable def outB : M := match dropS 3 lawB with | .cns (.forr _ _ b) _ => b | _ => .nul
noncomputable def insB : M := match dropS 5 lawB with | .cns (.forr _ _ b) _ => b | _ => .nul
noncomputable def IOut (sc kk : D) (nb : Int) (ls lo : Nat) (i : Nat) (τ : En) (S : Store) : Prop := ∃ (a b : Int) (os : List (Int × D)) (p5 p6 p7 p8 p9 p10 p11 : Option D), τ = [some sc, some kk, some (.loc ls), some (.int nb), some (.loc lo), p5, p6, p7, p8, p9, p10, p11] ∧ S[ls]? = some (st a b) ∧ S[lo]? = some (.lst (os.map oD)) ∧ os.length = i ∧ ls ≠ lo
noncomputable def IIns (sc kk : D) (nb : Int) (ls lo li : Nat) (os : List (Int × D)) (i : Nat) (τ : En) (S : Store) : Prop := ∃ (a b : Int) (is : List D) (p5 p6 p8 p9 p10 p11 : Option D), τ = [some sc, some kk, some (.loc ls), some (.int nb), some (.loc lo), p5, p6, some (.loc li), p8, p9, p10, p11] ∧ S[ls]? = some (st a b) ∧ S[lo]? = some (.lst (os.map oD)) ∧ S[li]? = some (.lst is) ∧ is.length = i ∧ ls ≠ li ∧ lo ≠ li ∧ ls ≠ lo
theorem out_turn (n : Nat) (sc kk : D) (nb : Int) (ls lo : Nat) (i : Nat) (hi : i < 50) (a b : Int) (os : List (Int × D)) (p5 p6 p7 p8 p9 p10 p11 : Option D) (S : Store) (h1 : S[ls]? = some (st a b)) (h2 : S[lo]? = some (.lst (os.map oD))) (hl : os.length = i) (hne : ls ≠ lo) :
    Sat (evB (Cn T G 100 (n + 2)) outB [some sc, some kk, some (.loc ls), some (.int nb), some (.loc lo), p5, p6, p7, p8, p9, p10, p11] S) (FlP (IOut sc kk nb ls lo (i + 1)) noB noR) := by
  have lt1 := get_lt h1
  have lt2 := get_lt h2
  simp only [outB, lawB, f_law, dropS]
  simp [v_cst,v_var,v_glb,v_bin,v_neg,v_nott,v_bo,v_cmp,v_cmp2,v_ife,v_tup,v_lst,v_idx,v_sli,v_call,v_prim,v_isi,v_meth,v_comp,w_nott,w_bo,w_cmp,w_cmp2,w_var,w_idx,w_call,w_prim,w_isi,v_bv1,v_bv2,v_bt1,v_bt2,v_c0,v_c1,v_a0,v_a1,v_o0,v_o1,v_rng,v_rng2,v_seq,v_tvar,v_ttup,v_tsub,v_gs0,v_gs1,v_asg,v_ifs,v_ret,v_retN,v_exp,v_pas,v_brk,v_cnt,v_for,v_whl,v_zipf,kZp,v_b0,v_b1,kVar,kGlb,kBin,kNeg,kNot,kCmp2,kCmp,kChn2,kChn,kIfe,kTup,kLst,kIdx,kSli2,kSli,kIsi,kMeth,kTru,tVar',tNotB,tCmp2,tCmp',tChn2,tChn,tIdx,tCal,tPri,tIsi,kBV,kBT,kCons,kArg,kOpt,kRngB,kSeq,kEn,kSub2,kSub,kGs,kNx,kAsg,kIfs,kRet,kExp,kB,kComp1,kEl1,kEl,kCd,Res.bind_ok,finF,Cn_call,Cn_glob,Cn_W, Line]
  (first | (with_reducible refine Sat.p14 (pick (n + 1) ls a b 2 _ (old_get h1) (by decide) (by decide)) ?_) | (with_reducible refine Sat.p13 (pick (n + 1) ls a b 2 _ (old_get h1) (by decide) (by decide)) ?_) | (with_reducible refine Sat.p12 (pick (n + 1) ls a b 2 _ (old_get h1) (by decide) (by decide)) ?_) | (with_reducible refine Sat.p11 (pick (n + 1) ls a b 2 _ (old_get h1) (by decide) (by decide)) ?_) | (with_reducible refine Sat.p10 (pick (n + 1) ls a b 2 _ (old_get h1) (by decide) (by decide)) ?_) | (with_reducible refine Sat.p9 (pick (n + 1) ls a b 2 _ (old_get h1) (by decide) (by decide)) ?_) | (with_reducible refine Sat.p8 (pick (n + 1) ls a b 2 _ (old_get h1) (by decide) (by decide)) ?_) | (with_reducible refine Sat.p7 (pick (n + 1) ls a b 2 _ (old_get h1) (by decide) (by decide)) ?_) | (with_reducible refine Sat.p6 (pick (n + 1) ls a b 2 _ (old_get h1) (by decide) (by decide)) ?_) | (with_reducible refine Sat.p5 (pick (n + 1) ls a b 2 _ (old_get h1) (by decide) (by decide)) ?_) | (with_reducible refine Sat.p4 (pick (n + 1) ls a b 2 _ (old_get h1) (by decide) (by decide)) ?_) | (with_reducible refine Sat.p3 (pick (n + 1) ls a b 2 _ (old_get h1) (by decide) (by decide)) ?_) | (with_reducible refine Sat.p2 (pick (n + 1) ls a b 2 _ (old_get h1) (by decide) (by decide)) ?_) | (with_reducible refine Sat.p1 (pick (n + 1) ls a b 2 _ (old_get h1) (by decide) (by decide)) ?_) | (with_reducible refine Sat.p0 (pick (n + 1) ls a b 2 _ (old_get h1) (by decide) (by decide)) ?_))
  rintro _ S1 ⟨r, a1, b1, rfl, r0, r1, rfl⟩
  simp only [v_cst,v_var,v_glb,v_bin,v_neg,v_nott,v_bo,v_cmp,v_cmp2,v_ife,v_tup,v_lst,v_idx,v_sli,v_call,v_prim,v_isi,v_meth,v_comp,w_nott,w_bo,w_cmp,w_cmp2,w_var,w_idx,w_call,w_prim,w_isi,v_bv1,v_bv2,v_bt1,v_bt2,v_c0,v_c1,v_a0,v_a1,v_o0,v_o1,v_rng,v_rng2,v_seq,v_tvar,v_ttup,v_tsub,v_gs0,v_gs1,v_asg,v_ifs,v_ret,v_retN,v_exp,v_pas,v_brk,v_cnt,v_for,v_whl,v_zipf,kZp,v_b0,v_b1,kVar,kGlb,kBin,kNeg,kNot,kCmp2,kCmp,kChn2,kChn,kIfe,kTup,kLst,kIdx,kSli2,kSli,kIsi,kMeth,kTru,tVar',tNotB,tCmp2,tCmp',tChn2,tChn,tIdx,tCal,tPri,tIsi,kBV,kBT,kCons,kArg,kOpt,kRngB,kSeq,kEn,kSub2,kSub,kGs,kNx,kAsg,kIfs,kRet,kExp,kB,kComp1,kEl1,kEl,kCd,Res.bind_ok,finF,Cn_call,Cn_glob,Cn_W]
  have g1 : ((S ++ [Mi.Obj.lst [D.tup [], D.tup [D.tup [D.str "push", D.int 1]]]]).set ls (st a1 b1))[S.length]? = some (.lst [D.tup [], D.tup [D.tup [D.str "push", D.int 1]]]) := by
    rw [List.getElem?_set_ne (by omega)]; exact new_get
  have g2 : ((S ++ [Mi.Obj.lst [D.tup [], D.tup [D.tup [D.str "push", D.int 1]]]]).set ls (st a1 b1))[ls]? = some (st a1 b1) := set_get (old_get h1)
  have g3 : ((S ++ [Mi.Obj.lst [D.tup [], D.tup [D.tup [D.str "push", D.int 1]]]]).set ls (st a1 b1))[lo]? = some (.lst (os.map oD)) := by
    rw [List.getElem?_set_ne hne]; exact old_get h2
  have g4 : S.length < ((S ++ [Mi.Obj.lst [D.tup [], D.tup [D.tup [D.str "push", D.int 1]]]]).set ls (st a1 b1)).length := by simp
  generalize (S ++ [Mi.Obj.lst [D.tup [], D.tup [D.tup [D.str "push", D.int 1]]]]).set ls (st a1 b1) = S2 at g1 g2 g3 g4 ⊢
  (first | (with_reducible refine Sat.p14 (sat_idx_loc g1 r0 (by simp; omega)) ?_) | (with_reducible refine Sat.p13 (sat_idx_loc g1 r0 (by simp; omega)) ?_) | (with_reducible refine Sat.p12 (sat_idx_loc g1 r0 (by simp; omega)) ?_) | (with_reducible refine Sat.p11 (sat_idx_loc g1 r0 (by simp; omega)) ?_) | (with_reducible refine Sat.p10 (sat_idx_loc g1 r0 (by simp; omega)) ?_) | (with_reducible refine Sat.p9 (sat_idx_loc g1 r0 (by simp; omega)) ?_) | (with_reducible refine Sat.p8 (sat_idx_loc g1 r0 (by simp; omega)) ?_) | (with_reducible refine Sat.p7 (sat_idx_loc g1 r0 (by simp; omega)) ?_) | (with_reducible refine Sat.p6 (sat_idx_loc g1 r0 (by simp; omega)) ?_) | (with_reducible refine Sat.p5 (sat_idx_loc g1 r0 (by simp; omega)) ?_) | (with_reducible refine Sat.p4 (sat_idx_loc g1 r0 (by simp; omega)) ?_) | (with_reducible refine Sat.p3 (sat_idx_loc g1 r0 (by simp; omega)) ?_) | (with_reducible refine Sat.p2 (sat_idx_loc g1 r0 (by simp; omega)) ?_) | (with_reducible refine Sat.p1 (sat_idx_loc g1 r0 (by simp; omega)) ?_) | (with_reducible refine Sat.p0 (sat_idx_loc g1 r0 (by simp; omega)) ?_))
  rintro lk S3 ⟨-, rfl, -⟩
  simp [v_cst,v_var,v_glb,v_bin,v_neg,v_nott,v_bo,v_cmp,v_cmp2,v_ife,v_tup,v_lst,v_idx,v_sli,v_call,v_prim,v_isi,v_meth,v_comp,w_nott,w_bo,w_cmp,w_cmp2,w_var,w_idx,w_call,w_prim,w_isi,v_bv1,v_bv2,v_bt1,v_bt2,v_c0,v_c1,v_a0,v_a1,v_o0,v_o1,v_rng,v_rng2,v_seq,v_tvar,v_ttup,v_tsub,v_gs0,v_gs1,v_asg,v_ifs,v_ret,v_retN,v_exp,v_pas,v_brk,v_cnt,v_for,v_whl,v_zipf,kZp,v_b0,v_b1,kVar,kGlb,kBin,kNeg,kNot,kCmp2,kCmp,kChn2,kChn,kIfe,kTup,kLst,kIdx,kSli2,kSli,kIsi,kMeth,kTru,tVar',tNotB,tCmp2,tCmp',tChn2,tChn,tIdx,tCal,tPri,tIsi,kBV,kBT,kCons,kArg,kOpt,kRngB,kSeq,kEn,kSub2,kSub,kGs,kNx,kAsg,kIfs,kRet,kExp,kB,kComp1,kEl1,kEl,kCd,Res.bind_ok,finF,Cn_call,Cn_glob,Cn_W, Line, bop_pow_int]
  (first | (with_reducible refine Sat.p14 (pick (n + 1) ls a1 b1 2 _ (old_get g2) (by decide) (by decide)) ?_) | (with_reducible refine Sat.p13 (pick (n + 1) ls a1 b1 2 _ (old_get g2) (by decide) (by decide)) ?_) | (with_reducible refine Sat.p12 (pick (n + 1) ls a1 b1 2 _ (old_get g2) (by decide) (by decide)) ?_) | (with_reducible refine Sat.p11 (pick (n + 1) ls a1 b1 2 _ (old_get g2) (by decide) (by decide)) ?_) | (with_reducible refine Sat.p10 (pick (n + 1) ls a1 b1 2 _ (old_get g2) (by decide) (by decide)) ?_) | (with_reducible refine Sat.p9 (pick (n + 1) ls a1 b1 2 _ (old_get g2) (by decide) (by decide)) ?_) | (with_reducible refine Sat.p8 (pick (n + 1) ls a1 b1 2 _ (old_get g2) (by decide) (by decide)) ?_) | (with_reducible refine Sat.p7 (pick (n + 1) ls a1 b1 2 _ (old_get g2) (by decide) (by decide)) ?_) | (with_reducible refine Sat.p6 (pick (n + 1) ls a1 b1 2 _ (old_get g2) (by decide) (by decide)) ?_) | (with_reducible refine Sat.p5 (pick (n + 1) ls a1 b1 2 _ (old_get g2) (by decide) (by decide)) ?_) | (with_reducible refine Sat.p4 (pick (n + 1) ls a1 b1 2 _ (old_get g2) (by decide) (by decide)) ?_) | (with_reducible refine Sat.p3 (pick (n + 1) ls a1 b1 2 _ (old_get g2) (by decide) (by decide)) ?_) | (with_reducible refine Sat.p2 (pick (n + 1) ls a1 b1 2 _ (old_get g2) (by decide) (by decide)) ?_) | (with_reducible refine Sat.p1 (pick (n + 1) ls a1 b1 2 _ (old_get g2) (by decide) (by decide)) ?_) | (with_reducible refine Sat.p0 (pick (n + 1) ls a1 b1 2 _ (old_get g2) (by decide) (by decide)) ?_))
  rintro _ S4 ⟨r', a2, b2, rfl, r0', r1', rfl⟩
  simp only [v_cst,v_var,v_glb,v_bin,v_neg,v_nott,v_bo,v_cmp,v_cmp2,v_ife,v_tup,v_lst,v_idx,v_sli,v_call,v_prim,v_isi,v_meth,v_comp,w_nott,w_bo,w_cmp,w_cmp2,w_var,w_idx,w_call,w_prim,w_isi,v_bv1,v_bv2,v_bt1,v_bt2,v_c0,v_c1,v_a0,v_a1,v_o0,v_o1,v_rng,v_rng2,v_seq,v_tvar,v_ttup,v_tsub,v_gs0,v_gs1,v_asg,v_ifs,v_ret,v_retN,v_exp,v_pas,v_brk,v_cnt,v_for,v_whl,v_zipf,kZp,v_b0,v_b1,kVar,kGlb,kBin,kNeg,kNot,kCmp2,kCmp,kChn2,kChn,kIfe,kTup,kLst,kIdx,kSli2,kSli,kIsi,kMeth,kTru,tVar',tNotB,tCmp2,tCmp',tChn2,tChn,tIdx,tCal,tPri,tIsi,kBV,kBT,kCons,kArg,kOpt,kRngB,kSeq,kEn,kSub2,kSub,kGs,kNx,kAsg,kIfs,kRet,kExp,kB,kComp1,kEl1,kEl,kCd,Res.bind_ok,finF,Cn_call,Cn_glob,Cn_W]
  have lt3 := get_lt g2
  have k1 : ((S3 ++ [Mi.Obj.lst [D.int 100, D.int 10000000000000000000000000000000000000000]]).set ls (st a2 b2))[S3.length]? = some (.lst [D.int 100, D.int 10000000000000000000000000000000000000000]) := by
    rw [List.getElem?_set_ne (by omega)]; exact new_get
  have k2 : ((S3 ++ [Mi.Obj.lst [D.int 100, D.int 10000000000000000000000000000000000000000]]).set ls (st a2 b2))[ls]? = some (st a2 b2) := set_get (old_get g2)
  have k3 : ((S3 ++ [Mi.Obj.lst [D.int 100, D.int 10000000000000000000000000000000000000000]]).set ls (st a2 b2))[lo]? = some (.lst (os.map oD)) := by
    rw [List.getElem?_set_ne hne]; exact old_get g3
  generalize (S3 ++ [Mi.Obj.lst [D.int 100, D.int 10000000000000000000000000000000000000000]]).set ls (st a2 b2) = S5 at k1 k2 k3 ⊢
  (first | (with_reducible refine Sat.p14 (sat_idx_loc k1 r0' (by simp; omega)) ?_) | (with_reducible refine Sat.p13 (sat_idx_loc k1 r0' (by simp; omega)) ?_) | (with_reducible refine Sat.p12 (sat_idx_loc k1 r0' (by simp; omega)) ?_) | (with_reducible refine Sat.p11 (sat_idx_loc k1 r0' (by simp; omega)) ?_) | (with_reducible refine Sat.p10 (sat_idx_loc k1 r0' (by simp; omega)) ?_) | (with_reducible refine Sat.p9 (sat_idx_loc k1 r0' (by simp; omega)) ?_) | (with_reducible refine Sat.p8 (sat_idx_loc k1 r0' (by simp; omega)) ?_) | (with_reducible refine Sat.p7 (sat_idx_loc k1 r0' (by simp; omega)) ?_) | (with_reducible refine Sat.p6 (sat_idx_loc k1 r0' (by simp; omega)) ?_) | (with_reducible refine Sat.p5 (sat_idx_loc k1 r0' (by simp; omega)) ?_) | (with_reducible refine Sat.p4 (sat_idx_loc k1 r0' (by simp; omega)) ?_) | (with_reducible refine Sat.p3 (sat_idx_loc k1 r0' (by simp; omega)) ?_) | (with_reducible refine Sat.p2 (sat_idx_loc k1 r0' (by simp; omega)) ?_) | (with_reducible refine Sat.p1 (sat_idx_loc k1 r0' (by simp; omega)) ?_) | (with_reducible refine Sat.p0 (sat_idx_loc k1 r0' (by simp; omega)) ?_))
  rintro x S6 ⟨hx, rfl, -⟩
  obtain ⟨m, rfl, m0⟩ : ∃ m : Int, x = .int m ∧ 0 < m := by
    simp at hx
    rcases hx with rfl | rfl <;> exact ⟨_, rfl, by decide⟩
  simp only [v_cst,v_var,v_glb,v_bin,v_neg,v_nott,v_bo,v_cmp,v_cmp2,v_ife,v_tup,v_lst,v_idx,v_sli,v_call,v_prim,v_isi,v_meth,v_comp,w_nott,w_bo,w_cmp,w_cmp2,w_var,w_idx,w_call,w_prim,w_isi,v_bv1,v_bv2,v_bt1,v_bt2,v_c0,v_c1,v_a0,v_a1,v_o0,v_o1,v_rng,v_rng2,v_seq,v_tvar,v_ttup,v_tsub,v_gs0,v_gs1,v_asg,v_ifs,v_ret,v_retN,v_exp,v_pas,v_brk,v_cnt,v_for,v_whl,v_zipf,kZp,v_b0,v_b1,kVar,kGlb,kBin,kNeg,kNot,kCmp2,kCmp,kChn2,kChn,kIfe,kTup,kLst,kIdx,kSli2,kSli,kIsi,kMeth,kTru,tVar',tNotB,tCmp2,tCmp',tChn2,tChn,tIdx,tCal,tPri,tIsi,kBV,kBT,kCons,kArg,kOpt,kRngB,kSeq,kEn,kSub2,kSub,kGs,kNx,kAsg,kIfs,kRet,kExp,kB,kComp1,kEl1,kEl,kCd,Res.bind_ok,finF,Cn_call,Cn_glob,Cn_W]
  (first | (with_reducible refine Sat.p14 (big n ls a2 b2 m S6 k2 m0) ?_) | (with_reducible refine Sat.p13 (big n ls a2 b2 m S6 k2 m0) ?_) | (with_reducible refine Sat.p12 (big n ls a2 b2 m S6 k2 m0) ?_) | (with_reducible refine Sat.p11 (big n ls a2 b2 m S6 k2 m0) ?_) | (with_reducible refine Sat.p10 (big n ls a2 b2 m S6 k2 m0) ?_) | (with_reducible refine Sat.p9 (big n ls a2 b2 m S6 k2 m0) ?_) | (with_reducible refine Sat.p8 (big n ls a2 b2 m S6 k2 m0) ?_) | (with_reducible refine Sat.p7 (big n ls a2 b2 m S6 k2 m0) ?_) | (with_reducible refine Sat.p6 (big n ls a2 b2 m S6 k2 m0) ?_) | (with_reducible refine Sat.p5 (big n ls a2 b2 m S6 k2 m0) ?_) | (with_reducible refine Sat.p4 (big n ls a2 b2 m S6 k2 m0) ?_) | (with_reducible refine Sat.p3 (big n ls a2 b2 m S6 k2 m0) ?_) | (with_reducible refine Sat.p2 (big n ls a2 b2 m S6 k2 m0) ?_) | (with_reducible refine Sat.p1 (big n ls a2 b2 m S6 k2 m0) ?_) | (with_reducible refine Sat.p0 (big n ls a2 b2 m S6 k2 m0) ?_))
  rintro _ S7 ⟨w, a3, b3, rfl, -, -, rfl⟩
  simp [v_cst,v_var,v_glb,v_bin,v_neg,v_nott,v_bo,v_cmp,v_cmp2,v_ife,v_tup,v_lst,v_idx,v_sli,v_call,v_prim,v_isi,v_meth,v_comp,w_nott,w_bo,w_cmp,w_cmp2,w_var,w_idx,w_call,w_prim,w_isi,v_bv1,v_bv2,v_bt1,v_bt2,v_c0,v_c1,v_a0,v_a1,v_o0,v_o1,v_rng,v_rng2,v_seq,v_tvar,v_ttup,v_tsub,v_gs0,v_gs1,v_asg,v_ifs,v_ret,v_retN,v_exp,v_pas,v_brk,v_cnt,v_for,v_whl,v_zipf,kZp,v_b0,v_b1,kVar,kGlb,kBin,kNeg,kNot,kCmp2,kCmp,kChn2,kChn,kIfe,kTup,kLst,kIdx,kSli2,kSli,kIsi,kMeth,kTru,tVar',tNotB,tCmp2,tCmp',tChn2,tChn,tIdx,tCal,tPri,tIsi,kBV,kBT,kCons,kArg,kOpt,kRngB,kSeq,kEn,kSub2,kSub,kGs,kNx,kAsg,kIfs,kRet,kExp,kB,kComp1,kEl1,kEl,kCd,Res.bind_ok,finF,Cn_call,Cn_glob,Cn_W, Line]
  have j2 : (S6.set ls (st a3 b3))[ls]? = some (st a3 b3) := set_get k2
  have j3 : (S6.set ls (st a3 b3))[lo]? = some (.lst (os.map oD)) := by rw [List.getElem?_set_ne hne]; exact k3
  rw [meth_append j3 (line_lt (by simp; omega))]
  simp [v_cst,v_var,v_glb,v_bin,v_neg,v_nott,v_bo,v_cmp,v_cmp2,v_ife,v_tup,v_lst,v_idx,v_sli,v_call,v_prim,v_isi,v_meth,v_comp,w_nott,w_bo,w_cmp,w_cmp2,w_var,w_idx,w_call,w_prim,w_isi,v_bv1,v_bv2,v_bt1,v_bt2,v_c0,v_c1,v_a0,v_a1,v_o0,v_o1,v_rng,v_rng2,v_seq,v_tvar,v_ttup,v_tsub,v_gs0,v_gs1,v_asg,v_ifs,v_ret,v_retN,v_exp,v_pas,v_brk,v_cnt,v_for,v_whl,v_zipf,kZp,v_b0,v_b1,kVar,kGlb,kBin,kNeg,kNot,kCmp2,kCmp,kChn2,kChn,kIfe,kTup,kLst,kIdx,kSli2,kSli,kIsi,kMeth,kTru,tVar',tNotB,tCmp2,tCmp',tChn2,tChn,tIdx,tCal,tPri,tIsi,kBV,kBT,kCons,kArg,kOpt,kRngB,kSeq,kEn,kSub2,kSub,kGs,kNx,kAsg,kIfs,kRet,kExp,kB,kComp1,kEl1,kEl,kCd,Res.bind_ok,finF,Cn_call,Cn_glob,Cn_W]
  refine ⟨a3, b3, os ++ [(1 + w, lk)], _, _, _, _, _, _, _, rfl, by rw [List.getElem?_set_ne (Ne.symm hne)]; exact j2, by rw [set_get j3]; simp [oD], by simp [hl], hne⟩
theorem ins_turn (n : Nat) (sc kk : D) (nb : Int) (ls lo li : Nat) (os : List (Int × D)) (i : Nat) (hi : i < 50) (a b : Int) (is : List D) (d5 : D) (p6 p8 p9 p10 p11 : Option D) (S : Store) (h1 : S[ls]? = some (st a b)) (h2 : S[lo]? = some (.lst (os.map oD))) (h3 : S[li]? = some (.lst is)) (hl : is.length = i) (n1 : ls ≠ li) (n2 : lo ≠ li) (n3 : ls ≠ lo) :
    Sat (evB (Cn T G 100 (n + 2)) insB [some sc, some kk, some (.loc ls), some (.int nb), some (.loc lo), some d5, p6, some (.loc li), p8, p9, p10, p11] S) (FlP (IIns sc kk nb ls lo li os (i + 1)) noB noR) := by
  simp only [insB, lawB, f_law, dropS]
  simp [v_cst,v_var,v_glb,v_bin,v_neg,v_nott,v_bo,v_cmp,v_cmp2,v_ife,v_tup,v_lst,v_idx,v_sli,v_call,v_prim,v_isi,v_meth,v_comp,w_nott,w_bo,w_cmp,w_cmp2,w_var,w_idx,w_call,w_prim,w_isi,v_bv1,v_bv2,v_bt1,v_bt2,v_c0,v_c1,v_a0,v_a1,v_o0,v_o1,v_rng,v_rng2,v_seq,v_tvar,v_ttup,v_tsub,v_gs0,v_gs1,v_asg,v_ifs,v_ret,v_retN,v_exp,v_pas,v_brk,v_cnt,v_for,v_whl,v_zipf,kZp,v_b0,v_b1,kVar,kGlb,kBin,kNeg,kNot,kCmp2,kCmp,kChn2,kChn,kIfe,kTup,kLst,kIdx,kSli2,kSli,kIsi,kMeth,kTru,tVar',tNotB,tCmp2,tCmp',tChn2,tChn,tIdx,tCal,tPri,tIsi,kBV,kBT,kCons,kArg,kOpt,kRngB,kSeq,kEn,kSub2,kSub,kGs,kNx,kAsg,kIfs,kRet,kExp,kB,kComp1,kEl1,kEl,kCd,Res.bind_ok,finF,Cn_call,Cn_glob,Cn_W, Line, bop_pow_int]
  (first | (with_reducible refine Sat.p14 (big n ls a b 1000000000000000000000000000000 S h1 (by decide)) ?_) | (with_reducible refine Sat.p13 (big n ls a b 1000000000000000000000000000000 S h1 (by decide)) ?_) | (with_reducible refine Sat.p12 (big n ls a b 1000000000000000000000000000000 S h1 (by decide)) ?_) | (with_reducible refine Sat.p11 (big n ls a b 1000000000000000000000000000000 S h1 (by decide)) ?_) | (with_reducible refine Sat.p10 (big n ls a b 1000000000000000000000000000000 S h1 (by decide)) ?_) | (with_reducible refine Sat.p9 (big n ls a b 1000000000000000000000000000000 S h1 (by decide)) ?_) | (with_reducible refine Sat.p8 (big n ls a b 1000000000000000000000000000000 S h1 (by decide)) ?_) | (with_reducible refine Sat.p7 (big n ls a b 1000000000000000000000000000000 S h1 (by decide)) ?_) | (with_reducible refine Sat.p6 (big n ls a b 1000000000000000000000000000000 S h1 (by decide)) ?_) | (with_reducible refine Sat.p5 (big n ls a b 1000000000000000000000000000000 S h1 (by decide)) ?_) | (with_reducible refine Sat.p4 (big n ls a b 1000000000000000000000000000000 S h1 (by decide)) ?_) | (with_reducible refine Sat.p3 (big n ls a b 1000000000000000000000000000000 S h1 (by decide)) ?_) | (with_reducible refine Sat.p2 (big n ls a b 1000000000000000000000000000000 S h1 (by decide)) ?_) | (with_reducible refine Sat.p1 (big n ls a b 1000000000000000000000000000000 S h1 (by decide)) ?_) | (with_reducible refine Sat.p0 (big n ls a b 1000000000000000000000000000000 S h1 (by decide)) ?_))
  rintro _ S7 ⟨w, a3, b3, rfl, -, -, rfl⟩
  simp [v_cst,v_var,v_glb,v_bin,v_neg,v_nott,v_bo,v_cmp,v_cmp2,v_ife,v_tup,v_lst,v_idx,v_sli,v_call,v_prim,v_isi,v_meth,v_comp,w_nott,w_bo,w_cmp,w_cmp2,w_var,w_idx,w_call,w_prim,w_isi,v_bv1,v_bv2,v_bt1,v_bt2,v_c0,v_c1,v_a0,v_a1,v_o0,v_o1,v_rng,v_rng2,v_seq,v_tvar,v_ttup,v_tsub,v_gs0,v_gs1,v_asg,v_ifs,v_ret,v_retN,v_exp,v_pas,v_brk,v_cnt,v_for,v_whl,v_zipf,kZp,v_b0,v_b1,kVar,kGlb,kBin,kNeg,kNot,kCmp2,kCmp,kChn2,kChn,kIfe,kTup,kLst,kIdx,kSli2,kSli,kIsi,kMeth,kTru,tVar',tNotB,tCmp2,tCmp',tChn2,tChn,tIdx,tCal,tPri,tIsi,kBV,kBT,kCons,kArg,kOpt,kRngB,kSeq,kEn,kSub2,kSub,kGs,kNx,kAsg,kIfs,kRet,kExp,kB,kComp1,kEl1,kEl,kCd,Res.bind_ok,finF,Cn_call,Cn_glob,Cn_W, Line]
  have j1 : (S.set ls (st a3 b3))[ls]? = some (st a3 b3) := set_get h1
  have j2 : (S.set ls (st a3 b3))[lo]? = some (.lst (os.map oD)) := by rw [List.getElem?_set_ne n3]; exact h2
  have j3 : (S.set ls (st a3 b3))[li]? = some (.lst is) := by rw [List.getElem?_set_ne n1]; exact h3
  rw [meth_append j3 (line_lt (by omega))]
  simp [v_cst,v_var,v_glb,v_bin,v_neg,v_nott,v_bo,v_cmp,v_cmp2,v_ife,v_tup,v_lst,v_idx,v_sli,v_call,v_prim,v_isi,v_meth,v_comp,w_nott,w_bo,w_cmp,w_cmp2,w_var,w_idx,w_call,w_prim,w_isi,v_bv1,v_bv2,v_bt1,v_bt2,v_c0,v_c1,v_a0,v_a1,v_o0,v_o1,v_rng,v_rng2,v_seq,v_tvar,v_ttup,v_tsub,v_gs0,v_gs1,v_asg,v_ifs,v_ret,v_retN,v_exp,v_pas,v_brk,v_cnt,v_for,v_whl,v_zipf,kZp,v_b0,v_b1,kVar,kGlb,kBin,kNeg,kNot,kCmp2,kCmp,kChn2,kChn,kIfe,kTup,kLst,kIdx,kSli2,kSli,kIsi,kMeth,kTru,tVar',tNotB,tCmp2,tCmp',tChn2,tChn,tIdx,tCal,tPri,tIsi,kBV,kBT,kCons,kArg,kOpt,kRngB,kSeq,kEn,kSub2,kSub,kGs,kNx,kAsg,kIfs,kRet,kExp,kB,kComp1,kEl1,kEl,kCd,Res.bind_ok,finF,Cn_call,Cn_glob,Cn_W]
  exact ⟨a3, b3, is ++ [_], _, _, _, _, _, _, rfl, by rw [List.getElem?_set_ne (Ne.symm n1)]; exact j1, by rw [List.getElem?_set_ne (Ne.symm n2)]; exact j2, set_get j3, by simp [hl], n1, n2, n3⟩
end K12

namespace K12
open PySem L2 Mi
noncomputable def ILaw (sc : D) (τ : En) (_ : Store) : Prop := ∃ p1 p2 p3 p4 p5 p6 p7 p8 p9 p10 p11 : Option D, τ = [some sc, p1, p2, p3, p4, p5, p6, p7, p8, p9, p10, p11]
noncomputable def tot (os : List (Int × D)) (i : Nat) : Int := ((os.take i).map (·.1)).sum
noncomputable def ITot (sc kk : D) (ls : Nat) (nb : Int) (lo li : Nat) (dd : D) (os : List (Int × D)) (S : Store) (i : Nat) (τ : En) (S' : Store) : Prop := ∃ (p5 p6 p9 p11 : Option D), τ = [some sc, some kk, some (.loc ls), some (.int nb), some (.loc lo), p5, p6, some (.loc li), some dd, p9, some (.int (tot os i)), p11] ∧ S' = S
theorem tail (C : Pr) (sc kk : D) (nb : Int) (ls lo li : Nat) (os : List (Int × D)) (ho : os.length ≤ 60) (is : List D)
    (hmk : ∀ S, C.call "is_maker" [.tup [.int nb, .tup is, .tup (os.map oD)]] S = .ok (.bl (decide (is.length = 0))) S)
    (hmb : ∀ S : Store, C.call "made_by" [.tup [.int nb, .tup is, .tup (os.map oD)]] S = .ok (.loc S.length) (S ++ [.lst ((List.range os.length).map (cD nb))]))
    (hco : ∀ (l k : Nat) (S : Store), S[l]? = some (.lst ((List.range os.length).map (cD nb))) → S[k]? = some (.lst ((List.range os.length).map (cD nb))) → Sat (C.call "_law_coins" [.loc l, .loc k] S) fun d S' => d = .bl true ∧ S' = S)
    (hwo : ∀ S : Store, C.call "worth_of" [.tup [.int nb, .tup is, .tup (os.map oD)]] S = .ok (.int (os.map (·.1)).sum) (S ++ [.lst (os.map fun o => D.int o.1)]))
    (hwh : ∀ (i : Int) (S : Store), C.call "_law_whole" [.int i] S = .ok (.bl true) S)
    (p5 p6 p8 p9 p10 p11 : Option D) (S : Store) (h2 : S[lo]? = some (.lst (os.map oD))) (h3 : S[li]? = some (.lst is)) :
    Sat (evB C (dropS 6 lawB) [some sc, some kk, some (.loc ls), some (.int nb), some (.loc lo), p5, p6, some (.loc li), p8, p9, p10, p11] S) (FlP (ILaw sc) noB noR) := by
  obtain ⟨Li, hLi⟩ : ∃ Li : Int, (is.length : Int) = Li := ⟨_, rfl⟩
  have hlen3 : primD .len [.loc li] S = .ok (.int Li) S := by rw [prim_len_loc h3, hLi]
  have hmk' : C.call "is_maker" [.tup [.int nb, .tup is, .tup (os.map oD)]] S = .ok (.bl (decide (Li = 0))) S := by
    rw [hmk S, show decide (is.length = 0) = decide (Li = 0) from decide_eq_decide.mpr (by omega)]
  clear hLi hmk
  simp only [lawB, f_law, dropS]
  simp [v_cst,v_var,v_glb,v_bin,v_neg,v_nott,v_bo,v_cmp,v_cmp2,v_ife,v_tup,v_lst,v_idx,v_sli,v_call,v_prim,v_isi,v_meth,v_comp,w_nott,w_bo,w_cmp,w_cmp2,w_var,w_idx,w_call,w_prim,w_isi,v_bv1,v_bv2,v_bt1,v_bt2,v_c0,v_c1,v_a0,v_a1,v_o0,v_o1,v_rng,v_rng2,v_seq,v_tvar,v_ttup,v_tsub,v_gs0,v_gs1,v_asg,v_ifs,v_ret,v_retN,v_exp,v_pas,v_brk,v_cnt,v_for,v_whl,v_zipf,kZp,v_b0,v_b1,kVar,kGlb,kBin,kNeg,kNot,kCmp2,kCmp,kChn2,kChn,kIfe,kTup,kLst,kIdx,kSli2,kSli,kIsi,kMeth,kTru,tVar',tNotB,tCmp2,tCmp',tChn2,tChn,tIdx,tCal,tPri,tIsi,kBV,kBT,kCons,kArg,kOpt,kRngB,kSeq,kEn,kSub2,kSub,kGs,kNx,kAsg,kIfs,kRet,kExp,kB,kComp1,kEl1,kEl,kCd,Res.bind_ok,finF,Cn_call,Cn_glob,Cn_W]
  rw [prim_tuple_loc h3]
  simp [v_cst,v_var,v_glb,v_bin,v_neg,v_nott,v_bo,v_cmp,v_cmp2,v_ife,v_tup,v_lst,v_idx,v_sli,v_call,v_prim,v_isi,v_meth,v_comp,w_nott,w_bo,w_cmp,w_cmp2,w_var,w_idx,w_call,w_prim,w_isi,v_bv1,v_bv2,v_bt1,v_bt2,v_c0,v_c1,v_a0,v_a1,v_o0,v_o1,v_rng,v_rng2,v_seq,v_tvar,v_ttup,v_tsub,v_gs0,v_gs1,v_asg,v_ifs,v_ret,v_retN,v_exp,v_pas,v_brk,v_cnt,v_for,v_whl,v_zipf,kZp,v_b0,v_b1,kVar,kGlb,kBin,kNeg,kNot,kCmp2,kCmp,kChn2,kChn,kIfe,kTup,kLst,kIdx,kSli2,kSli,kIsi,kMeth,kTru,tVar',tNotB,tCmp2,tCmp',tChn2,tChn,tIdx,tCal,tPri,tIsi,kBV,kBT,kCons,kArg,kOpt,kRngB,kSeq,kEn,kSub2,kSub,kGs,kNx,kAsg,kIfs,kRet,kExp,kB,kComp1,kEl1,kEl,kCd,Res.bind_ok,finF,Cn_call,Cn_glob,Cn_W]
  rw [prim_tuple_loc h2]
  simp [v_cst,v_var,v_glb,v_bin,v_neg,v_nott,v_bo,v_cmp,v_cmp2,v_ife,v_tup,v_lst,v_idx,v_sli,v_call,v_prim,v_isi,v_meth,v_comp,w_nott,w_bo,w_cmp,w_cmp2,w_var,w_idx,w_call,w_prim,w_isi,v_bv1,v_bv2,v_bt1,v_bt2,v_c0,v_c1,v_a0,v_a1,v_o0,v_o1,v_rng,v_rng2,v_seq,v_tvar,v_ttup,v_tsub,v_gs0,v_gs1,v_asg,v_ifs,v_ret,v_retN,v_exp,v_pas,v_brk,v_cnt,v_for,v_whl,v_zipf,kZp,v_b0,v_b1,kVar,kGlb,kBin,kNeg,kNot,kCmp2,kCmp,kChn2,kChn,kIfe,kTup,kLst,kIdx,kSli2,kSli,kIsi,kMeth,kTru,tVar',tNotB,tCmp2,tCmp',tChn2,tChn,tIdx,tCal,tPri,tIsi,kBV,kBT,kCons,kArg,kOpt,kRngB,kSeq,kEn,kSub2,kSub,kGs,kNx,kAsg,kIfs,kRet,kExp,kB,kComp1,kEl1,kEl,kCd,Res.bind_ok,finF,Cn_call,Cn_glob,Cn_W, Line]
  rw [hmk']
  simp [v_cst,v_var,v_glb,v_bin,v_neg,v_nott,v_bo,v_cmp,v_cmp2,v_ife,v_tup,v_lst,v_idx,v_sli,v_call,v_prim,v_isi,v_meth,v_comp,w_nott,w_bo,w_cmp,w_cmp2,w_var,w_idx,w_call,w_prim,w_isi,v_bv1,v_bv2,v_bt1,v_bt2,v_c0,v_c1,v_a0,v_a1,v_o0,v_o1,v_rng,v_rng2,v_seq,v_tvar,v_ttup,v_tsub,v_gs0,v_gs1,v_asg,v_ifs,v_ret,v_retN,v_exp,v_pas,v_brk,v_cnt,v_for,v_whl,v_zipf,kZp,v_b0,v_b1,kVar,kGlb,kBin,kNeg,kNot,kCmp2,kCmp,kChn2,kChn,kIfe,kTup,kLst,kIdx,kSli2,kSli,kIsi,kMeth,kTru,tVar',tNotB,tCmp2,tCmp',tChn2,tChn,tIdx,tCal,tPri,tIsi,kBV,kBT,kCons,kArg,kOpt,kRngB,kSeq,kEn,kSub2,kSub,kGs,kNx,kAsg,kIfs,kRet,kExp,kB,kComp1,kEl1,kEl,kCd,Res.bind_ok,finF,Cn_call,Cn_glob,Cn_W, tyD, isiD]
  rw [hlen3]
  simp [v_cst,v_var,v_glb,v_bin,v_neg,v_nott,v_bo,v_cmp,v_cmp2,v_ife,v_tup,v_lst,v_idx,v_sli,v_call,v_prim,v_isi,v_meth,v_comp,w_nott,w_bo,w_cmp,w_cmp2,w_var,w_idx,w_call,w_prim,w_isi,v_bv1,v_bv2,v_bt1,v_bt2,v_c0,v_c1,v_a0,v_a1,v_o0,v_o1,v_rng,v_rng2,v_seq,v_tvar,v_ttup,v_tsub,v_gs0,v_gs1,v_asg,v_ifs,v_ret,v_retN,v_exp,v_pas,v_brk,v_cnt,v_for,v_whl,v_zipf,kZp,v_b0,v_b1,kVar,kGlb,kBin,kNeg,kNot,kCmp2,kCmp,kChn2,kChn,kIfe,kTup,kLst,kIdx,kSli2,kSli,kIsi,kMeth,kTru,tVar',tNotB,tCmp2,tCmp',tChn2,tChn,tIdx,tCal,tPri,tIsi,kBV,kBT,kCons,kArg,kOpt,kRngB,kSeq,kEn,kSub2,kSub,kGs,kNx,kAsg,kIfs,kRet,kExp,kB,kComp1,kEl1,kEl,kCd,Res.bind_ok,finF,Cn_call,Cn_glob,Cn_W]
  rw [hmb]
  obtain ⟨L, hL⟩ : ∃ L : Int, (os.length : Int) = L := ⟨_, rfl⟩
  have hlen : primD .len [.loc lo] (S ++ [.lst ((List.range os.length).map (cD nb))]) = .ok (.int L) (S ++ [.lst ((List.range os.length).map (cD nb))]) := by
    rw [prim_len_loc (old_get h2), List.length_map, hL]
  simp [v_cst,v_var,v_glb,v_bin,v_neg,v_nott,v_bo,v_cmp,v_cmp2,v_ife,v_tup,v_lst,v_idx,v_sli,v_call,v_prim,v_isi,v_meth,v_comp,w_nott,w_bo,w_cmp,w_cmp2,w_var,w_idx,w_call,w_prim,w_isi,v_bv1,v_bv2,v_bt1,v_bt2,v_c0,v_c1,v_a0,v_a1,v_o0,v_o1,v_rng,v_rng2,v_seq,v_tvar,v_ttup,v_tsub,v_gs0,v_gs1,v_asg,v_ifs,v_ret,v_retN,v_exp,v_pas,v_brk,v_cnt,v_for,v_whl,v_zipf,kZp,v_b0,v_b1,kVar,kGlb,kBin,kNeg,kNot,kCmp2,kCmp,kChn2,kChn,kIfe,kTup,kLst,kIdx,kSli2,kSli,kIsi,kMeth,kTru,tVar',tNotB,tCmp2,tCmp',tChn2,tChn,tIdx,tCal,tPri,tIsi,kBV,kBT,kCons,kArg,kOpt,kRngB,kSeq,kEn,kSub2,kSub,kGs,kNx,kAsg,kIfs,kRet,kExp,kB,kComp1,kEl1,kEl,kCd,Res.bind_ok,finF,Cn_call,Cn_glob,Cn_W, hlen]
  rw [rng_len hL (by omega)]
  simp only [Res.bind_ok]
  rw [kComp_of (fun (i : Nat) => D.int i) (cD nb) (by simp; omega) (.inl rfl) fun i hi => (by simp [turnC_eq, v_cst,v_var,v_glb,v_bin,v_neg,v_nott,v_bo,v_cmp,v_cmp2,v_ife,v_tup,v_lst,v_idx,v_sli,v_call,v_prim,v_isi,v_meth,v_comp,w_nott,w_bo,w_cmp,w_cmp2,w_var,w_idx,w_call,w_prim,w_isi,v_bv1,v_bv2,v_bt1,v_bt2,v_c0,v_c1,v_a0,v_a1,v_o0,v_o1,v_rng,v_rng2,v_seq,v_tvar,v_ttup,v_tsub,v_gs0,v_gs1,v_asg,v_ifs,v_ret,v_retN,v_exp,v_pas,v_brk,v_cnt,v_for,v_whl,v_zipf,kZp,v_b0,v_b1,kVar,kGlb,kBin,kNeg,kNot,kCmp2,kCmp,kChn2,kChn,kIfe,kTup,kLst,kIdx,kSli2,kSli,kIsi,kMeth,kTru,tVar',tNotB,tCmp2,tCmp',tChn2,tChn,tIdx,tCal,tPri,tIsi,kBV,kBT,kCons,kArg,kOpt,kRngB,kSeq,kEn,kSub2,kSub,kGs,kNx,kAsg,kIfs,kRet,kExp,kB,kComp1,kEl1,kEl,kCd,Res.bind_ok,finF,Cn_call,Cn_glob,Cn_W, inEn, Line, cD])]
  simp [v_cst,v_var,v_glb,v_bin,v_neg,v_nott,v_bo,v_cmp,v_cmp2,v_ife,v_tup,v_lst,v_idx,v_sli,v_call,v_prim,v_isi,v_meth,v_comp,w_nott,w_bo,w_cmp,w_cmp2,w_var,w_idx,w_call,w_prim,w_isi,v_bv1,v_bv2,v_bt1,v_bt2,v_c0,v_c1,v_a0,v_a1,v_o0,v_o1,v_rng,v_rng2,v_seq,v_tvar,v_ttup,v_tsub,v_gs0,v_gs1,v_asg,v_ifs,v_ret,v_retN,v_exp,v_pas,v_brk,v_cnt,v_for,v_whl,v_zipf,kZp,v_b0,v_b1,kVar,kGlb,kBin,kNeg,kNot,kCmp2,kCmp,kChn2,kChn,kIfe,kTup,kLst,kIdx,kSli2,kSli,kIsi,kMeth,kTru,tVar',tNotB,tCmp2,tCmp',tChn2,tChn,tIdx,tCal,tPri,tIsi,kBV,kBT,kCons,kArg,kOpt,kRngB,kSeq,kEn,kSub2,kSub,kGs,kNx,kAsg,kIfs,kRet,kExp,kB,kComp1,kEl1,kEl,kCd,Res.bind_ok,finF,Cn_call,Cn_glob,Cn_W]
  (first | (with_reducible refine Sat.p14 (hco S.length (S.length + 1) (S ++ [.lst ((List.range os.length).map (cD nb)), .lst ((List.range os.length).map (cD nb))]) app_get0 app_get1) ?_) | (with_reducible refine Sat.p13 (hco S.length (S.length + 1) (S ++ [.lst ((List.range os.length).map (cD nb)), .lst ((List.range os.length).map (cD nb))]) app_get0 app_get1) ?_) | (with_reducible refine Sat.p12 (hco S.length (S.length + 1) (S ++ [.lst ((List.range os.length).map (cD nb)), .lst ((List.range os.length).map (cD nb))]) app_get0 app_get1) ?_) | (with_reducible refine Sat.p11 (hco S.length (S.length + 1) (S ++ [.lst ((List.range os.length).map (cD nb)), .lst ((List.range os.length).map (cD nb))]) app_get0 app_get1) ?_) | (with_reducible refine Sat.p10 (hco S.length (S.length + 1) (S ++ [.lst ((List.range os.length).map (cD nb)), .lst ((List.range os.length).map (cD nb))]) app_get0 app_get1) ?_) | (with_reducible refine Sat.p9 (hco S.length (S.length + 1) (S ++ [.lst ((List.range os.length).map (cD nb)), .lst ((List.range os.length).map (cD nb))]) app_get0 app_get1) ?_) | (with_reducible refine Sat.p8 (hco S.length (S.length + 1) (S ++ [.lst ((List.range os.length).map (cD nb)), .lst ((List.range os.length).map (cD nb))]) app_get0 app_get1) ?_) | (with_reducible refine Sat.p7 (hco S.length (S.length + 1) (S ++ [.lst ((List.range os.length).map (cD nb)), .lst ((List.range os.length).map (cD nb))]) app_get0 app_get1) ?_) | (with_reducible refine Sat.p6 (hco S.length (S.length + 1) (S ++ [.lst ((List.range os.length).map (cD nb)), .lst ((List.range os.length).map (cD nb))]) app_get0 app_get1) ?_) | (with_reducible refine Sat.p5 (hco S.length (S.length + 1) (S ++ [.lst ((List.range os.length).map (cD nb)), .lst ((List.range os.length).map (cD nb))]) app_get0 app_get1) ?_) | (with_reducible refine Sat.p4 (hco S.length (S.length + 1) (S ++ [.lst ((List.range os.length).map (cD nb)), .lst ((List.range os.length).map (cD nb))]) app_get0 app_get1) ?_) | (with_reducible refine Sat.p3 (hco S.length (S.length + 1) (S ++ [.lst ((List.range os.length).map (cD nb)), .lst ((List.range os.length).map (cD nb))]) app_get0 app_get1) ?_) | (with_reducible refine Sat.p2 (hco S.length (S.length + 1) (S ++ [.lst ((List.range os.length).map (cD nb)), .lst ((List.range os.length).map (cD nb))]) app_get0 app_get1) ?_) | (with_reducible refine Sat.p1 (hco S.length (S.length + 1) (S ++ [.lst ((List.range os.length).map (cD nb)), .lst ((List.range os.length).map (cD nb))]) app_get0 app_get1) ?_) | (with_reducible refine Sat.p0 (hco S.length (S.length + 1) (S ++ [.lst ((List.range os.length).map (cD nb)), .lst ((List.range os.length).map (cD nb))]) app_get0 app_get1) ?_))
  rintro _ S1 ⟨rfl, eS1⟩
  have h2' : S1[lo]? = some (.lst (os.map oD)) := by rw [eS1]; exact old_get h2
  clear eS1 hlen
  simp [v_cst,v_var,v_glb,v_bin,v_neg,v_nott,v_bo,v_cmp,v_cmp2,v_ife,v_tup,v_lst,v_idx,v_sli,v_call,v_prim,v_isi,v_meth,v_comp,w_nott,w_bo,w_cmp,w_cmp2,w_var,w_idx,w_call,w_prim,w_isi,v_bv1,v_bv2,v_bt1,v_bt2,v_c0,v_c1,v_a0,v_a1,v_o0,v_o1,v_rng,v_rng2,v_seq,v_tvar,v_ttup,v_tsub,v_gs0,v_gs1,v_asg,v_ifs,v_ret,v_retN,v_exp,v_pas,v_brk,v_cnt,v_for,v_whl,v_zipf,kZp,v_b0,v_b1,kVar,kGlb,kBin,kNeg,kNot,kCmp2,kCmp,kChn2,kChn,kIfe,kTup,kLst,kIdx,kSli2,kSli,kIsi,kMeth,kTru,tVar',tNotB,tCmp2,tCmp',tChn2,tChn,tIdx,tCal,tPri,tIsi,kBV,kBT,kCons,kArg,kOpt,kRngB,kSeq,kEn,kSub2,kSub,kGs,kNx,kAsg,kIfs,kRet,kExp,kB,kComp1,kEl1,kEl,kCd,Res.bind_ok,finF,Cn_call,Cn_glob,Cn_W, seqAt, h2']
  (first | (with_reducible refine Sat.p14 (loopS (ITot sc kk ls nb lo li (.tup [.int nb, .tup is, .tup (os.map oD)]) os S1) noB noR ?_ ?_ ?_) ?_) | (with_reducible refine Sat.p13 (loopS (ITot sc kk ls nb lo li (.tup [.int nb, .tup is, .tup (os.map oD)]) os S1) noB noR ?_ ?_ ?_) ?_) | (with_reducible refine Sat.p12 (loopS (ITot sc kk ls nb lo li (.tup [.int nb, .tup is, .tup (os.map oD)]) os S1) noB noR ?_ ?_ ?_) ?_) | (with_reducible refine Sat.p11 (loopS (ITot sc kk ls nb lo li (.tup [.int nb, .tup is, .tup (os.map oD)]) os S1) noB noR ?_ ?_ ?_) ?_) | (with_reducible refine Sat.p10 (loopS (ITot sc kk ls nb lo li (.tup [.int nb, .tup is, .tup (os.map oD)]) os S1) noB noR ?_ ?_ ?_) ?_) | (with_reducible refine Sat.p9 (loopS (ITot sc kk ls nb lo li (.tup [.int nb, .tup is, .tup (os.map oD)]) os S1) noB noR ?_ ?_ ?_) ?_) | (with_reducible refine Sat.p8 (loopS (ITot sc kk ls nb lo li (.tup [.int nb, .tup is, .tup (os.map oD)]) os S1) noB noR ?_ ?_ ?_) ?_) | (with_reducible refine Sat.p7 (loopS (ITot sc kk ls nb lo li (.tup [.int nb, .tup is, .tup (os.map oD)]) os S1) noB noR ?_ ?_ ?_) ?_) | (with_reducible refine Sat.p6 (loopS (ITot sc kk ls nb lo li (.tup [.int nb, .tup is, .tup (os.map oD)]) os S1) noB noR ?_ ?_ ?_) ?_) | (with_reducible refine Sat.p5 (loopS (ITot sc kk ls nb lo li (.tup [.int nb, .tup is, .tup (os.map oD)]) os S1) noB noR ?_ ?_ ?_) ?_) | (with_reducible refine Sat.p4 (loopS (ITot sc kk ls nb lo li (.tup [.int nb, .tup is, .tup (os.map oD)]) os S1) noB noR ?_ ?_ ?_) ?_) | (with_reducible refine Sat.p3 (loopS (ITot sc kk ls nb lo li (.tup [.int nb, .tup is, .tup (os.map oD)]) os S1) noB noR ?_ ?_ ?_) ?_) | (with_reducible refine Sat.p2 (loopS (ITot sc kk ls nb lo li (.tup [.int nb, .tup is, .tup (os.map oD)]) os S1) noB noR ?_ ?_ ?_) ?_) | (with_reducible refine Sat.p1 (loopS (ITot sc kk ls nb lo li (.tup [.int nb, .tup is, .tup (os.map oD)]) os S1) noB noR ?_ ?_ ?_) ?_) | (with_reducible refine Sat.p0 (loopS (ITot sc kk ls nb lo li (.tup [.int nb, .tup is, .tup (os.map oD)]) os S1) noB noR ?_ ?_ ?_) ?_))
  · exact ⟨_, _, _, _, rfl, rfl⟩
  · rintro i τ S2 ⟨q5, q6, q9, q11, rfl, rfl⟩
    exact h2'
  · rintro i d τ S2 hd ⟨q5, q6, q9, q11, rfl, rfl⟩
    rw [List.getElem?_map] at hd
    obtain ⟨o, hoi, rfl⟩ := Option.map_eq_some_iff.mp hd
    have hsum : tot os (i + 1) = tot os i + o.1 := by
      unfold tot
      rw [List.take_add_one, hoi]
      simp
    rw [turnF_eq]
    simp [v_cst,v_var,v_glb,v_bin,v_neg,v_nott,v_bo,v_cmp,v_cmp2,v_ife,v_tup,v_lst,v_idx,v_sli,v_call,v_prim,v_isi,v_meth,v_comp,w_nott,w_bo,w_cmp,w_cmp2,w_var,w_idx,w_call,w_prim,w_isi,v_bv1,v_bv2,v_bt1,v_bt2,v_c0,v_c1,v_a0,v_a1,v_o0,v_o1,v_rng,v_rng2,v_seq,v_tvar,v_ttup,v_tsub,v_gs0,v_gs1,v_asg,v_ifs,v_ret,v_retN,v_exp,v_pas,v_brk,v_cnt,v_for,v_whl,v_zipf,kZp,v_b0,v_b1,kVar,kGlb,kBin,kNeg,kNot,kCmp2,kCmp,kChn2,kChn,kIfe,kTup,kLst,kIdx,kSli2,kSli,kIsi,kMeth,kTru,tVar',tNotB,tCmp2,tCmp',tChn2,tChn,tIdx,tCal,tPri,tIsi,kBV,kBT,kCons,kArg,kOpt,kRngB,kSeq,kEn,kSub2,kSub,kGs,kNx,kAsg,kIfs,kRet,kExp,kB,kComp1,kEl1,kEl,kCd,Res.bind_ok,finF,Cn_call,Cn_glob,Cn_W, oD]
    exact ⟨q5, some o.2, q9, some (.int o.1), by rw [hsum], rfl⟩
  · intro fl S2 q
    obtain ⟨_, rfl, q5, q6, q9, q11, rfl, rfl⟩ := q.nx
    have ht : tot os (os.map oD).length = (os.map (·.1)).sum := by unfold tot; rw [List.length_map, List.take_length]
    rw [ht]
    generalize hsm : (os.map (·.1)).sum = sm at hwo ⊢
    simp [v_cst,v_var,v_glb,v_bin,v_neg,v_nott,v_bo,v_cmp,v_cmp2,v_ife,v_tup,v_lst,v_idx,v_sli,v_call,v_prim,v_isi,v_meth,v_comp,w_nott,w_bo,w_cmp,w_cmp2,w_var,w_idx,w_call,w_prim,w_isi,v_bv1,v_bv2,v_bt1,v_bt2,v_c0,v_c1,v_a0,v_a1,v_o0,v_o1,v_rng,v_rng2,v_seq,v_tvar,v_ttup,v_tsub,v_gs0,v_gs1,v_asg,v_ifs,v_ret,v_retN,v_exp,v_pas,v_brk,v_cnt,v_for,v_whl,v_zipf,kZp,v_b0,v_b1,kVar,kGlb,kBin,kNeg,kNot,kCmp2,kCmp,kChn2,kChn,kIfe,kTup,kLst,kIdx,kSli2,kSli,kIsi,kMeth,kTru,tVar',tNotB,tCmp2,tCmp',tChn2,tChn,tIdx,tCal,tPri,tIsi,kBV,kBT,kCons,kArg,kOpt,kRngB,kSeq,kEn,kSub2,kSub,kGs,kNx,kAsg,kIfs,kRet,kExp,kB,kComp1,kEl1,kEl,kCd,Res.bind_ok,finF,Cn_call,Cn_glob,Cn_W, hwo, hwh]
    exact ⟨_, _, _, _, _, _, _, _, _, _, _, rfl⟩
theorem law_turn (ns : List Int) (k : Int) (hk : 0 ≤ k) (S : Store) (p2 p3 p4 p5 p6 p7 p8 p9 p10 p11 : Option D) :
    Sat (evB (Cn T G 100 29) lawB [some (.kl (ns.map D.int)), some (.int k), p2, p3, p4, p5, p6, p7, p8, p9, p10, p11] S) (FlP (ILaw (.kl (ns.map D.int))) noB noR) := by
  have hout := out_turn 27
  have hins := ins_turn 27
  simp only [outB, insB, lawB, f_law, dropS] at hout hins
  simp only [lawB, f_law, dropS]
  simp [v_cst,v_var,v_glb,v_bin,v_neg,v_nott,v_bo,v_cmp,v_cmp2,v_ife,v_tup,v_lst,v_idx,v_sli,v_call,v_prim,v_isi,v_meth,v_comp,w_nott,w_bo,w_cmp,w_cmp2,w_var,w_idx,w_call,w_prim,w_isi,v_bv1,v_bv2,v_bt1,v_bt2,v_c0,v_c1,v_a0,v_a1,v_o0,v_o1,v_rng,v_rng2,v_seq,v_tvar,v_ttup,v_tsub,v_gs0,v_gs1,v_asg,v_ifs,v_ret,v_retN,v_exp,v_pas,v_brk,v_cnt,v_for,v_whl,v_zipf,kZp,v_b0,v_b1,kVar,kGlb,kBin,kNeg,kNot,kCmp2,kCmp,kChn2,kChn,kIfe,kTup,kLst,kIdx,kSli2,kSli,kIsi,kMeth,kTru,tVar',tNotB,tCmp2,tCmp',tChn2,tChn,tIdx,tCal,tPri,tIsi,kBV,kBT,kCons,kArg,kOpt,kRngB,kSeq,kEn,kSub2,kSub,kGs,kNx,kAsg,kIfs,kRet,kExp,kB,kComp1,kEl1,kEl,kCd,Res.bind_ok,finF,Cn_call,Cn_glob,Cn_W]
  (first | (with_reducible refine Sat.p14 (begin_ 28 ns k hk S) ?_) | (with_reducible refine Sat.p13 (begin_ 28 ns k hk S) ?_) | (with_reducible refine Sat.p12 (begin_ 28 ns k hk S) ?_) | (with_reducible refine Sat.p11 (begin_ 28 ns k hk S) ?_) | (with_reducible refine Sat.p10 (begin_ 28 ns k hk S) ?_) | (with_reducible refine Sat.p9 (begin_ 28 ns k hk S) ?_) | (with_reducible refine Sat.p8 (begin_ 28 ns k hk S) ?_) | (with_reducible refine Sat.p7 (begin_ 28 ns k hk S) ?_) | (with_reducible refine Sat.p6 (begin_ 28 ns k hk S) ?_) | (with_reducible refine Sat.p5 (begin_ 28 ns k hk S) ?_) | (with_reducible refine Sat.p4 (begin_ 28 ns k hk S) ?_) | (with_reducible refine Sat.p3 (begin_ 28 ns k hk S) ?_) | (with_reducible refine Sat.p2 (begin_ 28 ns k hk S) ?_) | (with_reducible refine Sat.p1 (begin_ 28 ns k hk S) ?_) | (with_reducible refine Sat.p0 (begin_ 28 ns k hk S) ?_))
  rintro _ S1 ⟨ls, a, b, rfl, -, h1, x1⟩
  simp [v_cst,v_var,v_glb,v_bin,v_neg,v_nott,v_bo,v_cmp,v_cmp2,v_ife,v_tup,v_lst,v_idx,v_sli,v_call,v_prim,v_isi,v_meth,v_comp,w_nott,w_bo,w_cmp,w_cmp2,w_var,w_idx,w_call,w_prim,w_isi,v_bv1,v_bv2,v_bt1,v_bt2,v_c0,v_c1,v_a0,v_a1,v_o0,v_o1,v_rng,v_rng2,v_seq,v_tvar,v_ttup,v_tsub,v_gs0,v_gs1,v_asg,v_ifs,v_ret,v_retN,v_exp,v_pas,v_brk,v_cnt,v_for,v_whl,v_zipf,kZp,v_b0,v_b1,kVar,kGlb,kBin,kNeg,kNot,kCmp2,kCmp,kChn2,kChn,kIfe,kTup,kLst,kIdx,kSli2,kSli,kIsi,kMeth,kTru,tVar',tNotB,tCmp2,tCmp',tChn2,tChn,tIdx,tCal,tPri,tIsi,kBV,kBT,kCons,kArg,kOpt,kRngB,kSeq,kEn,kSub2,kSub,kGs,kNx,kAsg,kIfs,kRet,kExp,kB,kComp1,kEl1,kEl,kCd,Res.bind_ok,finF,Cn_call,Cn_glob,Cn_W, bop_pow_int]
  (first | (with_reducible refine Sat.p14 (big 27 ls a b 1000000000000000000000000000000 S1 h1 (by decide)) ?_) | (with_reducible refine Sat.p13 (big 27 ls a b 1000000000000000000000000000000 S1 h1 (by decide)) ?_) | (with_reducible refine Sat.p12 (big 27 ls a b 1000000000000000000000000000000 S1 h1 (by decide)) ?_) | (with_reducible refine Sat.p11 (big 27 ls a b 1000000000000000000000000000000 S1 h1 (by decide)) ?_) | (with_reducible refine Sat.p10 (big 27 ls a b 1000000000000000000000000000000 S1 h1 (by decide)) ?_) | (with_reducible refine Sat.p9 (big 27 ls a b 1000000000000000000000000000000 S1 h1 (by decide)) ?_) | (with_reducible refine Sat.p8 (big 27 ls a b 1000000000000000000000000000000 S1 h1 (by decide)) ?_) | (with_reducible refine Sat.p7 (big 27 ls a b 1000000000000000000000000000000 S1 h1 (by decide)) ?_) | (with_reducible refine Sat.p6 (big 27 ls a b 1000000000000000000000000000000 S1 h1 (by decide)) ?_) | (with_reducible refine Sat.p5 (big 27 ls a b 1000000000000000000000000000000 S1 h1 (by decide)) ?_) | (with_reducible refine Sat.p4 (big 27 ls a b 1000000000000000000000000000000 S1 h1 (by decide)) ?_) | (with_reducible refine Sat.p3 (big 27 ls a b 1000000000000000000000000000000 S1 h1 (by decide)) ?_) | (with_reducible refine Sat.p2 (big 27 ls a b 1000000000000000000000000000000 S1 h1 (by decide)) ?_) | (with_reducible refine Sat.p1 (big 27 ls a b 1000000000000000000000000000000 S1 h1 (by decide)) ?_) | (with_reducible refine Sat.p0 (big 27 ls a b 1000000000000000000000000000000 S1 h1 (by decide)) ?_))
  rintro _ S2 ⟨w, a1, b1, rfl, -, -, rfl⟩
  have g1 : (S1.set ls (st a1 b1))[ls]? = some (st a1 b1) := set_get h1
  generalize S1.set ls (st a1 b1) = S2 at g1 ⊢
  generalize hnb : 1 + w = nb
  simp [v_cst,v_var,v_glb,v_bin,v_neg,v_nott,v_bo,v_cmp,v_cmp2,v_ife,v_tup,v_lst,v_idx,v_sli,v_call,v_prim,v_isi,v_meth,v_comp,w_nott,w_bo,w_cmp,w_cmp2,w_var,w_idx,w_call,w_prim,w_isi,v_bv1,v_bv2,v_bt1,v_bt2,v_c0,v_c1,v_a0,v_a1,v_o0,v_o1,v_rng,v_rng2,v_seq,v_tvar,v_ttup,v_tsub,v_gs0,v_gs1,v_asg,v_ifs,v_ret,v_retN,v_exp,v_pas,v_brk,v_cnt,v_for,v_whl,v_zipf,kZp,v_b0,v_b1,kVar,kGlb,kBin,kNeg,kNot,kCmp2,kCmp,kChn2,kChn,kIfe,kTup,kLst,kIdx,kSli2,kSli,kIsi,kMeth,kTru,tVar',tNotB,tCmp2,tCmp',tChn2,tChn,tIdx,tCal,tPri,tIsi,kBV,kBT,kCons,kArg,kOpt,kRngB,kSeq,kEn,kSub2,kSub,kGs,kNx,kAsg,kIfs,kRet,kExp,kB,kComp1,kEl1,kEl,kCd,Res.bind_ok,finF,Cn_call,Cn_glob,Cn_W, Line, hnb]
  have lt1 := get_lt g1
  (first | (with_reducible refine Sat.p14 (pick 28 ls a1 b1 8 _ (old_get g1) (by decide) (by decide)) ?_) | (with_reducible refine Sat.p13 (pick 28 ls a1 b1 8 _ (old_get g1) (by decide) (by decide)) ?_) | (with_reducible refine Sat.p12 (pick 28 ls a1 b1 8 _ (old_get g1) (by decide) (by decide)) ?_) | (with_reducible refine Sat.p11 (pick 28 ls a1 b1 8 _ (old_get g1) (by decide) (by decide)) ?_) | (with_reducible refine Sat.p10 (pick 28 ls a1 b1 8 _ (old_get g1) (by decide) (by decide)) ?_) | (with_reducible refine Sat.p9 (pick 28 ls a1 b1 8 _ (old_get g1) (by decide) (by decide)) ?_) | (with_reducible refine Sat.p8 (pick 28 ls a1 b1 8 _ (old_get g1) (by decide) (by decide)) ?_) | (with_reducible refine Sat.p7 (pick 28 ls a1 b1 8 _ (old_get g1) (by decide) (by decide)) ?_) | (with_reducible refine Sat.p6 (pick 28 ls a1 b1 8 _ (old_get g1) (by decide) (by decide)) ?_) | (with_reducible refine Sat.p5 (pick 28 ls a1 b1 8 _ (old_get g1) (by decide) (by decide)) ?_) | (with_reducible refine Sat.p4 (pick 28 ls a1 b1 8 _ (old_get g1) (by decide) (by decide)) ?_) | (with_reducible refine Sat.p3 (pick 28 ls a1 b1 8 _ (old_get g1) (by decide) (by decide)) ?_) | (with_reducible refine Sat.p2 (pick 28 ls a1 b1 8 _ (old_get g1) (by decide) (by decide)) ?_) | (with_reducible refine Sat.p1 (pick 28 ls a1 b1 8 _ (old_get g1) (by decide) (by decide)) ?_) | (with_reducible refine Sat.p0 (pick 28 ls a1 b1 8 _ (old_get g1) (by decide) (by decide)) ?_))
  rintro _ S3 ⟨r, a2, b2, rfl, r0, r1, rfl⟩
  simp only [v_cst,v_var,v_glb,v_bin,v_neg,v_nott,v_bo,v_cmp,v_cmp2,v_ife,v_tup,v_lst,v_idx,v_sli,v_call,v_prim,v_isi,v_meth,v_comp,w_nott,w_bo,w_cmp,w_cmp2,w_var,w_idx,w_call,w_prim,w_isi,v_bv1,v_bv2,v_bt1,v_bt2,v_c0,v_c1,v_a0,v_a1,v_o0,v_o1,v_rng,v_rng2,v_seq,v_tvar,v_ttup,v_tsub,v_gs0,v_gs1,v_asg,v_ifs,v_ret,v_retN,v_exp,v_pas,v_brk,v_cnt,v_for,v_whl,v_zipf,kZp,v_b0,v_b1,kVar,kGlb,kBin,kNeg,kNot,kCmp2,kCmp,kChn2,kChn,kIfe,kTup,kLst,kIdx,kSli2,kSli,kIsi,kMeth,kTru,tVar',tNotB,tCmp2,tCmp',tChn2,tChn,tIdx,tCal,tPri,tIsi,kBV,kBT,kCons,kArg,kOpt,kRngB,kSeq,kEn,kSub2,kSub,kGs,kNx,kAsg,kIfs,kRet,kExp,kB,kComp1,kEl1,kEl,kCd,Res.bind_ok,finF,Cn_call,Cn_glob,Cn_W]
  have k1 : ((S2 ++ [Mi.Obj.lst []]).set ls (st a2 b2))[ls]? = some (st a2 b2) := set_get (old_get g1)
  have k2 : ((S2 ++ [Mi.Obj.lst []]).set ls (st a2 b2))[S2.length]? = some (.lst []) := by rw [List.getElem?_set_ne (by omega)]; exact new_get
  generalize (S2 ++ [Mi.Obj.lst []]).set ls (st a2 b2) = S3 at k1 k2 ⊢
  generalize hlo : S2.length = lo at k2 ⊢
  simp [v_cst,v_var,v_glb,v_bin,v_neg,v_nott,v_bo,v_cmp,v_cmp2,v_ife,v_tup,v_lst,v_idx,v_sli,v_call,v_prim,v_isi,v_meth,v_comp,w_nott,w_bo,w_cmp,w_cmp2,w_var,w_idx,w_call,w_prim,w_isi,v_bv1,v_bv2,v_bt1,v_bt2,v_c0,v_c1,v_a0,v_a1,v_o0,v_o1,v_rng,v_rng2,v_seq,v_tvar,v_ttup,v_tsub,v_gs0,v_gs1,v_asg,v_ifs,v_ret,v_retN,v_exp,v_pas,v_brk,v_cnt,v_for,v_whl,v_zipf,kZp,v_b0,v_b1,kVar,kGlb,kBin,kNeg,kNot,kCmp2,kCmp,kChn2,kChn,kIfe,kTup,kLst,kIdx,kSli2,kSli,kIsi,kMeth,kTru,tVar',tNotB,tCmp2,tCmp',tChn2,tChn,tIdx,tCal,tPri,tIsi,kBV,kBT,kCons,kArg,kOpt,kRngB,kSeq,kEn,kSub2,kSub,kGs,kNx,kAsg,kIfs,kRet,kExp,kB,kComp1,kEl1,kEl,kCd,Res.bind_ok,finF,Cn_call,Cn_glob,Cn_W]
  rw [kRng_of (by omega) (by omega)]
  simp only [Res.bind_ok]
  (first | (with_reducible refine Sat.p14 (loop (IOut (.kl (ns.map D.int)) (.int k) nb ls lo) noB noR ?_ ?_) ?_) | (with_reducible refine Sat.p13 (loop (IOut (.kl (ns.map D.int)) (.int k) nb ls lo) noB noR ?_ ?_) ?_) | (with_reducible refine Sat.p12 (loop (IOut (.kl (ns.map D.int)) (.int k) nb ls lo) noB noR ?_ ?_) ?_) | (with_reducible refine Sat.p11 (loop (IOut (.kl (ns.map D.int)) (.int k) nb ls lo) noB noR ?_ ?_) ?_) | (with_reducible refine Sat.p10 (loop (IOut (.kl (ns.map D.int)) (.int k) nb ls lo) noB noR ?_ ?_) ?_) | (with_reducible refine Sat.p9 (loop (IOut (.kl (ns.map D.int)) (.int k) nb ls lo) noB noR ?_ ?_) ?_) | (with_reducible refine Sat.p8 (loop (IOut (.kl (ns.map D.int)) (.int k) nb ls lo) noB noR ?_ ?_) ?_) | (with_reducible refine Sat.p7 (loop (IOut (.kl (ns.map D.int)) (.int k) nb ls lo) noB noR ?_ ?_) ?_) | (with_reducible refine Sat.p6 (loop (IOut (.kl (ns.map D.int)) (.int k) nb ls lo) noB noR ?_ ?_) ?_) | (with_reducible refine Sat.p5 (loop (IOut (.kl (ns.map D.int)) (.int k) nb ls lo) noB noR ?_ ?_) ?_) | (with_reducible refine Sat.p4 (loop (IOut (.kl (ns.map D.int)) (.int k) nb ls lo) noB noR ?_ ?_) ?_) | (with_reducible refine Sat.p3 (loop (IOut (.kl (ns.map D.int)) (.int k) nb ls lo) noB noR ?_ ?_) ?_) | (with_reducible refine Sat.p2 (loop (IOut (.kl (ns.map D.int)) (.int k) nb ls lo) noB noR ?_ ?_) ?_) | (with_reducible refine Sat.p1 (loop (IOut (.kl (ns.map D.int)) (.int k) nb ls lo) noB noR ?_ ?_) ?_) | (with_reducible refine Sat.p0 (loop (IOut (.kl (ns.map D.int)) (.int k) nb ls lo) noB noR ?_ ?_) ?_))
  · exact ⟨a2, b2, [], _, _, _, _, _, _, _, rfl, k1, k2, rfl, by omega⟩
  · rintro i d τ S4 hd ⟨a, b, os, q5, q6, q7, q8, q9, q10, q11, rfl, h1, h2, hl, hne⟩
    have hi : i < 50 := by
      have := (List.getElem?_eq_some_iff.mp hd).1
      simp at this
      omega
    rw [turnF_eq]
    simp only [v_tvar]
    exact hout (.kl (ns.map D.int)) (.int k) nb ls lo i hi a b os (some d) q6 q7 q8 q9 q10 q11 S4 h1 h2 hl hne
  · intro fl S4 q
    obtain ⟨_, rfl, a, b, os, q5, q6, q7, q8, q9, q10, q11, rfl, h1, h2, hl, hne⟩ := q.nx
    have hos : os.length ≤ 60 := by simp at hl; omega
    have l1 := get_lt h1
    have l2 := get_lt h2
    simp [v_cst,v_var,v_glb,v_bin,v_neg,v_nott,v_bo,v_cmp,v_cmp2,v_ife,v_tup,v_lst,v_idx,v_sli,v_call,v_prim,v_isi,v_meth,v_comp,w_nott,w_bo,w_cmp,w_cmp2,w_var,w_idx,w_call,w_prim,w_isi,v_bv1,v_bv2,v_bt1,v_bt2,v_c0,v_c1,v_a0,v_a1,v_o0,v_o1,v_rng,v_rng2,v_seq,v_tvar,v_ttup,v_tsub,v_gs0,v_gs1,v_asg,v_ifs,v_ret,v_retN,v_exp,v_pas,v_brk,v_cnt,v_for,v_whl,v_zipf,kZp,v_b0,v_b1,kVar,kGlb,kBin,kNeg,kNot,kCmp2,kCmp,kChn2,kChn,kIfe,kTup,kLst,kIdx,kSli2,kSli,kIsi,kMeth,kTru,tVar',tNotB,tCmp2,tCmp',tChn2,tChn,tIdx,tCal,tPri,tIsi,kBV,kBT,kCons,kArg,kOpt,kRngB,kSeq,kEn,kSub2,kSub,kGs,kNx,kAsg,kIfs,kRet,kExp,kB,kComp1,kEl1,kEl,kCd,Res.bind_ok,finF,Cn_call,Cn_glob,Cn_W, Line]
    (first | (with_reducible refine Sat.p14 (pick 28 ls a b 5 _ (old_get h1) (by decide) (by decide)) ?_) | (with_reducible refine Sat.p13 (pick 28 ls a b 5 _ (old_get h1) (by decide) (by decide)) ?_) | (with_reducible refine Sat.p12 (pick 28 ls a b 5 _ (old_get h1) (by decide) (by decide)) ?_) | (with_reducible refine Sat.p11 (pick 28 ls a b 5 _ (old_get h1) (by decide) (by decide)) ?_) | (with_reducible refine Sat.p10 (pick 28 ls a b 5 _ (old_get h1) (by decide) (by decide)) ?_) | (with_reducible refine Sat.p9 (pick 28 ls a b 5 _ (old_get h1) (by decide) (by decide)) ?_) | (with_reducible refine Sat.p8 (pick 28 ls a b 5 _ (old_get h1) (by decide) (by decide)) ?_) | (with_reducible refine Sat.p7 (pick 28 ls a b 5 _ (old_get h1) (by decide) (by decide)) ?_) | (with_reducible refine Sat.p6 (pick 28 ls a b 5 _ (old_get h1) (by decide) (by decide)) ?_) | (with_reducible refine Sat.p5 (pick 28 ls a b 5 _ (old_get h1) (by decide) (by decide)) ?_) | (with_reducible refine Sat.p4 (pick 28 ls a b 5 _ (old_get h1) (by decide) (by decide)) ?_) | (with_reducible refine Sat.p3 (pick 28 ls a b 5 _ (old_get h1) (by decide) (by decide)) ?_) | (with_reducible refine Sat.p2 (pick 28 ls a b 5 _ (old_get h1) (by decide) (by decide)) ?_) | (with_reducible refine Sat.p1 (pick 28 ls a b 5 _ (old_get h1) (by decide) (by decide)) ?_) | (with_reducible refine Sat.p0 (pick 28 ls a b 5 _ (old_get h1) (by decide) (by decide)) ?_))
    rintro _ S5 ⟨r', a3, b3, rfl, r0', r1', rfl⟩
    simp only [v_cst,v_var,v_glb,v_bin,v_neg,v_nott,v_bo,v_cmp,v_cmp2,v_ife,v_tup,v_lst,v_idx,v_sli,v_call,v_prim,v_isi,v_meth,v_comp,w_nott,w_bo,w_cmp,w_cmp2,w_var,w_idx,w_call,w_prim,w_isi,v_bv1,v_bv2,v_bt1,v_bt2,v_c0,v_c1,v_a0,v_a1,v_o0,v_o1,v_rng,v_rng2,v_seq,v_tvar,v_ttup,v_tsub,v_gs0,v_gs1,v_asg,v_ifs,v_ret,v_retN,v_exp,v_pas,v_brk,v_cnt,v_for,v_whl,v_zipf,kZp,v_b0,v_b1,kVar,kGlb,kBin,kNeg,kNot,kCmp2,kCmp,kChn2,kChn,kIfe,kTup,kLst,kIdx,kSli2,kSli,kIsi,kMeth,kTru,tVar',tNotB,tCmp2,tCmp',tChn2,tChn,tIdx,tCal,tPri,tIsi,kBV,kBT,kCons,kArg,kOpt,kRngB,kSeq,kEn,kSub2,kSub,kGs,kNx,kAsg,kIfs,kRet,kExp,kB,kComp1,kEl1,kEl,kCd,Res.bind_ok,finF,Cn_call,Cn_glob,Cn_W]
    have j1 : ((S4 ++ [Mi.Obj.lst [], Mi.Obj.lst [D.int 0, D.int 0, D.int 1, D.int 3, D.int 8]]).set ls (st a3 b3))[ls]? = some (st a3 b3) := set_get (old_get h1)
    have j2 : ((S4 ++ [Mi.Obj.lst [], Mi.Obj.lst [D.int 0, D.int 0, D.int 1, D.int 3, D.int 8]]).set ls (st a3 b3))[lo]? = some (.lst (os.map oD)) := by rw [List.getElem?_set_ne hne]; exact old_get h2
    have j3 : ((S4 ++ [Mi.Obj.lst [], Mi.Obj.lst [D.int 0, D.int 0, D.int 1, D.int 3, D.int 8]]).set ls (st a3 b3))[S4.length]? = some (.lst []) := by rw [List.getElem?_set_ne (by omega)]; exact app_get0
    have j4 : ((S4 ++ [Mi.Obj.lst [], Mi.Obj.lst [D.int 0, D.int 0, D.int 1, D.int 3, D.int 8]]).set ls (st a3 b3))[S4.length + 1]? = some (.lst [D.int 0, D.int 0, D.int 1, D.int 3, D.int 8]) := by rw [List.getElem?_set_ne (by omega)]; exact app_get1
    generalize (S4 ++ [Mi.Obj.lst [], Mi.Obj.lst [D.int 0, D.int 0, D.int 1, D.int 3, D.int 8]]).set ls (st a3 b3) = S5 at j1 j2 j3 j4 ⊢
    (first | (with_reducible refine Sat.p14 (sat_idx_loc j4 r0' (by simp; omega)) ?_) | (with_reducible refine Sat.p13 (sat_idx_loc j4 r0' (by simp; omega)) ?_) | (with_reducible refine Sat.p12 (sat_idx_loc j4 r0' (by simp; omega)) ?_) | (with_reducible refine Sat.p11 (sat_idx_loc j4 r0' (by simp; omega)) ?_) | (with_reducible refine Sat.p10 (sat_idx_loc j4 r0' (by simp; omega)) ?_) | (with_reducible refine Sat.p9 (sat_idx_loc j4 r0' (by simp; omega)) ?_) | (with_reducible refine Sat.p8 (sat_idx_loc j4 r0' (by simp; omega)) ?_) | (with_reducible refine Sat.p7 (sat_idx_loc j4 r0' (by simp; omega)) ?_) | (with_reducible refine Sat.p6 (sat_idx_loc j4 r0' (by simp; omega)) ?_) | (with_reducible refine Sat.p5 (sat_idx_loc j4 r0' (by simp; omega)) ?_) | (with_reducible refine Sat.p4 (sat_idx_loc j4 r0' (by simp; omega)) ?_) | (with_reducible refine Sat.p3 (sat_idx_loc j4 r0' (by simp; omega)) ?_) | (with_reducible refine Sat.p2 (sat_idx_loc j4 r0' (by simp; omega)) ?_) | (with_reducible refine Sat.p1 (sat_idx_loc j4 r0' (by simp; omega)) ?_) | (with_reducible refine Sat.p0 (sat_idx_loc j4 r0' (by simp; omega)) ?_))
    rintro x S6 ⟨hx, rfl, -⟩
    obtain ⟨c, rfl, c0, c1⟩ : ∃ c : Int, x = .int c ∧ 0 ≤ c ∧ c ≤ 8 := by
      simp at hx
      rcases hx with rfl | rfl | rfl | rfl <;> exact ⟨_, rfl, by decide, by decide⟩
    simp only [v_cst,v_var,v_glb,v_bin,v_neg,v_nott,v_bo,v_cmp,v_cmp2,v_ife,v_tup,v_lst,v_idx,v_sli,v_call,v_prim,v_isi,v_meth,v_comp,w_nott,w_bo,w_cmp,w_cmp2,w_var,w_idx,w_call,w_prim,w_isi,v_bv1,v_bv2,v_bt1,v_bt2,v_c0,v_c1,v_a0,v_a1,v_o0,v_o1,v_rng,v_rng2,v_seq,v_tvar,v_ttup,v_tsub,v_gs0,v_gs1,v_asg,v_ifs,v_ret,v_retN,v_exp,v_pas,v_brk,v_cnt,v_for,v_whl,v_zipf,kZp,v_b0,v_b1,kVar,kGlb,kBin,kNeg,kNot,kCmp2,kCmp,kChn2,kChn,kIfe,kTup,kLst,kIdx,kSli2,kSli,kIsi,kMeth,kTru,tVar',tNotB,tCmp2,tCmp',tChn2,tChn,tIdx,tCal,tPri,tIsi,kBV,kBT,kCons,kArg,kOpt,kRngB,kSeq,kEn,kSub2,kSub,kGs,kNx,kAsg,kIfs,kRet,kExp,kB,kComp1,kEl1,kEl,kCd,Res.bind_ok,finF,Cn_call,Cn_glob,Cn_W]
    rw [kRng_of (by omega) (by omega)]
    simp only [Res.bind_ok]
    generalize hli : S4.length = li at j3 ⊢
    (first | (with_reducible refine Sat.p14 (loop (IIns (.kl (ns.map D.int)) (.int k) nb ls lo li os) noB noR ?_ ?_) ?_) | (with_reducible refine Sat.p13 (loop (IIns (.kl (ns.map D.int)) (.int k) nb ls lo li os) noB noR ?_ ?_) ?_) | (with_reducible refine Sat.p12 (loop (IIns (.kl (ns.map D.int)) (.int k) nb ls lo li os) noB noR ?_ ?_) ?_) | (with_reducible refine Sat.p11 (loop (IIns (.kl (ns.map D.int)) (.int k) nb ls lo li os) noB noR ?_ ?_) ?_) | (with_reducible refine Sat.p10 (loop (IIns (.kl (ns.map D.int)) (.int k) nb ls lo li os) noB noR ?_ ?_) ?_) | (with_reducible refine Sat.p9 (loop (IIns (.kl (ns.map D.int)) (.int k) nb ls lo li os) noB noR ?_ ?_) ?_) | (with_reducible refine Sat.p8 (loop (IIns (.kl (ns.map D.int)) (.int k) nb ls lo li os) noB noR ?_ ?_) ?_) | (with_reducible refine Sat.p7 (loop (IIns (.kl (ns.map D.int)) (.int k) nb ls lo li os) noB noR ?_ ?_) ?_) | (with_reducible refine Sat.p6 (loop (IIns (.kl (ns.map D.int)) (.int k) nb ls lo li os) noB noR ?_ ?_) ?_) | (with_reducible refine Sat.p5 (loop (IIns (.kl (ns.map D.int)) (.int k) nb ls lo li os) noB noR ?_ ?_) ?_) | (with_reducible refine Sat.p4 (loop (IIns (.kl (ns.map D.int)) (.int k) nb ls lo li os) noB noR ?_ ?_) ?_) | (with_reducible refine Sat.p3 (loop (IIns (.kl (ns.map D.int)) (.int k) nb ls lo li os) noB noR ?_ ?_) ?_) | (with_reducible refine Sat.p2 (loop (IIns (.kl (ns.map D.int)) (.int k) nb ls lo li os) noB noR ?_ ?_) ?_) | (with_reducible refine Sat.p1 (loop (IIns (.kl (ns.map D.int)) (.int k) nb ls lo li os) noB noR ?_ ?_) ?_) | (with_reducible refine Sat.p0 (loop (IIns (.kl (ns.map D.int)) (.int k) nb ls lo li os) noB noR ?_ ?_) ?_))
    · exact ⟨a3, b3, [], _, _, _, _, _, _, rfl, j1, j2, j3, rfl, by omega, by omega, hne⟩
    · rintro i d τ S7 hd ⟨a, b, is, q5, q6, q8, q9, q10, q11, rfl, h1, h2, h3, hl, n1, n2, n3⟩
      have hi : i < 50 := by
        have := (List.getElem?_eq_some_iff.mp hd).1
        simp at this
        omega
      rw [turnF_eq]
      simp only [v_tvar]
      exact hins (.kl (ns.map D.int)) (.int k) nb ls lo li os i hi a b is d q6 q8 q9 q10 q11 S7 h1 h2 h3 hl n1 n2 n3
    · intro fl S7 q
      obtain ⟨_, rfl, a, b, is, q5, q6, q8, q9, q10, q11, rfl, h1, h2, h3, hl, n1, n2, n3⟩ := q.nx
      have hisl : is.length ≤ 60 := by simp at hl; omega
      simp only [v_cst,v_var,v_glb,v_bin,v_neg,v_nott,v_bo,v_cmp,v_cmp2,v_ife,v_tup,v_lst,v_idx,v_sli,v_call,v_prim,v_isi,v_meth,v_comp,w_nott,w_bo,w_cmp,w_cmp2,w_var,w_idx,w_call,w_prim,w_isi,v_bv1,v_bv2,v_bt1,v_bt2,v_c0,v_c1,v_a0,v_a1,v_o0,v_o1,v_rng,v_rng2,v_seq,v_tvar,v_ttup,v_tsub,v_gs0,v_gs1,v_asg,v_ifs,v_ret,v_retN,v_exp,v_pas,v_brk,v_cnt,v_for,v_whl,v_zipf,kZp,v_b0,v_b1,kVar,kGlb,kBin,kNeg,kNot,kCmp2,kCmp,kChn2,kChn,kIfe,kTup,kLst,kIdx,kSli2,kSli,kIsi,kMeth,kTru,tVar',tNotB,tCmp2,tCmp',tChn2,tChn,tIdx,tCal,tPri,tIsi,kBV,kBT,kCons,kArg,kOpt,kRngB,kSeq,kEn,kSub2,kSub,kGs,kNx,kAsg,kIfs,kRet,kExp,kB,kComp1,kEl1,kEl,kCd,Res.bind_ok,finF,Cn_call,Cn_glob,Cn_W]
      have c1 : ∀ S, (Cn T G 100 29).call "is_maker" [.tup [.int nb, .tup is, .tup (os.map oD)]] S = .ok (.bl (decide (is.length = 0))) S := fun S => by
        rw [Cn_call]
        exact is_maker 28 _ _ is S
      have c2 : ∀ S : Store, (Cn T G 100 29).call "made_by" [.tup [.int nb, .tup is, .tup (os.map oD)]] S = .ok (.loc S.length) (S ++ [.lst ((List.range os.length).map (cD nb))]) := fun S => by
        have := made_by 28 nb (.tup is) (os.map oD) (by simp; omega) S
        rw [List.length_map] at this
        rw [Cn_call]
        exact this
      have c3 : ∀ (l k : Nat) (S : Store), S[l]? = some (.lst ((List.range os.length).map (cD nb))) → S[k]? = some (.lst ((List.range os.length).map (cD nb))) → Sat ((Cn T G 100 29).call "_law_coins" [.loc l, .loc k] S) fun d S' => d = .bl true ∧ S' = S := fun l k S g1 g2 => by
        rw [Cn_call]
        exact coins 27 nb os.length l k S g1 g2
      have c4 : ∀ S : Store, (Cn T G 100 29).call "worth_of" [.tup [.int nb, .tup is, .tup (os.map oD)]] S = .ok (.int (os.map (·.1)).sum) (S ++ [.lst (os.map fun o => D.int o.1)]) := fun S => by
        rw [Cn_call]
        exact worth_of 28 _ _ os (by omega) S
      have c5 : ∀ (i : Int) (S : Store), (Cn T G 100 29).call "_law_whole" [.int i] S = .ok (.bl true) S := fun i S => by
        rw [Cn_call]
        exact whole 28 i S
      have := tail (Cn T G 100 29) (.kl (ns.map D.int)) (.int k) nb ls lo li os hos is c1 c2 c3 c4 c5 q5 q6 q8 q9 q10 q11 S7 h2 h3
      simp only [lawB, f_law, dropS] at this
      exact this
theorem run (ns : List Int) (hn : ns.length ≤ 63) : ∃ S', callN T G 100 30 "law" [.kl (ns.map D.int)] [] = .ok (.bl true) S' := by
  have hturn := law_turn ns
  simp only [lawB, f_law, dropS] at hturn
  have main : Sat (callN T G 100 30 "law" [.kl (ns.map D.int)] []) fun d _ => d = .bl true := by
    rw [callN_eq T_f_law rfl]
    obtain ⟨L, hL⟩ : ∃ L : Int, (ns.length : Int) = L := ⟨_, rfl⟩
    have hlen : primD .len [.kl (ns.map D.int)] [] = .ok (.int L) [] := by
      rw [← hL, ← List.length_map (f := D.int)]; rfl
    generalize hsc : D.kl (ns.map D.int) = sc at hturn hlen ⊢
    simp [f_law, v_cst,v_var,v_glb,v_bin,v_neg,v_nott,v_bo,v_cmp,v_cmp2,v_ife,v_tup,v_lst,v_idx,v_sli,v_call,v_prim,v_isi,v_meth,v_comp,w_nott,w_bo,w_cmp,w_cmp2,w_var,w_idx,w_call,w_prim,w_isi,v_bv1,v_bv2,v_bt1,v_bt2,v_c0,v_c1,v_a0,v_a1,v_o0,v_o1,v_rng,v_rng2,v_seq,v_tvar,v_ttup,v_tsub,v_gs0,v_gs1,v_asg,v_ifs,v_ret,v_retN,v_exp,v_pas,v_brk,v_cnt,v_for,v_whl,v_zipf,kZp,v_b0,v_b1,kVar,kGlb,kBin,kNeg,kNot,kCmp2,kCmp,kChn2,kChn,kIfe,kTup,kLst,kIdx,kSli2,kSli,kIsi,kMeth,kTru,tVar',tNotB,tCmp2,tCmp',tChn2,tChn,tIdx,tCal,tPri,tIsi,kBV,kBT,kCons,kArg,kOpt,kRngB,kSeq,kEn,kSub2,kSub,kGs,kNx,kAsg,kIfs,kRet,kExp,kB,kComp1,kEl1,kEl,kCd,Res.bind_ok,finF,Cn_call,Cn_glob,Cn_W, hlen]
    rw [kRng_of (by split <;> omega) (by split <;> omega)]
    simp only [Res.bind_ok]
    (first | (with_reducible refine Sat.p14 (loop (fun _ => ILaw sc) noB noR ?_ ?_) ?_) | (with_reducible refine Sat.p13 (loop (fun _ => ILaw sc) noB noR ?_ ?_) ?_) | (with_reducible refine Sat.p12 (loop (fun _ => ILaw sc) noB noR ?_ ?_) ?_) | (with_reducible refine Sat.p11 (loop (fun _ => ILaw sc) noB noR ?_ ?_) ?_) | (with_reducible refine Sat.p10 (loop (fun _ => ILaw sc) noB noR ?_ ?_) ?_) | (with_reducible refine Sat.p9 (loop (fun _ => ILaw sc) noB noR ?_ ?_) ?_) | (with_reducible refine Sat.p8 (loop (fun _ => ILaw sc) noB noR ?_ ?_) ?_) | (with_reducible refine Sat.p7 (loop (fun _ => ILaw sc) noB noR ?_ ?_) ?_) | (with_reducible refine Sat.p6 (loop (fun _ => ILaw sc) noB noR ?_ ?_) ?_) | (with_reducible refine Sat.p5 (loop (fun _ => ILaw sc) noB noR ?_ ?_) ?_) | (with_reducible refine Sat.p4 (loop (fun _ => ILaw sc) noB noR ?_ ?_) ?_) | (with_reducible refine Sat.p3 (loop (fun _ => ILaw sc) noB noR ?_ ?_) ?_) | (with_reducible refine Sat.p2 (loop (fun _ => ILaw sc) noB noR ?_ ?_) ?_) | (with_reducible refine Sat.p1 (loop (fun _ => ILaw sc) noB noR ?_ ?_) ?_) | (with_reducible refine Sat.p0 (loop (fun _ => ILaw sc) noB noR ?_ ?_) ?_))
    · exact ⟨_, _, _, _, _, _, _, _, _, _, _, rfl⟩
    · rintro i d τ S1 hd ⟨p1, p2, p3, p4, p5, p6, p7, p8, p9, p10, p11, rfl⟩
      rw [List.getElem?_map] at hd
      obtain ⟨j, -, rfl⟩ := Option.map_eq_some_iff.mp hd
      have := hturn (j : Int) (by omega) S1 p2 p3 p4 p5 p6 p7 p8 p9 p10 p11
      generalize (j : Int) = jj at this ⊢
      rw [turnF_eq]
      simp only [v_tvar]
      exact this
    · intro fl S1 q
      obtain ⟨_, rfl, p1, p2, p3, p4, p5, p6, p7, p8, p9, p10, p11, rfl⟩ := q.nx
      simp [v_cst,v_var,v_glb,v_bin,v_neg,v_nott,v_bo,v_cmp,v_cmp2,v_ife,v_tup,v_lst,v_idx,v_sli,v_call,v_prim,v_isi,v_meth,v_comp,w_nott,w_bo,w_cmp,w_cmp2,w_var,w_idx,w_call,w_prim,w_isi,v_bv1,v_bv2,v_bt1,v_bt2,v_c0,v_c1,v_a0,v_a1,v_o0,v_o1,v_rng,v_rng2,v_seq,v_tvar,v_ttup,v_tsub,v_gs0,v_gs1,v_asg,v_ifs,v_ret,v_retN,v_exp,v_pas,v_brk,v_cnt,v_for,v_whl,v_zipf,kZp,v_b0,v_b1,kVar,kGlb,kBin,kNeg,kNot,kCmp2,kCmp,kChn2,kChn,kIfe,kTup,kLst,kIdx,kSli2,kSli,kIsi,kMeth,kTru,tVar',tNotB,tCmp2,tCmp',tChn2,tChn,tIdx,tCal,tPri,tIsi,kBV,kBT,kCons,kArg,kOpt,kRngB,kSeq,kEn,kSub2,kSub,kGs,kNx,kAsg,kIfs,kRet,kExp,kB,kComp1,kEl1,kEl,kCd,Res.bind_ok,finF,Cn_call,Cn_glob,Cn_W]
  obtain ⟨d, S', e, rfl⟩ := main
  exact ⟨S', e⟩
end K12

namespace K12
open PySem L2 Mi
noncomputable def top (i : Nat) : Stmt := PySem.Challenge.pw_spentonce_k12_makers_and_sums.main.body.getD i (.Pass ⟨0, 0, 0, 0⟩)
noncomputable def B : List String := ["len", "range", "sum", "isinstance", "int", "bool", "list", "zip", "tuple", "max", "min"]
noncomputable def F : List String := ["is_maker", "made_by", "worth_of", "_law_begin", "_law_pick", "_law_big", "_law_whole", "_law_coins", "law"]
theorem sc_0 : FnScope (f_is_maker.N.map Str.ofString) (f_is_maker.ps.map Str.ofString) (defScope (top 1)) := ⟨rfl, rfl, rfl, by decide +kernel, by decide +kernel, by decide +kernel, by decide +kernel⟩
theorem ck_0 : chkB f_is_maker.body ⟨f_is_maker.N.map Str.ofString, (defScope (top 1)).names, true, B, F⟩ (defBody (top 1)) = true := by decide +kernel
theorem sc_1 : FnScope (f_made_by.N.map Str.ofString) (f_made_by.ps.map Str.ofString) (defScope (top 2)) := ⟨rfl, rfl, rfl, by decide +kernel, by decide +kernel, by decide +kernel, by decide +kernel⟩
theorem ck_1 : chkB f_made_by.body ⟨f_made_by.N.map Str.ofString, (defScope (top 2)).names, true, B, F⟩ (defBody (top 2)) = true := by decide +kernel
theorem sc_2 : FnScope (f_worth_of.N.map Str.ofString) (f_worth_of.ps.map Str.ofString) (defScope (top 3)) := ⟨rfl, rfl, rfl, by decide +kernel, by decide +kernel, by decide +kernel, by decide +kernel⟩
theorem ck_2 : chkB f_worth_of.body ⟨f_worth_of.N.map Str.ofString, (defScope (top 3)).names, true, B, F⟩ (defBody (top 3)) = true := by decide +kernel
theorem sc_3 : FnScope (f_law_begin.N.map Str.ofString) (f_law_begin.ps.map Str.ofString) (defScope (top 5)) := ⟨rfl, rfl, rfl, by decide +kernel, by decide +kernel, by decide +kernel, by decide +kernel⟩
theorem ck_3 : chkB f_law_begin.body ⟨f_law_begin.N.map Str.ofString, (defScope (top 5)).names, true, B, F⟩ (defBody (top 5)) = true := by decide +kernel
theorem sc_4 : FnScope (f_law_pick.N.map Str.ofString) (f_law_pick.ps.map Str.ofString) (defScope (top 6)) := ⟨rfl, rfl, rfl, by decide +kernel, by decide +kernel, by decide +kernel, by decide +kernel⟩
theorem ck_4 : chkB f_law_pick.body ⟨f_law_pick.N.map Str.ofString, (defScope (top 6)).names, true, B, F⟩ (defBody (top 6)) = true := by decide +kernel
theorem sc_5 : FnScope (f_law_big.N.map Str.ofString) (f_law_big.ps.map Str.ofString) (defScope (top 7)) := ⟨rfl, rfl, rfl, by decide +kernel, by decide +kernel, by decide +kernel, by decide +kernel⟩
theorem ck_5 : chkB f_law_big.body ⟨f_law_big.N.map Str.ofString, (defScope (top 7)).names, true, B, F⟩ (defBody (top 7)) = true := by decide +kernel
theorem sc_6 : FnScope (f_law_whole.N.map Str.ofString) (f_law_whole.ps.map Str.ofString) (defScope (top 8)) := ⟨rfl, rfl, rfl, by decide +kernel, by decide +kernel, by decide +kernel, by decide +kernel⟩
theorem ck_6 : chkB f_law_whole.body ⟨f_law_whole.N.map Str.ofString, (defScope (top 8)).names, true, B, F⟩ (defBody (top 8)) = true := by decide +kernel
theorem sc_7 : FnScope (f_law_coins.N.map Str.ofString) (f_law_coins.ps.map Str.ofString) (defScope (top 9)) := ⟨rfl, rfl, rfl, by decide +kernel, by decide +kernel, by decide +kernel, by decide +kernel⟩
theorem ck_7 : chkB f_law_coins.body ⟨f_law_coins.N.map Str.ofString, (defScope (top 9)).names, true, B, F⟩ (defBody (top 9)) = true := by decide +kernel
theorem sc_8 : FnScope (f_law.N.map Str.ofString) (f_law.ps.map Str.ofString) (defScope (top 10)) := ⟨rfl, rfl, rfl, by decide +kernel, by decide +kernel, by decide +kernel, by decide +kernel⟩
theorem ck_8 : chkB f_law.body ⟨f_law.N.map Str.ofString, (defScope (top 10)).names, true, B, F⟩ (defBody (top 10)) = true := by decide +kernel
theorem txt {K : PySem.W.Frag} {mg : Str → Option Value} {h : Heap}  (KX : K.In h) (hG : h.Ns mainGlobals mg) (f0 : FE K (Str.ofString "is_maker") (top 1)) (f1 : FE K (Str.ofString "made_by") (top 2)) (f2 : FE K (Str.ofString "worth_of") (top 3)) (f3 : FE K (Str.ofString "_law_begin") (top 5)) (f4 : FE K (Str.ofString "_law_pick") (top 6)) (f5 : FE K (Str.ofString "_law_big") (top 7)) (f6 : FE K (Str.ofString "_law_whole") (top 8)) (f7 : FE K (Str.ofString "_law_coins") (top 9)) (f8 : FE K (Str.ofString "law") (top 10)) (b0 : PySem.W.nsIn K mainGlobals (Str.ofString "len") = some none) (b1 : PySem.W.nsIn K mainGlobals (Str.ofString "range") = some none) (b2 : PySem.W.nsIn K mainGlobals (Str.ofString "sum") = some none) (b3 : PySem.W.nsIn K mainGlobals (Str.ofString "isinstance") = some none) (b4 : PySem.W.nsIn K mainGlobals (Str.ofString "int") = some none) (b5 : PySem.W.nsIn K mainGlobals (Str.ofString "bool") = some none) (b6 : PySem.W.nsIn K mainGlobals (Str.ofString "list") = some none) (b7 : PySem.W.nsIn K mainGlobals (Str.ofString "zip") = some none) (b8 : PySem.W.nsIn K mainGlobals (Str.ofString "tuple") = some none) (b9 : PySem.W.nsIn K mainGlobals (Str.ofString "max") = some none) (b10 : PySem.W.nsIn K mainGlobals (Str.ofString "min") = some none)  : Txt K mg T G B F where
  fns := by
    intro f hf
    simp only [F, List.mem_cons, List.not_mem_nil, or_false] at hf
    rcases hf with rfl | rfl | rfl | rfl | rfl | rfl | rfl | rfl | rfl
    · exact fnf_of KX hG f0 T_f_is_maker sc_0 ck_0 fun _ _ _ _ _ _ us hl => match us, hl with | [_], _ => rfl
    · exact fnf_of KX hG f1 T_f_made_by sc_1 ck_1 fun _ _ _ _ _ _ us hl => match us, hl with | [_], _ => rfl
    · exact fnf_of KX hG f2 T_f_worth_of sc_2 ck_2 fun _ _ _ _ _ _ us hl => match us, hl with | [_], _ => rfl
    · exact fnf_of KX hG f3 T_f_law_begin sc_3 ck_3 fun _ _ _ _ _ _ us hl => match us, hl with | [_, _], _ => rfl
    · exact fnf_of KX hG f4 T_f_law_pick sc_4 ck_4 fun _ _ _ _ _ _ us hl => match us, hl with | [_, _], _ => rfl
    · exact fnf_of KX hG f5 T_f_law_big sc_5 ck_5 fun _ _ _ _ _ _ us hl => match us, hl with | [_, _], _ => rfl
    · exact fnf_of KX hG f6 T_f_law_whole sc_6 ck_6 fun _ _ _ _ _ _ us hl => match us, hl with | [_], _ => rfl
    · exact fnf_of KX hG f7 T_f_law_coins sc_7 ck_7 fun _ _ _ _ _ _ us hl => match us, hl with | [_, _], _ => rfl
    · exact fnf_of KX hG f8 T_f_law sc_8 ck_8 fun _ _ _ _ _ _ us hl => match us, hl with | [_], _ => rfl
  blt := by
    intro x hx
    simp only [B, List.mem_cons, List.not_mem_nil, or_false] at hx
    rcases hx with rfl | rfl | rfl | rfl | rfl | rfl | rfl | rfl | rfl | rfl | rfl
    · exact gb_of KX hG b0
    · exact gb_of KX hG b1
    · exact gb_of KX hG b2
    · exact gb_of KX hG b3
    · exact gb_of KX hG b4
    · exact gb_of KX hG b5
    · exact gb_of KX hG b6
    · exact gb_of KX hG b7
    · exact gb_of KX hG b8
    · exact gb_of KX hG b9
    · exact gb_of KX hG b10
  gl := by
    intro x d hd
    unfold G at hd
    cases hd
end K12

open PySem PySem.W PyProof.Rows
set_option maxRecDepth 100000 in
set_option maxHeartbeats 0 in
theorem PySem.Challenge.cw_spentonce_k12_makers_and_sums_holds : PySem.Challenge.rw_spentonce_k12_makers_and_sums.Holds := by
  w_on; o_law; k_head; (case hw => w_witness2)
  k_fill
  refine Mi.walk (l := PySem.Challenge.rw_spentonce_k12_makers_and_sums) (T := K12.T) (G := K12.G) (B := K12.B) (F := K12.F) (x := "_law_script") (W := 100) (n := 30) rfl rfl (fun w h Y => PySem.W.kIn_of Y) ⟨rfl, by decide, by decide⟩ rfl (by decide) ⟨_, rfl, rfl⟩ ?X K12.run
  case X =>
    intro w mg h KX hG
    refine' K12.txt KX hG ?f0 ?f1 ?f2 ?f3 ?f4 ?f5 ?f6 ?f7 ?f8 ?b0 ?b1 ?b2 ?b3 ?b4 ?b5 ?b6 ?b7 ?b8 ?b9 ?b10 
    (case f0 => refine' Mi.fe_mk ?a ?l ?c ?k; (case a => k_is); (case l => k_is); (case c => k_is); (case k => k_is))
    (case f1 => refine' Mi.fe_mk ?a ?l ?c ?k; (case a => k_is); (case l => k_is); (case c => k_is); (case k => k_is))
    (case f2 => refine' Mi.fe_mk ?a ?l ?c ?k; (case a => k_is); (case l => k_is); (case c => k_is); (case k => k_is))
    (case f3 => refine' Mi.fe_mk ?a ?l ?c ?k; (case a => k_is); (case l => k_is); (case c => k_is); (case k => k_is))
    (case f4 => refine' Mi.fe_mk ?a ?l ?c ?k; (case a => k_is); (case l => k_is); (case c => k_is); (case k => k_is))
    (case f5 => refine' Mi.fe_mk ?a ?l ?c ?k; (case a => k_is); (case l => k_is); (case c => k_is); (case k => k_is))
    (case f6 => refine' Mi.fe_mk ?a ?l ?c ?k; (case a => k_is); (case l => k_is); (case c => k_is); (case k => k_is))
    (case f7 => refine' Mi.fe_mk ?a ?l ?c ?k; (case a => k_is); (case l => k_is); (case c => k_is); (case k => k_is))
    (case f8 => refine' Mi.fe_mk ?a ?l ?c ?k; (case a => k_is); (case l => k_is); (case c => k_is); (case k => k_is))
    (case b0 => k_is)
    (case b1 => k_is)
    (case b2 => k_is)
    (case b3 => k_is)
    (case b4 => k_is)
    (case b5 => k_is)
    (case b6 => k_is)
    (case b7 => k_is)
    (case b8 => k_is)
    (case b9 => k_is)
    (case b10 => k_is)

